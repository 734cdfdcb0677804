import PyProof.Rows.All
import Wide.All
import OpenK.AllK
import Wide.FinOn
import Lean
import PyProof.EqAt
import PyProof.EqKinds
import PyProof.TupleCall
import PySem.Challenge.RW_shadowpages_k14_looked_at
set_option Elab.async false
set_option linter.all false
set_option maxRecDepth 100000
set_option maxHeartbeats 4000000
section
namespace L2
open PySem
def inClass (s : Stmt) (j : Nat) : Stmt := match s with
  | .ClassDef _ _ _ body _ _ _ _ _ _ _ => body.getD j (.Pass ⟨0, 0, 0, 0⟩)
  | _ => .Pass ⟨0, 0, 0, 0⟩
def defArgs (s : Stmt) : Arguments := match s with
  | .FunctionDef _ a _ _ _ _ _ _ _ _ => a
  | _ => { posonlyargs := [], args := [], vararg := none, kwonlyargs := [], kw_defaults := [], kwarg := none, defaults := [] }
def defBody (s : Stmt) : List Stmt := match s with
  | .FunctionDef _ _ b _ _ _ _ _ _ _ => b
  | _ => []
def defScope (s : Stmt) : Scope := match s with
  | .FunctionDef _ _ _ _ _ _ sc _ _ _ => sc
  | _ => { kind := .function, names := [], isGenerator := false, isCoroutine := false }
end L2
end
section
namespace HT1
open PySem PySem.W PyProof.Rows
def topRunT (tb : String → Option Builtin) (p : Program) (w : World) (n₀ : Nat) (ann : Option Value) : Nat → SharedT → Thread → Option SharedT
  | 0, _, _ => none
  | n + 1, s, t => match through t with
    | true => some s
    | false => match stepOk n₀ ann t with
      | false => none
      | true => match stepT (denote tb) p w s t with
        | some (s', t') => topRunT tb p w n₀ ann n s' t'
        | none => none
theorem topRun_of {tb : String → Option Builtin} {p : Program} {w : World} {n₀ : Nat} {ann : Option Value} : ∀ {n : Nat} {s s' : SharedT} {t : Thread}, topRunT tb p w n₀ ann n s t = some s' → topRun tb p w n₀ ann n s.abs t = some s'.abs
  | 0, _, _, _, h => by cases h
  | n + 1, s, s', t, h => by
    unfold topRunT at h
    unfold topRun
    cases ht : through t with
    | true => rw [ht] at h; cases h; rfl
    | false =>
      rw [ht] at h
      cases hk : stepOk n₀ ann t with
      | false => rw [hk] at h; cases h
      | true =>
        rw [hk] at h
        cases hs : stepT (denote tb) p w s t with
        | none => rw [hs] at h; cases h
        | some r => obtain ⟨s₂, t₂⟩ := r; rw [hs] at h; rw [stepT_spec hs]; exact topRun_of h
def ofL : List Obj → Nat → BT → BT
  | [], _, t => t
  | o :: l, n, t => ofL l (n + 1) (t.ins n o)
noncomputable def bootT (P : Params) : BT := ofL (boot_heap P).objs.toList 0 .nil
def bootN : Nat := 11
noncomputable def bootS (w : World) (os : OsState) : SharedT := ⟨bootT w.params, bootN, (boot_heap w.params).life, Array.mk [], boot_drawn, boot_toks, os⟩
theorem boot_size (w : World) : ((boot_heap w.params).isNs mainGlobals && (Array.mk [] : Array GenState).size == 0, (boot_heap w.params).objs.size, (boot_heap w.params).nsMap mainGlobals "__annotations__") = (true, 11, some (.ref 6)) := by kernel_rfl
theorem boot_abs (w : World) (os : OsState) : (bootS w os).abs = ⟨boot_heap w.params, Array.mk [], boot_drawn, boot_toks, os⟩ := by kernel_rfl
noncomputable def lookT {α : Type} (p q : Program) (loose : List Str) (Xt : Shared → Bool) (Yf : Shared → α) (N : Nat) (g0 : Bool) (w : World) (os : OsState) :=
  (topRunT treeTable p w 11 (some (.ref 6)) N (bootS w os) (topStub p)).map fun s =>
    ((staticsOk (importedModules p.main.body) (boot_heap w.params) s.abs.heap && namesBound p s.abs.heap && gensDone s.abs && laidKept (boot_heap w.params) s.abs.heap),
      openSeen q loose (importedModules p.main.body) Xt g0 s.abs, Yf s.abs)
theorem left_one {p q : Program} {loose : List Str} {Xt : Shared → Bool} {α : Type} {Yf : Shared → α} {Ya : World → α} {N : Nat} {g0 : Bool}
    (e : opening p = plainProg p.main.scope.names) (hN : Nat.ble 600 N = true) (f : ∀ s, fenceModules? p s = some s)
    (looks : ∀ w : World, (fun os => lookT p q loose Xt Yf N g0 w os) = fun _ => some (true, openGood q loose, Ya w)) : LeftO p q loose Xt Yf Ya N g0 := fun w => by
  obtain ⟨⟨h, gs, d, k, os⟩, eo, e'⟩ := Option.map_eq_some_iff.mp (boot_open e hN f w)
  obtain ⟨rfl, rfl, rfl, rfl⟩ : h = boot_heap w.params ∧ gs = Array.mk [] ∧ d = boot_drawn ∧ k = boot_toks := by simpa using e'
  obtain ⟨z1, z2, z3⟩ : _ ∧ _ ∧ _ := by simpa only [Prod.mk.injEq] using boot_size w
  obtain ⟨s1, r1, l⟩ := Option.map_eq_some_iff.mp (congrFun (looks w) os)
  obtain ⟨l1, l2, l3⟩ : _ ∧ _ ∧ _ := by simpa only [Prod.mk.injEq] using l
  have r := topRun_of r1
  rw [boot_abs] at r
  have t : topFrom treeTable p w N ⟨boot_heap w.params, Array.mk [], boot_drawn, boot_toks, os⟩ = some s1.abs := by
    unfold topFrom
    dsimp only
    rw [z1, z2, z3, r]
    show (match staticsOk (importedModules p.main.body) (boot_heap w.params) s1.abs.heap && namesBound p s1.abs.heap && gensDone s1.abs && laidKept (boot_heap w.params) s1.abs.heap with | true => _ | false => _) = _
    rw [l1]
  unfold openEnds
  rw [eo]
  show (topFrom treeTable p w N _).map _ = _
  rw [t]
  exact congrArg some (Prod.ext l2 l3)
end HT1
lay_quick HT1.lookT PySem.W.xlAt PySem.W.recOk PySem.W.openGood
end
section
open PySem PySem.W PyProof.Rows
namespace K14
open PySem L2
def top (i : Nat) : Stmt := PySem.Challenge.pw_shadowpages_k14_looked_at.main.body.getD i (.Pass ⟨0, 0, 0, 0⟩)
def KF (P : Params) : PySem.W.Frag :=
  (nat_lit 2, ⟨.none, none, (.dict #[] 0), #[]⟩) ::
  (nat_lit 3, ⟨(.type "dict"), none, (.dict #[⟨(PyData.keyHash P "__name__"), (.str "__name__" 165), (.str "law_shadowpages_k14_looked_at" 656)⟩, ⟨(PyData.keyHash P "__doc__"), (.str "__doc__" 166), .none⟩, ⟨(PyData.keyHash P "__package__"), (.str "__package__" 167), .none⟩, ⟨(PyData.keyHash P "__loader__"), (.str "__loader__" 168), (.builtin "__main__.__loader__#opaque")⟩, ⟨(PyData.keyHash P "__spec__"), (.str "__spec__" 169), .none⟩, ⟨(PyData.keyHash P "__annotations__"), (.str "__annotations__" 170), (.ref 6)⟩, ⟨(PyData.keyHash P "__builtins__"), (.str "__builtins__" 171), (.ref 4)⟩, ⟨(PyData.keyHash P "__file__"), (.str "__file__" 173), (.str "/claim/cut.py" 172)⟩, ⟨(PyData.keyHash P "__cached__"), (.str "__cached__" 174), .none⟩, ⟨(PyData.keyHash P "_wall"), (.str "_wall" 193), (.ref 21)⟩, ⟨(PyData.keyHash P "WORDS"), (.str "WORDS" 195), (.int 281474976710656 194)⟩, ⟨(PyData.keyHash P "MARKS"), (.str "MARKS" 197), (.int 256 196)⟩, ⟨(PyData.keyHash P "PARTS"), (.str "PARTS" 199), (.int 8 198)⟩, ⟨(PyData.keyHash P "PLACES"), (.str "PLACES" 201), (.int 512 200)⟩, ⟨(PyData.keyHash P "CELLS"), (.str "CELLS" 203), (.int 8 202)⟩, ⟨(PyData.keyHash P "MOST_PAGES"), (.str "MOST_PAGES" 205), (.int 24 204)⟩, ⟨(PyData.keyHash P "HouseError"), (.str "HouseError" 225), (.ref 31)⟩, ⟨(PyData.keyHash P "NoWord"), (.str "NoWord" 241), (.ref 44)⟩, ⟨(PyData.keyHash P "NoRow"), (.str "NoRow" 257), (.ref 56)⟩, ⟨(PyData.keyHash P "NoPlace"), (.str "NoPlace" 273), (.ref 68)⟩, ⟨(PyData.keyHash P "NoPage"), (.str "NoPage" 289), (.ref 80)⟩, ⟨(PyData.keyHash P "NoImage"), (.str "NoImage" 305), (.ref 92)⟩, ⟨(PyData.keyHash P "NoFrame"), (.str "NoFrame" 321), (.ref 104)⟩, ⟨(PyData.keyHash P "Fault"), (.str "Fault" 350), (.ref 123)⟩, ⟨(PyData.keyHash P "is_whole"), (.str "is_whole" 359), (.ref 132)⟩, ⟨(PyData.keyHash P "is_below"), (.str "is_below" 367), (.ref 139)⟩, ⟨(PyData.keyHash P "is_word"), (.str "is_word" 374), (.ref 146)⟩, ⟨(PyData.keyHash P "parts_of"), (.str "parts_of" 384), (.ref 153)⟩, ⟨(PyData.keyHash P "number_of"), (.str "number_of" 391), (.ref 160)⟩, ⟨(PyData.keyHash P "PRESENT"), (.str "PRESENT" 395), (.int 1 394)⟩, ⟨(PyData.keyHash P "WRITABLE"), (.str "WRITABLE" 397), (.int 2 396)⟩, ⟨(PyData.keyHash P "KERNEL"), (.str "KERNEL" 399), (.int 4 398)⟩, ⟨(PyData.keyHash P "SOILED"), (.str "SOILED" 401), (.int 16 400)⟩, ⟨(PyData.keyHash P "page_of"), (.str "page_of" 408), (.ref 167)⟩, ⟨(PyData.keyHash P "has"), (.str "has" 416), (.ref 174)⟩, ⟨(PyData.keyHash P "look"), (.str "look" 434), (.ref 181)⟩, ⟨(PyData.keyHash P "check_row"), (.str "check_row" 446), (.ref 188)⟩, ⟨(PyData.keyHash P "rights_of"), (.str "rights_of" 454), (.ref 195)⟩, ⟨(PyData.keyHash P "is_eight_words"), (.str "is_eight_words" 462), (.ref 200)⟩, ⟨(PyData.keyHash P "check_image"), (.str "check_image" 470), (.ref 207)⟩, ⟨(PyData.keyHash P "check_word"), (.str "check_word" 477), (.ref 214)⟩, ⟨(PyData.keyHash P "Store"), (.str "Store" 575), (.ref 287)⟩, ⟨(PyData.keyHash P "Memory"), (.str "Memory" 655), (.ref 353)⟩, ⟨(PyData.keyHash P "_law_cell_at"), (.str "_law_cell_at" 665), (.ref 362)⟩, ⟨(PyData.keyHash P "_law_whole"), (.str "_law_whole" 672), (.ref 369)⟩, ⟨(PyData.keyHash P "_law_mixed"), (.str "_law_mixed" 681), (.ref 376)⟩, ⟨(PyData.keyHash P "_law_row"), (.str "_law_row" 694), (.ref 383)⟩, ⟨(PyData.keyHash P "_law_pages"), (.str "_law_pages" 700), (.ref 388)⟩, ⟨(PyData.keyHash P "_law_copy"), (.str "_law_copy" 706), (.ref 393)⟩, ⟨(PyData.keyHash P "_law_there"), (.str "_law_there" 714), (.ref 400)⟩, ⟨(PyData.keyHash P "_law_lack"), (.str "_law_lack" 724), (.ref 407)⟩, ⟨(PyData.keyHash P "_law_due"), (.str "_law_due" 739), (.ref 414)⟩, ⟨(PyData.keyHash P "_law_found"), (.str "_law_found" 753), (.ref 421)⟩, ⟨(PyData.keyHash P "_law_pair"), (.str "_law_pair" 761), (.ref 428)⟩, ⟨(PyData.keyHash P "_law_same"), (.str "_law_same" 769), (.ref 435)⟩, ⟨(PyData.keyHash P "law"), (.str "law" 775), (.ref 440)⟩] 56), #[]⟩) ::
  (nat_lit 15, ⟨(.type "tuple"), none, (.seq #[] 0), #[]⟩) ::
  (nat_lit 17, ⟨(.type "tuple"), none, (.seq #[(.str "k" 190)] 0), #[]⟩) ::
  (nat_lit 18, ⟨(.type "tuple"), none, (.seq #[] 0), #[]⟩) ::
  (nat_lit 20, ⟨(.type "code"), none, (.fields #[(.str "_wall" 187), (.str "_wall" 188), (.str "/claim/cut.py" 189), (.int 1 0), (.int 1 0), (.int 0 0), (.int 0 0), (.int 3 0), (.ref 15), (.bool true), (.int 181 0), (.ref 16), .none, (.ref 17), (.ref 18), (.ref 19), (.int 191 0), (.int 1 0), (.str "/claim/cut.py" 192)]), #[]⟩) ::
  (nat_lit 21, ⟨(.type "function"), none, (.func ⟨"_wall", "_wall", defArgs (top 0), .stmts (defBody (top 0)), defScope (top 0), 3, [], .none, .none, .none, (.str "__main__" 164), none, (.ref 20), .none, 0⟩), #[]⟩) ::
  (nat_lit 22, ⟨(.type "tuple"), none, (.seq #[(.type "ValueError")] 0), #[]⟩) ::
  (nat_lit 29, ⟨(.type "tuple"), none, (.seq #[] 0), #[]⟩) ::
  (nat_lit 30, ⟨(.type "dict"), none, (.dict #[⟨(PyData.keyHash P "__module__"), (.str "__module__" 215), (.str "shadowpages.errors" 206)⟩, ⟨(PyData.keyHash P "__firstlineno__"), (.str "__firstlineno__" 219), (.int 11 218)⟩, ⟨(PyData.keyHash P "__static_attributes__"), (.str "__static_attributes__" 220), (.ref 29)⟩, ⟨(PyData.keyHash P "__weakref__"), (.str "__weakref__" 222), (.ref 32)⟩, ⟨(PyData.keyHash P "__doc__"), (.str "__doc__" 223), .none⟩] 3), #[]⟩) ::
  (nat_lit 31, ⟨(.type "type"), none, (.cls ⟨"HouseError", [(.type "ValueError")], [(.ref 31), (.type "ValueError"), (.type "Exception"), (.type "BaseException"), (.type "object")], 30, "HouseError", true, [], [(.ref 44), (.ref 56), (.ref 68), (.ref 80), (.ref 92), (.ref 104), (.ref 123)], false, none, false⟩), #[(some (.ref 22)), none, (some (.str "HouseError" 208)), (some (.str "HouseError" 216)), (some (.builtin "ValueError.__new__")), (some (.bool true))]⟩) ::
  (nat_lit 32, ⟨(.type "getset_descriptor"), none, (.fields #[(.str "__weakref__" 221), (.ref 31), (.builtin "ExceptionGroup.__weakref__"), .none]), #[]⟩) ::
  (nat_lit 35, ⟨(.type "tuple"), none, (.seq #[(.ref 31)] 0), #[]⟩) ::
  (nat_lit 42, ⟨(.type "tuple"), none, (.seq #[] 0), #[]⟩) ::
  (nat_lit 43, ⟨(.type "dict"), none, (.dict #[⟨(PyData.keyHash P "__module__"), (.str "__module__" 233), (.str "shadowpages.errors" 206)⟩, ⟨(PyData.keyHash P "__firstlineno__"), (.str "__firstlineno__" 237), (.int 13 236)⟩, ⟨(PyData.keyHash P "__static_attributes__"), (.str "__static_attributes__" 238), (.ref 42)⟩, ⟨(PyData.keyHash P "__doc__"), (.str "__doc__" 239), .none⟩] 2), #[]⟩) ::
  (nat_lit 44, ⟨(.type "type"), none, (.cls ⟨"NoWord", [(.ref 31)], [(.ref 44), (.ref 31), (.type "ValueError"), (.type "Exception"), (.type "BaseException"), (.type "object")], 43, "NoWord", true, [], [], false, none, false⟩), #[(some (.ref 35)), none, (some (.str "NoWord" 226)), (some (.str "NoWord" 234)), (some (.builtin "ValueError.__new__")), (some (.bool true))]⟩) ::
  (nat_lit 47, ⟨(.type "tuple"), none, (.seq #[(.ref 31)] 0), #[]⟩) ::
  (nat_lit 54, ⟨(.type "tuple"), none, (.seq #[] 0), #[]⟩) ::
  (nat_lit 55, ⟨(.type "dict"), none, (.dict #[⟨(PyData.keyHash P "__module__"), (.str "__module__" 249), (.str "shadowpages.errors" 206)⟩, ⟨(PyData.keyHash P "__firstlineno__"), (.str "__firstlineno__" 253), (.int 15 252)⟩, ⟨(PyData.keyHash P "__static_attributes__"), (.str "__static_attributes__" 254), (.ref 54)⟩, ⟨(PyData.keyHash P "__doc__"), (.str "__doc__" 255), .none⟩] 2), #[]⟩) ::
  (nat_lit 56, ⟨(.type "type"), none, (.cls ⟨"NoRow", [(.ref 31)], [(.ref 56), (.ref 31), (.type "ValueError"), (.type "Exception"), (.type "BaseException"), (.type "object")], 55, "NoRow", true, [], [], false, none, false⟩), #[(some (.ref 47)), none, (some (.str "NoRow" 242)), (some (.str "NoRow" 250)), (some (.builtin "ValueError.__new__")), (some (.bool true))]⟩) ::
  (nat_lit 59, ⟨(.type "tuple"), none, (.seq #[(.ref 31)] 0), #[]⟩) ::
  (nat_lit 66, ⟨(.type "tuple"), none, (.seq #[] 0), #[]⟩) ::
  (nat_lit 67, ⟨(.type "dict"), none, (.dict #[⟨(PyData.keyHash P "__module__"), (.str "__module__" 265), (.str "shadowpages.errors" 206)⟩, ⟨(PyData.keyHash P "__firstlineno__"), (.str "__firstlineno__" 269), (.int 17 268)⟩, ⟨(PyData.keyHash P "__static_attributes__"), (.str "__static_attributes__" 270), (.ref 66)⟩, ⟨(PyData.keyHash P "__doc__"), (.str "__doc__" 271), .none⟩] 2), #[]⟩) ::
  (nat_lit 68, ⟨(.type "type"), none, (.cls ⟨"NoPlace", [(.ref 31)], [(.ref 68), (.ref 31), (.type "ValueError"), (.type "Exception"), (.type "BaseException"), (.type "object")], 67, "NoPlace", true, [], [], false, none, false⟩), #[(some (.ref 59)), none, (some (.str "NoPlace" 258)), (some (.str "NoPlace" 266)), (some (.builtin "ValueError.__new__")), (some (.bool true))]⟩) ::
  (nat_lit 71, ⟨(.type "tuple"), none, (.seq #[(.ref 31)] 0), #[]⟩) ::
  (nat_lit 78, ⟨(.type "tuple"), none, (.seq #[] 0), #[]⟩) ::
  (nat_lit 79, ⟨(.type "dict"), none, (.dict #[⟨(PyData.keyHash P "__module__"), (.str "__module__" 281), (.str "shadowpages.errors" 206)⟩, ⟨(PyData.keyHash P "__firstlineno__"), (.str "__firstlineno__" 285), (.int 19 284)⟩, ⟨(PyData.keyHash P "__static_attributes__"), (.str "__static_attributes__" 286), (.ref 78)⟩, ⟨(PyData.keyHash P "__doc__"), (.str "__doc__" 287), .none⟩] 2), #[]⟩) ::
  (nat_lit 80, ⟨(.type "type"), none, (.cls ⟨"NoPage", [(.ref 31)], [(.ref 80), (.ref 31), (.type "ValueError"), (.type "Exception"), (.type "BaseException"), (.type "object")], 79, "NoPage", true, [], [], false, none, false⟩), #[(some (.ref 71)), none, (some (.str "NoPage" 274)), (some (.str "NoPage" 282)), (some (.builtin "ValueError.__new__")), (some (.bool true))]⟩) ::
  (nat_lit 83, ⟨(.type "tuple"), none, (.seq #[(.ref 31)] 0), #[]⟩) ::
  (nat_lit 90, ⟨(.type "tuple"), none, (.seq #[] 0), #[]⟩) ::
  (nat_lit 91, ⟨(.type "dict"), none, (.dict #[⟨(PyData.keyHash P "__module__"), (.str "__module__" 297), (.str "shadowpages.errors" 206)⟩, ⟨(PyData.keyHash P "__firstlineno__"), (.str "__firstlineno__" 301), (.int 21 300)⟩, ⟨(PyData.keyHash P "__static_attributes__"), (.str "__static_attributes__" 302), (.ref 90)⟩, ⟨(PyData.keyHash P "__doc__"), (.str "__doc__" 303), .none⟩] 2), #[]⟩) ::
  (nat_lit 92, ⟨(.type "type"), none, (.cls ⟨"NoImage", [(.ref 31)], [(.ref 92), (.ref 31), (.type "ValueError"), (.type "Exception"), (.type "BaseException"), (.type "object")], 91, "NoImage", true, [], [], false, none, false⟩), #[(some (.ref 83)), none, (some (.str "NoImage" 290)), (some (.str "NoImage" 298)), (some (.builtin "ValueError.__new__")), (some (.bool true))]⟩) ::
  (nat_lit 95, ⟨(.type "tuple"), none, (.seq #[(.ref 31)] 0), #[]⟩) ::
  (nat_lit 102, ⟨(.type "tuple"), none, (.seq #[] 0), #[]⟩) ::
  (nat_lit 103, ⟨(.type "dict"), none, (.dict #[⟨(PyData.keyHash P "__module__"), (.str "__module__" 313), (.str "shadowpages.errors" 206)⟩, ⟨(PyData.keyHash P "__firstlineno__"), (.str "__firstlineno__" 317), (.int 23 316)⟩, ⟨(PyData.keyHash P "__static_attributes__"), (.str "__static_attributes__" 318), (.ref 102)⟩, ⟨(PyData.keyHash P "__doc__"), (.str "__doc__" 319), .none⟩] 2), #[]⟩) ::
  (nat_lit 104, ⟨(.type "type"), none, (.cls ⟨"NoFrame", [(.ref 31)], [(.ref 104), (.ref 31), (.type "ValueError"), (.type "Exception"), (.type "BaseException"), (.type "object")], 103, "NoFrame", true, [], [], false, none, false⟩), #[(some (.ref 95)), none, (some (.str "NoFrame" 306)), (some (.str "NoFrame" 314)), (some (.builtin "ValueError.__new__")), (some (.bool true))]⟩) ::
  (nat_lit 107, ⟨(.type "tuple"), none, (.seq #[(.ref 31)] 0), #[]⟩) ::
  (nat_lit 114, ⟨(.type "tuple"), none, (.seq #[] 0), #[]⟩) ::
  (nat_lit 116, ⟨(.type "tuple"), none, (.seq #[(.str "self" 337), (.str "kind" 338), (.str "place" 339), (.str "level" 340)] 0), #[]⟩) ::
  (nat_lit 117, ⟨(.type "tuple"), none, (.seq #[] 0), #[]⟩) ::
  (nat_lit 119, ⟨(.type "code"), none, (.fields #[(.str "__init__" 334), (.str "Fault.__init__" 335), (.str "/claim/cut.py" 336), (.int 27 0), (.int 4 0), (.int 0 0), (.int 0 0), (.int 3 0), (.ref 114), (.bool true), (.int 181 0), (.ref 115), .none, (.ref 116), (.ref 117), (.ref 118), (.int 341 0), (.int 27 0), (.str "/claim/cut.py" 342)]), #[]⟩) ::
  (nat_lit 120, ⟨(.type "function"), none, (.func ⟨"__init__", "Fault.__init__", defArgs (inClass (top 15) 0), .stmts (defBody (inClass (top 15) 0)), defScope (inClass (top 15) 0), 3, [], .none, .none, .none, (.str "shadowpages.errors" 206), none, (.ref 119), .none, 0⟩), #[]⟩) ::
  (nat_lit 121, ⟨(.type "tuple"), none, (.seq #[(.str "kind" 344), (.str "level" 345), (.str "place" 346)] 0), #[]⟩) ::
  (nat_lit 122, ⟨(.type "dict"), none, (.dict #[⟨(PyData.keyHash P "__module__"), (.str "__module__" 329), (.str "shadowpages.errors" 206)⟩, ⟨(PyData.keyHash P "__firstlineno__"), (.str "__firstlineno__" 333), (.int 25 332)⟩, ⟨(PyData.keyHash P "__init__"), (.str "__init__" 343), (.ref 120)⟩, ⟨(PyData.keyHash P "__static_attributes__"), (.str "__static_attributes__" 347), (.ref 121)⟩, ⟨(PyData.keyHash P "__doc__"), (.str "__doc__" 348), .none⟩] 2), #[]⟩) ::
  (nat_lit 123, ⟨(.type "type"), none, (.cls ⟨"Fault", [(.ref 31)], [(.ref 123), (.ref 31), (.type "ValueError"), (.type "Exception"), (.type "BaseException"), (.type "object")], 122, "Fault", true, [], [], false, none, false⟩), #[(some (.ref 107)), none, (some (.str "Fault" 322)), (some (.str "Fault" 330)), (some (.builtin "ValueError.__new__")), (some (.bool true))]⟩) ::
  (nat_lit 126, ⟨(.type "tuple"), none, (.seq #[] 0), #[]⟩) ::
  (nat_lit 128, ⟨(.type "tuple"), none, (.seq #[(.str "thing" 356)] 0), #[]⟩) ::
  (nat_lit 129, ⟨(.type "tuple"), none, (.seq #[] 0), #[]⟩) ::
  (nat_lit 131, ⟨(.type "code"), none, (.fields #[(.str "is_whole" 353), (.str "is_whole" 354), (.str "/claim/cut.py" 355), (.int 32 0), (.int 1 0), (.int 0 0), (.int 0 0), (.int 3 0), (.ref 126), (.bool true), (.int 181 0), (.ref 127), .none, (.ref 128), (.ref 129), (.ref 130), (.int 357 0), (.int 32 0), (.str "/claim/cut.py" 358)]), #[]⟩) ::
  (nat_lit 132, ⟨(.type "function"), none, (.func ⟨"is_whole", "is_whole", defArgs (top 17), .stmts (defBody (top 17)), defScope (top 17), 3, [], .none, .none, .none, (.str "shadowpages.words" 351), none, (.ref 131), .none, 0⟩), #[]⟩) ::
  (nat_lit 133, ⟨(.type "tuple"), none, (.seq #[] 0), #[]⟩) ::
  (nat_lit 135, ⟨(.type "tuple"), none, (.seq #[(.str "thing" 363), (.str "bound" 364)] 0), #[]⟩) ::
  (nat_lit 136, ⟨(.type "tuple"), none, (.seq #[] 0), #[]⟩) ::
  (nat_lit 138, ⟨(.type "code"), none, (.fields #[(.str "is_below" 360), (.str "is_below" 361), (.str "/claim/cut.py" 362), (.int 34 0), (.int 2 0), (.int 0 0), (.int 0 0), (.int 3 0), (.ref 133), (.bool true), (.int 181 0), (.ref 134), .none, (.ref 135), (.ref 136), (.ref 137), (.int 365 0), (.int 34 0), (.str "/claim/cut.py" 366)]), #[]⟩) ::
  (nat_lit 139, ⟨(.type "function"), none, (.func ⟨"is_below", "is_below", defArgs (top 18), .stmts (defBody (top 18)), defScope (top 18), 3, [], .none, .none, .none, (.str "shadowpages.words" 351), none, (.ref 138), .none, 0⟩), #[]⟩) ::
  (nat_lit 140, ⟨(.type "tuple"), none, (.seq #[] 0), #[]⟩) ::
  (nat_lit 142, ⟨(.type "tuple"), none, (.seq #[(.str "thing" 371)] 0), #[]⟩) ::
  (nat_lit 143, ⟨(.type "tuple"), none, (.seq #[] 0), #[]⟩) ::
  (nat_lit 145, ⟨(.type "code"), none, (.fields #[(.str "is_word" 368), (.str "is_word" 369), (.str "/claim/cut.py" 370), (.int 36 0), (.int 1 0), (.int 0 0), (.int 0 0), (.int 3 0), (.ref 140), (.bool true), (.int 181 0), (.ref 141), .none, (.ref 142), (.ref 143), (.ref 144), (.int 372 0), (.int 36 0), (.str "/claim/cut.py" 373)]), #[]⟩) ::
  (nat_lit 146, ⟨(.type "function"), none, (.func ⟨"is_word", "is_word", defArgs (top 19), .stmts (defBody (top 19)), defScope (top 19), 3, [], .none, .none, .none, (.str "shadowpages.words" 351), none, (.ref 145), .none, 0⟩), #[]⟩) ::
  (nat_lit 147, ⟨(.type "tuple"), none, (.seq #[] 0), #[]⟩) ::
  (nat_lit 149, ⟨(.type "tuple"), none, (.seq #[(.str "place" 380), (.str "number" 381)] 0), #[]⟩) ::
  (nat_lit 150, ⟨(.type "tuple"), none, (.seq #[] 0), #[]⟩) ::
  (nat_lit 152, ⟨(.type "code"), none, (.fields #[(.str "parts_of" 377), (.str "parts_of" 378), (.str "/claim/cut.py" 379), (.int 39 0), (.int 1 0), (.int 0 0), (.int 0 0), (.int 3 0), (.ref 147), (.bool true), (.int 181 0), (.ref 148), .none, (.ref 149), (.ref 150), (.ref 151), (.int 382 0), (.int 39 0), (.str "/claim/cut.py" 383)]), #[]⟩) ::
  (nat_lit 153, ⟨(.type "function"), none, (.func ⟨"parts_of", "parts_of", defArgs (top 21), .stmts (defBody (top 21)), defScope (top 21), 3, [], .none, .none, .none, (.str "shadowpages.places" 375), none, (.ref 152), .none, 0⟩), #[]⟩) ::
  (nat_lit 154, ⟨(.type "tuple"), none, (.seq #[] 0), #[]⟩) ::
  (nat_lit 156, ⟨(.type "tuple"), none, (.seq #[(.str "place" 388)] 0), #[]⟩) ::
  (nat_lit 157, ⟨(.type "tuple"), none, (.seq #[] 0), #[]⟩) ::
  (nat_lit 159, ⟨(.type "code"), none, (.fields #[(.str "number_of" 385), (.str "number_of" 386), (.str "/claim/cut.py" 387), (.int 42 0), (.int 1 0), (.int 0 0), (.int 0 0), (.int 3 0), (.ref 154), (.bool true), (.int 181 0), (.ref 155), .none, (.ref 156), (.ref 157), (.ref 158), (.int 389 0), (.int 42 0), (.str "/claim/cut.py" 390)]), #[]⟩) ::
  (nat_lit 160, ⟨(.type "function"), none, (.func ⟨"number_of", "number_of", defArgs (top 22), .stmts (defBody (top 22)), defScope (top 22), 3, [], .none, .none, .none, (.str "shadowpages.places" 375), none, (.ref 159), .none, 0⟩), #[]⟩) ::
  (nat_lit 161, ⟨(.type "tuple"), none, (.seq #[] 0), #[]⟩) ::
  (nat_lit 163, ⟨(.type "tuple"), none, (.seq #[(.str "row" 405)] 0), #[]⟩) ::
  (nat_lit 164, ⟨(.type "tuple"), none, (.seq #[] 0), #[]⟩) ::
  (nat_lit 166, ⟨(.type "code"), none, (.fields #[(.str "page_of" 402), (.str "page_of" 403), (.str "/claim/cut.py" 404), (.int 51 0), (.int 1 0), (.int 0 0), (.int 0 0), (.int 3 0), (.ref 161), (.bool true), (.int 181 0), (.ref 162), .none, (.ref 163), (.ref 164), (.ref 165), (.int 406 0), (.int 51 0), (.str "/claim/cut.py" 407)]), #[]⟩) ::
  (nat_lit 167, ⟨(.type "function"), none, (.func ⟨"page_of", "page_of", defArgs (top 28), .stmts (defBody (top 28)), defScope (top 28), 3, [], .none, .none, .none, (.str "shadowpages.rows" 392), none, (.ref 166), .none, 0⟩), #[]⟩) ::
  (nat_lit 168, ⟨(.type "tuple"), none, (.seq #[] 0), #[]⟩) ::
  (nat_lit 170, ⟨(.type "tuple"), none, (.seq #[(.str "row" 412), (.str "marks" 413)] 0), #[]⟩) ::
  (nat_lit 171, ⟨(.type "tuple"), none, (.seq #[] 0), #[]⟩) ::
  (nat_lit 173, ⟨(.type "code"), none, (.fields #[(.str "has" 409), (.str "has" 410), (.str "/claim/cut.py" 411), (.int 53 0), (.int 2 0), (.int 0 0), (.int 0 0), (.int 3 0), (.ref 168), (.bool true), (.int 181 0), (.ref 169), .none, (.ref 170), (.ref 171), (.ref 172), (.int 414 0), (.int 53 0), (.str "/claim/cut.py" 415)]), #[]⟩) ::
  (nat_lit 174, ⟨(.type "function"), none, (.func ⟨"has", "has", defArgs (top 29), .stmts (defBody (top 29)), defScope (top 29), 3, [], .none, .none, .none, (.str "shadowpages.rows" 392), none, (.ref 173), .none, 0⟩), #[]⟩) ::
  (nat_lit 175, ⟨(.type "tuple"), none, (.seq #[] 0), #[]⟩) ::
  (nat_lit 177, ⟨(.type "tuple"), none, (.seq #[(.str "store" 422), (.str "root" 423), (.str "place" 424), (.str "write" 425), (.str "kernel" 426), (.str "parts" 427), (.str "top" 428), (.str "top_row" 429), (.str "low" 430), (.str "low_row" 431)] 0), #[]⟩) ::
  (nat_lit 178, ⟨(.type "tuple"), none, (.seq #[] 0), #[]⟩) ::
  (nat_lit 180, ⟨(.type "code"), none, (.fields #[(.str "look" 419), (.str "look" 420), (.str "/claim/cut.py" 421), (.int 56 0), (.int 5 0), (.int 0 0), (.int 0 0), (.int 3 0), (.ref 175), (.bool true), (.int 181 0), (.ref 176), .none, (.ref 177), (.ref 178), (.ref 179), (.int 432 0), (.int 56 0), (.str "/claim/cut.py" 433)]), #[]⟩) ::
  (nat_lit 181, ⟨(.type "function"), none, (.func ⟨"look", "look", defArgs (top 31), .stmts (defBody (top 31)), defScope (top 31), 3, [], .none, .none, .none, (.str "shadowpages.walk" 417), none, (.ref 180), .none, 0⟩), #[]⟩) ::
  (nat_lit 182, ⟨(.type "tuple"), none, (.seq #[] 0), #[]⟩) ::
  (nat_lit 184, ⟨(.type "tuple"), none, (.seq #[(.str "store" 438), (.str "row" 439), (.str "write" 440), (.str "kernel" 441), (.str "place" 442), (.str "level" 443)] 0), #[]⟩) ::
  (nat_lit 185, ⟨(.type "tuple"), none, (.seq #[] 0), #[]⟩) ::
  (nat_lit 187, ⟨(.type "code"), none, (.fields #[(.str "check_row" 435), (.str "check_row" 436), (.str "/claim/cut.py" 437), (.int 69 0), (.int 6 0), (.int 0 0), (.int 0 0), (.int 3 0), (.ref 182), (.bool true), (.int 181 0), (.ref 183), .none, (.ref 184), (.ref 185), (.ref 186), (.int 444 0), (.int 69 0), (.str "/claim/cut.py" 445)]), #[]⟩) ::
  (nat_lit 188, ⟨(.type "function"), none, (.func ⟨"check_row", "check_row", defArgs (top 32), .stmts (defBody (top 32)), defScope (top 32), 3, [], .none, .none, .none, (.str "shadowpages.walk" 417), none, (.ref 187), .none, 0⟩), #[]⟩) ::
  (nat_lit 189, ⟨(.type "tuple"), none, (.seq #[] 0), #[]⟩) ::
  (nat_lit 191, ⟨(.type "tuple"), none, (.seq #[(.str "top_row" 450), (.str "low_row" 451)] 0), #[]⟩) ::
  (nat_lit 192, ⟨(.type "tuple"), none, (.seq #[] 0), #[]⟩) ::
  (nat_lit 194, ⟨(.type "code"), none, (.fields #[(.str "rights_of" 447), (.str "rights_of" 448), (.str "/claim/cut.py" 449), (.int 78 0), (.int 2 0), (.int 0 0), (.int 0 0), (.int 3 0), (.ref 189), (.bool true), (.int 181 0), (.ref 190), .none, (.ref 191), (.ref 192), (.ref 193), (.int 452 0), (.int 78 0), (.str "/claim/cut.py" 453)]), #[]⟩) ::
  (nat_lit 195, ⟨(.type "function"), none, (.func ⟨"rights_of", "rights_of", defArgs (top 33), .stmts (defBody (top 33)), defScope (top 33), 3, [], .none, .none, .none, (.str "shadowpages.walk" 417), none, (.ref 194), .none, 0⟩), #[]⟩) ::
  (nat_lit 196, ⟨(.type "tuple"), none, (.seq #[] 0), #[]⟩) ::
  (nat_lit 199, ⟨(.type "code"), none, (.fields #[(.str "is_eight_words" 457), (.str "is_eight_words" 458), (.str "/claim/cut.py" 459), (.int 81 0), (.int 1 0), (.int 0 0), (.int 0 0), (.int 3 0), (.ref 196), (.bool true), (.int 181 0), (.ref 197), .none, .none, .none, (.ref 198), (.int 460 0), (.int 81 0), (.str "/claim/cut.py" 461)]), #[]⟩) ::
  (nat_lit 200, ⟨(.type "function"), none, (.func ⟨"is_eight_words", "is_eight_words", defArgs (top 35), .stmts (defBody (top 35)), defScope (top 35), 3, [], .none, .none, .none, (.str "shadowpages.store" 455), none, (.ref 199), .none, 0⟩), #[]⟩) ::
  (nat_lit 201, ⟨(.type "tuple"), none, (.seq #[] 0), #[]⟩) ::
  (nat_lit 203, ⟨(.type "tuple"), none, (.seq #[(.str "pages" 466), (.str "page" 467)] 0), #[]⟩) ::
  (nat_lit 204, ⟨(.type "tuple"), none, (.seq #[] 0), #[]⟩) ::
  (nat_lit 206, ⟨(.type "code"), none, (.fields #[(.str "check_image" 463), (.str "check_image" 464), (.str "/claim/cut.py" 465), (.int 83 0), (.int 1 0), (.int 0 0), (.int 0 0), (.int 3 0), (.ref 201), (.bool true), (.int 181 0), (.ref 202), .none, (.ref 203), (.ref 204), (.ref 205), (.int 468 0), (.int 83 0), (.str "/claim/cut.py" 469)]), #[]⟩) ::
  (nat_lit 207, ⟨(.type "function"), none, (.func ⟨"check_image", "check_image", defArgs (top 36), .stmts (defBody (top 36)), defScope (top 36), 3, [], .none, .none, .none, (.str "shadowpages.store" 455), none, (.ref 206), .none, 0⟩), #[]⟩) ::
  (nat_lit 208, ⟨(.type "tuple"), none, (.seq #[] 0), #[]⟩) ::
  (nat_lit 210, ⟨(.type "tuple"), none, (.seq #[(.str "word" 474)] 0), #[]⟩) ::
  (nat_lit 211, ⟨(.type "tuple"), none, (.seq #[] 0), #[]⟩) ::
  (nat_lit 213, ⟨(.type "code"), none, (.fields #[(.str "check_word" 471), (.str "check_word" 472), (.str "/claim/cut.py" 473), (.int 89 0), (.int 1 0), (.int 0 0), (.int 0 0), (.int 3 0), (.ref 208), (.bool true), (.int 181 0), (.ref 209), .none, (.ref 210), (.ref 211), (.ref 212), (.int 475 0), (.int 89 0), (.str "/claim/cut.py" 476)]), #[]⟩) ::
  (nat_lit 214, ⟨(.type "function"), none, (.func ⟨"check_word", "check_word", defArgs (top 37), .stmts (defBody (top 37)), defScope (top 37), 3, [], .none, .none, .none, (.str "shadowpages.store" 455), none, (.ref 213), .none, 0⟩), #[]⟩) ::
  (nat_lit 222, ⟨(.type "tuple"), none, (.seq #[] 0), #[]⟩) ::
  (nat_lit 224, ⟨(.type "tuple"), none, (.seq #[(.str "self" 493)] 0), #[]⟩) ::
  (nat_lit 225, ⟨(.type "tuple"), none, (.seq #[] 0), #[]⟩) ::
  (nat_lit 227, ⟨(.type "code"), none, (.fields #[(.str "size" 490), (.str "Store.size" 491), (.str "/claim/cut.py" 492), (.int 94 0), (.int 1 0), (.int 0 0), (.int 0 0), (.int 3 0), (.ref 222), (.bool true), (.int 181 0), (.ref 223), .none, (.ref 224), (.ref 225), (.ref 226), (.int 494 0), (.int 94 0), (.str "/claim/cut.py" 495)]), #[]⟩) ::
  (nat_lit 228, ⟨(.type "function"), none, (.func ⟨"size", "Store.size", defArgs (inClass (top 38) 0), .stmts (defBody (inClass (top 38) 0)), defScope (inClass (top 38) 0), 3, [], .none, .none, .none, (.str "shadowpages.store" 455), none, (.ref 227), .none, 0⟩), #[]⟩) ::
  (nat_lit 229, ⟨(.type "tuple"), none, (.seq #[] 0), #[]⟩) ::
  (nat_lit 231, ⟨(.type "tuple"), none, (.seq #[(.str "self" 500), (.str "page" 501)] 0), #[]⟩) ::
  (nat_lit 232, ⟨(.type "tuple"), none, (.seq #[] 0), #[]⟩) ::
  (nat_lit 234, ⟨(.type "code"), none, (.fields #[(.str "has" 497), (.str "Store.has" 498), (.str "/claim/cut.py" 499), (.int 97 0), (.int 2 0), (.int 0 0), (.int 0 0), (.int 3 0), (.ref 229), (.bool true), (.int 181 0), (.ref 230), .none, (.ref 231), (.ref 232), (.ref 233), (.int 502 0), (.int 97 0), (.str "/claim/cut.py" 503)]), #[]⟩) ::
  (nat_lit 235, ⟨(.type "function"), none, (.func ⟨"has", "Store.has", defArgs (inClass (top 38) 1), .stmts (defBody (inClass (top 38) 1)), defScope (inClass (top 38) 1), 3, [], .none, .none, .none, (.str "shadowpages.store" 455), none, (.ref 234), .none, 0⟩), #[]⟩) ::
  (nat_lit 236, ⟨(.type "tuple"), none, (.seq #[] 0), #[]⟩) ::
  (nat_lit 238, ⟨(.type "tuple"), none, (.seq #[(.str "self" 508), (.str "page" 509), (.str "cell" 510)] 0), #[]⟩) ::
  (nat_lit 239, ⟨(.type "tuple"), none, (.seq #[] 0), #[]⟩) ::
  (nat_lit 241, ⟨(.type "code"), none, (.fields #[(.str "word_at" 505), (.str "Store.word_at" 506), (.str "/claim/cut.py" 507), (.int 100 0), (.int 3 0), (.int 0 0), (.int 0 0), (.int 3 0), (.ref 236), (.bool true), (.int 181 0), (.ref 237), .none, (.ref 238), (.ref 239), (.ref 240), (.int 511 0), (.int 100 0), (.str "/claim/cut.py" 512)]), #[]⟩) ::
  (nat_lit 242, ⟨(.type "function"), none, (.func ⟨"word_at", "Store.word_at", defArgs (inClass (top 38) 2), .stmts (defBody (inClass (top 38) 2)), defScope (inClass (top 38) 2), 3, [], .none, .none, .none, (.str "shadowpages.store" 455), none, (.ref 241), .none, 0⟩), #[]⟩) ::
  (nat_lit 243, ⟨(.type "tuple"), none, (.seq #[] 0), #[]⟩) ::
  (nat_lit 245, ⟨(.type "tuple"), none, (.seq #[(.str "self" 517), (.str "page" 518), (.str "cell" 519), (.str "word" 520)] 0), #[]⟩) ::
  (nat_lit 246, ⟨(.type "tuple"), none, (.seq #[] 0), #[]⟩) ::
  (nat_lit 248, ⟨(.type "code"), none, (.fields #[(.str "put_word" 514), (.str "Store.put_word" 515), (.str "/claim/cut.py" 516), (.int 103 0), (.int 4 0), (.int 0 0), (.int 0 0), (.int 3 0), (.ref 243), (.bool true), (.int 181 0), (.ref 244), .none, (.ref 245), (.ref 246), (.ref 247), (.int 521 0), (.int 103 0), (.str "/claim/cut.py" 522)]), #[]⟩) ::
  (nat_lit 249, ⟨(.type "function"), none, (.func ⟨"put_word", "Store.put_word", defArgs (inClass (top 38) 3), .stmts (defBody (inClass (top 38) 3)), defScope (inClass (top 38) 3), 3, [], .none, .none, .none, (.str "shadowpages.store" 455), none, (.ref 248), .none, 0⟩), #[]⟩) ::
  (nat_lit 250, ⟨(.type "tuple"), none, (.seq #[] 0), #[]⟩) ::
  (nat_lit 252, ⟨(.type "tuple"), none, (.seq #[(.str "self" 527), (.str "page" 528), (.str "cell" 529)] 0), #[]⟩) ::
  (nat_lit 253, ⟨(.type "tuple"), none, (.seq #[] 0), #[]⟩) ::
  (nat_lit 255, ⟨(.type "code"), none, (.fields #[(.str "read" 524), (.str "Store.read" 525), (.str "/claim/cut.py" 526), (.int 106 0), (.int 3 0), (.int 0 0), (.int 0 0), (.int 3 0), (.ref 250), (.bool true), (.int 181 0), (.ref 251), .none, (.ref 252), (.ref 253), (.ref 254), (.int 530 0), (.int 106 0), (.str "/claim/cut.py" 531)]), #[]⟩) ::
  (nat_lit 256, ⟨(.type "function"), none, (.func ⟨"read", "Store.read", defArgs (inClass (top 38) 4), .stmts (defBody (inClass (top 38) 4)), defScope (inClass (top 38) 4), 3, [], .none, .none, .none, (.str "shadowpages.store" 455), none, (.ref 255), .none, 0⟩), #[]⟩) ::
  (nat_lit 257, ⟨(.type "tuple"), none, (.seq #[] 0), #[]⟩) ::
  (nat_lit 259, ⟨(.type "tuple"), none, (.seq #[(.str "self" 536), (.str "page" 537), (.str "cell" 538), (.str "word" 539)] 0), #[]⟩) ::
  (nat_lit 260, ⟨(.type "tuple"), none, (.seq #[] 0), #[]⟩) ::
  (nat_lit 262, ⟨(.type "code"), none, (.fields #[(.str "write" 533), (.str "Store.write" 534), (.str "/claim/cut.py" 535), (.int 110 0), (.int 4 0), (.int 0 0), (.int 0 0), (.int 3 0), (.ref 257), (.bool true), (.int 181 0), (.ref 258), .none, (.ref 259), (.ref 260), (.ref 261), (.int 540 0), (.int 110 0), (.str "/claim/cut.py" 541)]), #[]⟩) ::
  (nat_lit 263, ⟨(.type "function"), none, (.func ⟨"write", "Store.write", defArgs (inClass (top 38) 5), .stmts (defBody (inClass (top 38) 5)), defScope (inClass (top 38) 5), 3, [], .none, .none, .none, (.str "shadowpages.store" 455), none, (.ref 262), .none, 0⟩), #[]⟩) ::
  (nat_lit 264, ⟨(.type "tuple"), none, (.seq #[] 0), #[]⟩) ::
  (nat_lit 266, ⟨(.type "tuple"), none, (.seq #[(.str "self" 546), (.str "page" 547)] 0), #[]⟩) ::
  (nat_lit 267, ⟨(.type "tuple"), none, (.seq #[] 0), #[]⟩) ::
  (nat_lit 269, ⟨(.type "code"), none, (.fields #[(.str "words_of" 543), (.str "Store.words_of" 544), (.str "/claim/cut.py" 545), (.int 115 0), (.int 2 0), (.int 0 0), (.int 0 0), (.int 3 0), (.ref 264), (.bool true), (.int 181 0), (.ref 265), .none, (.ref 266), (.ref 267), (.ref 268), (.int 548 0), (.int 115 0), (.str "/claim/cut.py" 549)]), #[]⟩) ::
  (nat_lit 270, ⟨(.type "function"), none, (.func ⟨"words_of", "Store.words_of", defArgs (inClass (top 38) 6), .stmts (defBody (inClass (top 38) 6)), defScope (inClass (top 38) 6), 3, [], .none, .none, .none, (.str "shadowpages.store" 455), none, (.ref 269), .none, 0⟩), #[]⟩) ::
  (nat_lit 271, ⟨(.type "tuple"), none, (.seq #[] 0), #[]⟩) ::
  (nat_lit 273, ⟨(.type "tuple"), none, (.seq #[(.str "self" 554), (.str "page" 555), (.str "cell" 556)] 0), #[]⟩) ::
  (nat_lit 274, ⟨(.type "tuple"), none, (.seq #[] 0), #[]⟩) ::
  (nat_lit 276, ⟨(.type "code"), none, (.fields #[(.str "check_spot" 551), (.str "Store.check_spot" 552), (.str "/claim/cut.py" 553), (.int 118 0), (.int 3 0), (.int 0 0), (.int 0 0), (.int 3 0), (.ref 271), (.bool true), (.int 181 0), (.ref 272), .none, (.ref 273), (.ref 274), (.ref 275), (.int 557 0), (.int 118 0), (.str "/claim/cut.py" 558)]), #[]⟩) ::
  (nat_lit 277, ⟨(.type "function"), none, (.func ⟨"check_spot", "Store.check_spot", defArgs (inClass (top 38) 7), .stmts (defBody (inClass (top 38) 7)), defScope (inClass (top 38) 7), 3, [], .none, .none, .none, (.str "shadowpages.store" 455), none, (.ref 276), .none, 0⟩), #[]⟩) ::
  (nat_lit 278, ⟨(.type "tuple"), none, (.seq #[] 0), #[]⟩) ::
  (nat_lit 280, ⟨(.type "tuple"), none, (.seq #[(.str "self" 563), (.str "page" 564)] 0), #[]⟩) ::
  (nat_lit 281, ⟨(.type "tuple"), none, (.seq #[] 0), #[]⟩) ::
  (nat_lit 283, ⟨(.type "code"), none, (.fields #[(.str "check_page" 560), (.str "Store.check_page" 561), (.str "/claim/cut.py" 562), (.int 123 0), (.int 2 0), (.int 0 0), (.int 0 0), (.int 3 0), (.ref 278), (.bool true), (.int 181 0), (.ref 279), .none, (.ref 280), (.ref 281), (.ref 282), (.int 565 0), (.int 123 0), (.str "/claim/cut.py" 566)]), #[]⟩) ::
  (nat_lit 284, ⟨(.type "function"), none, (.func ⟨"check_page", "Store.check_page", defArgs (inClass (top 38) 8), .stmts (defBody (inClass (top 38) 8)), defScope (inClass (top 38) 8), 3, [], .none, .none, .none, (.str "shadowpages.store" 455), none, (.ref 283), .none, 0⟩), #[]⟩) ::
  (nat_lit 285, ⟨(.type "tuple"), none, (.seq #[] 0), #[]⟩) ::
  (nat_lit 286, ⟨(.type "dict"), none, (.dict #[⟨(PyData.keyHash P "__module__"), (.str "__module__" 485), (.str "shadowpages.store" 455)⟩, ⟨(PyData.keyHash P "__firstlineno__"), (.str "__firstlineno__" 489), (.int 92 488)⟩, ⟨(PyData.keyHash P "size"), (.str "size" 496), (.ref 228)⟩, ⟨(PyData.keyHash P "has"), (.str "has" 504), (.ref 235)⟩, ⟨(PyData.keyHash P "word_at"), (.str "word_at" 513), (.ref 242)⟩, ⟨(PyData.keyHash P "put_word"), (.str "put_word" 523), (.ref 249)⟩, ⟨(PyData.keyHash P "read"), (.str "read" 532), (.ref 256)⟩, ⟨(PyData.keyHash P "write"), (.str "write" 542), (.ref 263)⟩, ⟨(PyData.keyHash P "words_of"), (.str "words_of" 550), (.ref 270)⟩, ⟨(PyData.keyHash P "check_spot"), (.str "check_spot" 559), (.ref 277)⟩, ⟨(PyData.keyHash P "check_page"), (.str "check_page" 567), (.ref 284)⟩, ⟨(PyData.keyHash P "__static_attributes__"), (.str "__static_attributes__" 568), (.ref 285)⟩, ⟨(PyData.keyHash P "__dict__"), (.str "__dict__" 570), (.ref 288)⟩, ⟨(PyData.keyHash P "__weakref__"), (.str "__weakref__" 572), (.ref 289)⟩, ⟨(PyData.keyHash P "__doc__"), (.str "__doc__" 573), .none⟩] 4), #[]⟩) ::
  (nat_lit 287, ⟨(.type "type"), none, (.cls ⟨"Store", [(.type "object")], [(.ref 287), (.type "object")], 286, "Store", true, [], [(.ref 353)], false, none, false⟩), #[none, none, (some (.str "Store" 478)), (some (.str "Store" 486)), (some (.builtin "object.__new__")), (some (.bool true))]⟩) ::
  (nat_lit 288, ⟨(.type "getset_descriptor"), none, (.fields #[(.str "__dict__" 569), (.ref 287), (.builtin "function.__dict__"), (.builtin "function.__dict__#set")]), #[]⟩) ::
  (nat_lit 289, ⟨(.type "getset_descriptor"), none, (.fields #[(.str "__weakref__" 571), (.ref 287), (.builtin "ExceptionGroup.__weakref__"), .none]), #[]⟩) ::
  (nat_lit 292, ⟨(.type "tuple"), none, (.seq #[(.ref 287)] 0), #[]⟩) ::
  (nat_lit 299, ⟨(.type "tuple"), none, (.seq #[] 0), #[]⟩) ::
  (nat_lit 302, ⟨(.type "code"), none, (.fields #[(.str "__init__" 588), (.str "Memory.__init__" 589), (.str "/claim/cut.py" 590), (.int 128 0), (.int 2 0), (.int 0 0), (.int 0 0), (.int 3 0), (.ref 299), (.bool true), (.int 181 0), (.ref 300), .none, .none, .none, (.ref 301), (.int 591 0), (.int 128 0), (.str "/claim/cut.py" 592)]), #[]⟩) ::
  (nat_lit 303, ⟨(.type "function"), none, (.func ⟨"__init__", "Memory.__init__", defArgs (inClass (top 39) 0), .stmts (defBody (inClass (top 39) 0)), defScope (inClass (top 39) 0), 3, [], .none, .none, .none, (.str "shadowpages.store" 455), none, (.ref 302), .none, 0⟩), #[]⟩) ::
  (nat_lit 304, ⟨(.type "tuple"), none, (.seq #[] 0), #[]⟩) ::
  (nat_lit 306, ⟨(.type "tuple"), none, (.seq #[(.str "self" 597)] 0), #[]⟩) ::
  (nat_lit 307, ⟨(.type "tuple"), none, (.seq #[] 0), #[]⟩) ::
  (nat_lit 309, ⟨(.type "code"), none, (.fields #[(.str "size" 594), (.str "Memory.size" 595), (.str "/claim/cut.py" 596), (.int 132 0), (.int 1 0), (.int 0 0), (.int 0 0), (.int 3 0), (.ref 304), (.bool true), (.int 181 0), (.ref 305), .none, (.ref 306), (.ref 307), (.ref 308), (.int 598 0), (.int 132 0), (.str "/claim/cut.py" 599)]), #[]⟩) ::
  (nat_lit 310, ⟨(.type "function"), none, (.func ⟨"size", "Memory.size", defArgs (inClass (top 39) 1), .stmts (defBody (inClass (top 39) 1)), defScope (inClass (top 39) 1), 3, [], .none, .none, .none, (.str "shadowpages.store" 455), none, (.ref 309), .none, 0⟩), #[]⟩) ::
  (nat_lit 311, ⟨(.type "tuple"), none, (.seq #[] 0), #[]⟩) ::
  (nat_lit 313, ⟨(.type "tuple"), none, (.seq #[(.str "self" 604), (.str "page" 605)] 0), #[]⟩) ::
  (nat_lit 314, ⟨(.type "tuple"), none, (.seq #[] 0), #[]⟩) ::
  (nat_lit 316, ⟨(.type "code"), none, (.fields #[(.str "has" 601), (.str "Memory.has" 602), (.str "/claim/cut.py" 603), (.int 135 0), (.int 2 0), (.int 0 0), (.int 0 0), (.int 3 0), (.ref 311), (.bool true), (.int 181 0), (.ref 312), .none, (.ref 313), (.ref 314), (.ref 315), (.int 606 0), (.int 135 0), (.str "/claim/cut.py" 607)]), #[]⟩) ::
  (nat_lit 317, ⟨(.type "function"), none, (.func ⟨"has", "Memory.has", defArgs (inClass (top 39) 2), .stmts (defBody (inClass (top 39) 2)), defScope (inClass (top 39) 2), 3, [], .none, .none, .none, (.str "shadowpages.store" 455), none, (.ref 316), .none, 0⟩), #[]⟩) ::
  (nat_lit 318, ⟨(.type "tuple"), none, (.seq #[] 0), #[]⟩) ::
  (nat_lit 320, ⟨(.type "tuple"), none, (.seq #[(.str "self" 612), (.str "page" 613), (.str "cell" 614)] 0), #[]⟩) ::
  (nat_lit 321, ⟨(.type "tuple"), none, (.seq #[] 0), #[]⟩) ::
  (nat_lit 323, ⟨(.type "code"), none, (.fields #[(.str "word_at" 609), (.str "Memory.word_at" 610), (.str "/claim/cut.py" 611), (.int 138 0), (.int 3 0), (.int 0 0), (.int 0 0), (.int 3 0), (.ref 318), (.bool true), (.int 181 0), (.ref 319), .none, (.ref 320), (.ref 321), (.ref 322), (.int 615 0), (.int 138 0), (.str "/claim/cut.py" 616)]), #[]⟩) ::
  (nat_lit 324, ⟨(.type "function"), none, (.func ⟨"word_at", "Memory.word_at", defArgs (inClass (top 39) 3), .stmts (defBody (inClass (top 39) 3)), defScope (inClass (top 39) 3), 3, [], .none, .none, .none, (.str "shadowpages.store" 455), none, (.ref 323), .none, 0⟩), #[]⟩) ::
  (nat_lit 325, ⟨(.type "tuple"), none, (.seq #[] 0), #[]⟩) ::
  (nat_lit 327, ⟨(.type "tuple"), none, (.seq #[(.str "self" 621), (.str "page" 622), (.str "cell" 623), (.str "word" 624)] 0), #[]⟩) ::
  (nat_lit 328, ⟨(.type "tuple"), none, (.seq #[] 0), #[]⟩) ::
  (nat_lit 330, ⟨(.type "code"), none, (.fields #[(.str "put_word" 618), (.str "Memory.put_word" 619), (.str "/claim/cut.py" 620), (.int 141 0), (.int 4 0), (.int 0 0), (.int 0 0), (.int 3 0), (.ref 325), (.bool true), (.int 181 0), (.ref 326), .none, (.ref 327), (.ref 328), (.ref 329), (.int 625 0), (.int 141 0), (.str "/claim/cut.py" 626)]), #[]⟩) ::
  (nat_lit 331, ⟨(.type "function"), none, (.func ⟨"put_word", "Memory.put_word", defArgs (inClass (top 39) 4), .stmts (defBody (inClass (top 39) 4)), defScope (inClass (top 39) 4), 3, [], .none, .none, .none, (.str "shadowpages.store" 455), none, (.ref 330), .none, 0⟩), #[]⟩) ::
  (nat_lit 332, ⟨(.type "tuple"), none, (.seq #[] 0), #[]⟩) ::
  (nat_lit 334, ⟨(.type "tuple"), none, (.seq #[(.str "self" 631), (.str "page" 632)] 0), #[]⟩) ::
  (nat_lit 335, ⟨(.type "tuple"), none, (.seq #[] 0), #[]⟩) ::
  (nat_lit 337, ⟨(.type "code"), none, (.fields #[(.str "give" 628), (.str "Memory.give" 629), (.str "/claim/cut.py" 630), (.int 144 0), (.int 2 0), (.int 0 0), (.int 0 0), (.int 3 0), (.ref 332), (.bool true), (.int 181 0), (.ref 333), .none, (.ref 334), (.ref 335), (.ref 336), (.int 633 0), (.int 144 0), (.str "/claim/cut.py" 634)]), #[]⟩) ::
  (nat_lit 338, ⟨(.type "function"), none, (.func ⟨"give", "Memory.give", defArgs (inClass (top 39) 5), .stmts (defBody (inClass (top 39) 5)), defScope (inClass (top 39) 5), 3, [], .none, .none, .none, (.str "shadowpages.store" 455), none, (.ref 337), .none, 0⟩), #[]⟩) ::
  (nat_lit 339, ⟨(.type "tuple"), none, (.seq #[] 0), #[]⟩) ::
  (nat_lit 341, ⟨(.type "tuple"), none, (.seq #[(.str "self" 639), (.str "page" 640), (.str "words" 641)] 0), #[]⟩) ::
  (nat_lit 342, ⟨(.type "tuple"), none, (.seq #[] 0), #[]⟩) ::
  (nat_lit 344, ⟨(.type "code"), none, (.fields #[(.str "lay" 636), (.str "Memory.lay" 637), (.str "/claim/cut.py" 638), (.int 147 0), (.int 3 0), (.int 0 0), (.int 0 0), (.int 3 0), (.ref 339), (.bool true), (.int 181 0), (.ref 340), .none, (.ref 341), (.ref 342), (.ref 343), (.int 642 0), (.int 147 0), (.str "/claim/cut.py" 643)]), #[]⟩) ::
  (nat_lit 345, ⟨(.type "function"), none, (.func ⟨"lay", "Memory.lay", defArgs (inClass (top 39) 6), .stmts (defBody (inClass (top 39) 6)), defScope (inClass (top 39) 6), 3, [], .none, .none, .none, (.str "shadowpages.store" 455), none, (.ref 344), .none, 0⟩), #[]⟩) ::
  (nat_lit 346, ⟨(.type "tuple"), none, (.seq #[] 0), #[]⟩) ::
  (nat_lit 349, ⟨(.type "code"), none, (.fields #[(.str "told" 645), (.str "Memory.told" 646), (.str "/claim/cut.py" 647), (.int 150 0), (.int 1 0), (.int 0 0), (.int 0 0), (.int 3 0), (.ref 346), (.bool true), (.int 181 0), (.ref 347), .none, .none, .none, (.ref 348), (.int 648 0), (.int 150 0), (.str "/claim/cut.py" 649)]), #[]⟩) ::
  (nat_lit 350, ⟨(.type "function"), none, (.func ⟨"told", "Memory.told", defArgs (inClass (top 39) 7), .stmts (defBody (inClass (top 39) 7)), defScope (inClass (top 39) 7), 3, [], .none, .none, .none, (.str "shadowpages.store" 455), none, (.ref 349), .none, 0⟩), #[]⟩) ::
  (nat_lit 351, ⟨(.type "tuple"), none, (.seq #[(.str "held" 651)] 0), #[]⟩) ::
  (nat_lit 352, ⟨(.type "dict"), none, (.dict #[⟨(PyData.keyHash P "__module__"), (.str "__module__" 583), (.str "shadowpages.store" 455)⟩, ⟨(PyData.keyHash P "__firstlineno__"), (.str "__firstlineno__" 587), (.int 126 586)⟩, ⟨(PyData.keyHash P "__init__"), (.str "__init__" 593), (.ref 303)⟩, ⟨(PyData.keyHash P "size"), (.str "size" 600), (.ref 310)⟩, ⟨(PyData.keyHash P "has"), (.str "has" 608), (.ref 317)⟩, ⟨(PyData.keyHash P "word_at"), (.str "word_at" 617), (.ref 324)⟩, ⟨(PyData.keyHash P "put_word"), (.str "put_word" 627), (.ref 331)⟩, ⟨(PyData.keyHash P "give"), (.str "give" 635), (.ref 338)⟩, ⟨(PyData.keyHash P "lay"), (.str "lay" 644), (.ref 345)⟩, ⟨(PyData.keyHash P "told"), (.str "told" 650), (.ref 350)⟩, ⟨(PyData.keyHash P "__static_attributes__"), (.str "__static_attributes__" 652), (.ref 351)⟩, ⟨(PyData.keyHash P "__doc__"), (.str "__doc__" 653), .none⟩] 2), #[]⟩) ::
  (nat_lit 353, ⟨(.type "type"), none, (.cls ⟨"Memory", [(.ref 287)], [(.ref 353), (.ref 287), (.type "object")], 352, "Memory", true, [], [], false, none, false⟩), #[(some (.ref 292)), none, (some (.str "Memory" 576)), (some (.str "Memory" 584)), (some (.builtin "object.__new__")), (some (.bool true))]⟩) ::
  (nat_lit 356, ⟨(.type "tuple"), none, (.seq #[] 0), #[]⟩) ::
  (nat_lit 358, ⟨(.type "tuple"), none, (.seq #[(.str "_law_script" 661), (.str "_law_k" 662)] 0), #[]⟩) ::
  (nat_lit 359, ⟨(.type "tuple"), none, (.seq #[] 0), #[]⟩) ::
  (nat_lit 361, ⟨(.type "code"), none, (.fields #[(.str "_law_cell_at" 658), (.str "_law_cell_at" 659), (.str "/claim/cut.py" 660), (.int 153 0), (.int 2 0), (.int 0 0), (.int 0 0), (.int 3 0), (.ref 356), (.bool true), (.int 181 0), (.ref 357), .none, (.ref 358), (.ref 359), (.ref 360), (.int 663 0), (.int 153 0), (.str "/claim/cut.py" 664)]), #[]⟩) ::
  (nat_lit 362, ⟨(.type "function"), none, (.func ⟨"_law_cell_at", "_law_cell_at", defArgs (top 41), .stmts (defBody (top 41)), defScope (top 41), 3, [], .none, .none, .none, (.str "law_shadowpages_k14_looked_at" 656), none, (.ref 361), .none, 0⟩), #[]⟩) ::
  (nat_lit 363, ⟨(.type "tuple"), none, (.seq #[] 0), #[]⟩) ::
  (nat_lit 365, ⟨(.type "tuple"), none, (.seq #[(.str "_law_found_here" 669)] 0), #[]⟩) ::
  (nat_lit 366, ⟨(.type "tuple"), none, (.seq #[] 0), #[]⟩) ::
  (nat_lit 368, ⟨(.type "code"), none, (.fields #[(.str "_law_whole" 666), (.str "_law_whole" 667), (.str "/claim/cut.py" 668), (.int 157 0), (.int 1 0), (.int 0 0), (.int 0 0), (.int 3 0), (.ref 363), (.bool true), (.int 181 0), (.ref 364), .none, (.ref 365), (.ref 366), (.ref 367), (.int 670 0), (.int 157 0), (.str "/claim/cut.py" 671)]), #[]⟩) ::
  (nat_lit 369, ⟨(.type "function"), none, (.func ⟨"_law_whole", "_law_whole", defArgs (top 42), .stmts (defBody (top 42)), defScope (top 42), 3, [], .none, .none, .none, (.str "law_shadowpages_k14_looked_at" 656), none, (.ref 368), .none, 0⟩), #[]⟩) ::
  (nat_lit 370, ⟨(.type "tuple"), none, (.seq #[] 0), #[]⟩) ::
  (nat_lit 372, ⟨(.type "tuple"), none, (.seq #[(.str "_law_cell" 676), (.str "_law_k" 677), (.str "_law_number" 678)] 0), #[]⟩) ::
  (nat_lit 373, ⟨(.type "tuple"), none, (.seq #[] 0), #[]⟩) ::
  (nat_lit 375, ⟨(.type "code"), none, (.fields #[(.str "_law_mixed" 673), (.str "_law_mixed" 674), (.str "/claim/cut.py" 675), (.int 159 0), (.int 2 0), (.int 0 0), (.int 0 0), (.int 3 0), (.ref 370), (.bool true), (.int 181 0), (.ref 371), .none, (.ref 372), (.ref 373), (.ref 374), (.int 679 0), (.int 159 0), (.str "/claim/cut.py" 680)]), #[]⟩) ::
  (nat_lit 376, ⟨(.type "function"), none, (.func ⟨"_law_mixed", "_law_mixed", defArgs (top 43), .stmts (defBody (top 43)), defScope (top 43), 3, [], .none, .none, .none, (.str "law_shadowpages_k14_looked_at" 656), none, (.ref 375), .none, 0⟩), #[]⟩) ::
  (nat_lit 377, ⟨(.type "tuple"), none, (.seq #[] 0), #[]⟩) ::
  (nat_lit 379, ⟨(.type "tuple"), none, (.seq #[(.str "_law_cell" 685), (.str "_law_k" 686), (.str "_law_size" 687), (.str "_law_one" 688), (.str "_law_other" 689), (.str "_law_page" 690), (.str "_law_marks" 691)] 0), #[]⟩) ::
  (nat_lit 380, ⟨(.type "tuple"), none, (.seq #[] 0), #[]⟩) ::
  (nat_lit 382, ⟨(.type "code"), none, (.fields #[(.str "_law_row" 682), (.str "_law_row" 683), (.str "/claim/cut.py" 684), (.int 162 0), (.int 3 0), (.int 0 0), (.int 0 0), (.int 3 0), (.ref 377), (.bool true), (.int 181 0), (.ref 378), .none, (.ref 379), (.ref 380), (.ref 381), (.int 692 0), (.int 162 0), (.str "/claim/cut.py" 693)]), #[]⟩) ::
  (nat_lit 383, ⟨(.type "function"), none, (.func ⟨"_law_row", "_law_row", defArgs (top 44), .stmts (defBody (top 44)), defScope (top 44), 3, [], .none, .none, .none, (.str "law_shadowpages_k14_looked_at" 656), none, (.ref 382), .none, 0⟩), #[]⟩) ::
  (nat_lit 384, ⟨(.type "tuple"), none, (.seq #[] 0), #[]⟩) ::
  (nat_lit 387, ⟨(.type "code"), none, (.fields #[(.str "_law_pages" 695), (.str "_law_pages" 696), (.str "/claim/cut.py" 697), (.int 170 0), (.int 2 0), (.int 0 0), (.int 0 0), (.int 3 0), (.ref 384), (.bool true), (.int 181 0), (.ref 385), .none, .none, .none, (.ref 386), (.int 698 0), (.int 170 0), (.str "/claim/cut.py" 699)]), #[]⟩) ::
  (nat_lit 388, ⟨(.type "function"), none, (.func ⟨"_law_pages", "_law_pages", defArgs (top 45), .stmts (defBody (top 45)), defScope (top 45), 3, [], .none, .none, .none, (.str "law_shadowpages_k14_looked_at" 656), none, (.ref 387), .none, 0⟩), #[]⟩) ::
  (nat_lit 389, ⟨(.type "tuple"), none, (.seq #[] 0), #[]⟩) ::
  (nat_lit 392, ⟨(.type "code"), none, (.fields #[(.str "_law_copy" 701), (.str "_law_copy" 702), (.str "/claim/cut.py" 703), (.int 178 0), (.int 1 0), (.int 0 0), (.int 0 0), (.int 3 0), (.ref 389), (.bool true), (.int 181 0), (.ref 390), .none, .none, .none, (.ref 391), (.int 704 0), (.int 178 0), (.str "/claim/cut.py" 705)]), #[]⟩) ::
  (nat_lit 393, ⟨(.type "function"), none, (.func ⟨"_law_copy", "_law_copy", defArgs (top 46), .stmts (defBody (top 46)), defScope (top 46), 3, [], .none, .none, .none, (.str "law_shadowpages_k14_looked_at" 656), none, (.ref 392), .none, 0⟩), #[]⟩) ::
  (nat_lit 394, ⟨(.type "tuple"), none, (.seq #[] 0), #[]⟩) ::
  (nat_lit 396, ⟨(.type "tuple"), none, (.seq #[(.str "_law_pages_here" 710), (.str "_law_page" 711)] 0), #[]⟩) ::
  (nat_lit 397, ⟨(.type "tuple"), none, (.seq #[] 0), #[]⟩) ::
  (nat_lit 399, ⟨(.type "code"), none, (.fields #[(.str "_law_there" 707), (.str "_law_there" 708), (.str "/claim/cut.py" 709), (.int 180 0), (.int 2 0), (.int 0 0), (.int 0 0), (.int 3 0), (.ref 394), (.bool true), (.int 181 0), (.ref 395), .none, (.ref 396), (.ref 397), (.ref 398), (.int 712 0), (.int 180 0), (.str "/claim/cut.py" 713)]), #[]⟩) ::
  (nat_lit 400, ⟨(.type "function"), none, (.func ⟨"_law_there", "_law_there", defArgs (top 47), .stmts (defBody (top 47)), defScope (top 47), 3, [], .none, .none, .none, (.str "law_shadowpages_k14_looked_at" 656), none, (.ref 399), .none, 0⟩), #[]⟩) ::
  (nat_lit 401, ⟨(.type "tuple"), none, (.seq #[] 0), #[]⟩) ::
  (nat_lit 403, ⟨(.type "tuple"), none, (.seq #[(.str "_law_pages_here" 718), (.str "_law_row_here" 719), (.str "_law_write" 720), (.str "_law_kernel" 721)] 0), #[]⟩) ::
  (nat_lit 404, ⟨(.type "tuple"), none, (.seq #[] 0), #[]⟩) ::
  (nat_lit 406, ⟨(.type "code"), none, (.fields #[(.str "_law_lack" 715), (.str "_law_lack" 716), (.str "/claim/cut.py" 717), (.int 182 0), (.int 4 0), (.int 0 0), (.int 0 0), (.int 3 0), (.ref 401), (.bool true), (.int 181 0), (.ref 402), .none, (.ref 403), (.ref 404), (.ref 405), (.int 722 0), (.int 182 0), (.str "/claim/cut.py" 723)]), #[]⟩) ::
  (nat_lit 407, ⟨(.type "function"), none, (.func ⟨"_law_lack", "_law_lack", defArgs (top 48), .stmts (defBody (top 48)), defScope (top 48), 3, [], .none, .none, .none, (.str "law_shadowpages_k14_looked_at" 656), none, (.ref 406), .none, 0⟩), #[]⟩) ::
  (nat_lit 408, ⟨(.type "tuple"), none, (.seq #[] 0), #[]⟩) ::
  (nat_lit 410, ⟨(.type "tuple"), none, (.seq #[(.str "_law_pages_here" 728), (.str "_law_root" 729), (.str "_law_place" 730), (.str "_law_write" 731), (.str "_law_kernel" 732), (.str "_law_high" 733), (.str "_law_lack_here" 734), (.str "_law_low" 735), (.str "_law_rights" 736)] 0), #[]⟩) ::
  (nat_lit 411, ⟨(.type "tuple"), none, (.seq #[] 0), #[]⟩) ::
  (nat_lit 413, ⟨(.type "code"), none, (.fields #[(.str "_law_due" 725), (.str "_law_due" 726), (.str "/claim/cut.py" 727), (.int 192 0), (.int 5 0), (.int 0 0), (.int 0 0), (.int 3 0), (.ref 408), (.bool true), (.int 181 0), (.ref 409), .none, (.ref 410), (.ref 411), (.ref 412), (.int 737 0), (.int 192 0), (.str "/claim/cut.py" 738)]), #[]⟩) ::
  (nat_lit 414, ⟨(.type "function"), none, (.func ⟨"_law_due", "_law_due", defArgs (top 49), .stmts (defBody (top 49)), defScope (top 49), 3, [], .none, .none, .none, (.str "law_shadowpages_k14_looked_at" 656), none, (.ref 413), .none, 0⟩), #[]⟩) ::
  (nat_lit 415, ⟨(.type "tuple"), none, (.seq #[] 0), #[]⟩) ::
  (nat_lit 417, ⟨(.type "tuple"), none, (.seq #[(.str "_law_store" 743), (.str "_law_root" 744), (.str "_law_place" 745), (.str "_law_write" 746), (.str "_law_kernel" 747), (.str "_law_found_here" 748), (.str "e" 749), (.str "_law_others" 750)] 0), #[]⟩) ::
  (nat_lit 418, ⟨(.type "tuple"), none, (.seq #[] 0), #[]⟩) ::
  (nat_lit 420, ⟨(.type "code"), none, (.fields #[(.str "_law_found" 740), (.str "_law_found" 741), (.str "/claim/cut.py" 742), (.int 207 0), (.int 5 0), (.int 0 0), (.int 0 0), (.int 3 0), (.ref 415), (.bool true), (.int 181 0), (.ref 416), .none, (.ref 417), (.ref 418), (.ref 419), (.int 751 0), (.int 207 0), (.str "/claim/cut.py" 752)]), #[]⟩) ::
  (nat_lit 421, ⟨(.type "function"), none, (.func ⟨"_law_found", "_law_found", defArgs (top 50), .stmts (defBody (top 50)), defScope (top 50), 3, [], .none, .none, .none, (.str "law_shadowpages_k14_looked_at" 656), none, (.ref 420), .none, 0⟩), #[]⟩) ::
  (nat_lit 422, ⟨(.type "tuple"), none, (.seq #[] 0), #[]⟩) ::
  (nat_lit 424, ⟨(.type "tuple"), none, (.seq #[(.str "_law_found_here" 757), (.str "_law_due_here" 758)] 0), #[]⟩) ::
  (nat_lit 425, ⟨(.type "tuple"), none, (.seq #[] 0), #[]⟩) ::
  (nat_lit 427, ⟨(.type "code"), none, (.fields #[(.str "_law_pair" 754), (.str "_law_pair" 755), (.str "/claim/cut.py" 756), (.int 218 0), (.int 2 0), (.int 0 0), (.int 0 0), (.int 3 0), (.ref 422), (.bool true), (.int 181 0), (.ref 423), .none, (.ref 424), (.ref 425), (.ref 426), (.int 759 0), (.int 218 0), (.str "/claim/cut.py" 760)]), #[]⟩) ::
  (nat_lit 428, ⟨(.type "function"), none, (.func ⟨"_law_pair", "_law_pair", defArgs (top 51), .stmts (defBody (top 51)), defScope (top 51), 3, [], .none, .none, .none, (.str "law_shadowpages_k14_looked_at" 656), none, (.ref 427), .none, 0⟩), #[]⟩) ::
  (nat_lit 429, ⟨(.type "tuple"), none, (.seq #[] 0), #[]⟩) ::
  (nat_lit 431, ⟨(.type "tuple"), none, (.seq #[(.str "_law_found_here" 765), (.str "_law_due_here" 766)] 0), #[]⟩) ::
  (nat_lit 432, ⟨(.type "tuple"), none, (.seq #[] 0), #[]⟩) ::
  (nat_lit 434, ⟨(.type "code"), none, (.fields #[(.str "_law_same" 762), (.str "_law_same" 763), (.str "/claim/cut.py" 764), (.int 222 0), (.int 2 0), (.int 0 0), (.int 0 0), (.int 3 0), (.ref 429), (.bool true), (.int 181 0), (.ref 430), .none, (.ref 431), (.ref 432), (.ref 433), (.int 767 0), (.int 222 0), (.str "/claim/cut.py" 768)]), #[]⟩) ::
  (nat_lit 435, ⟨(.type "function"), none, (.func ⟨"_law_same", "_law_same", defArgs (top 52), .stmts (defBody (top 52)), defScope (top 52), 3, [], .none, .none, .none, (.str "law_shadowpages_k14_looked_at" 656), none, (.ref 434), .none, 0⟩), #[]⟩) ::
  (nat_lit 436, ⟨(.type "tuple"), none, (.seq #[] 0), #[]⟩) ::
  (nat_lit 439, ⟨(.type "code"), none, (.fields #[(.str "law" 770), (.str "law" 771), (.str "/claim/cut.py" 772), (.int 232 0), (.int 1 0), (.int 0 0), (.int 0 0), (.int 3 0), (.ref 436), (.bool true), (.int 181 0), (.ref 437), .none, .none, .none, (.ref 438), (.int 773 0), (.int 232 0), (.str "/claim/cut.py" 774)]), #[]⟩) ::
  (nat_lit 440, ⟨(.type "function"), none, (.func ⟨"law", "law", defArgs (top 53), .stmts (defBody (top 53)), defScope (top 53), 3, [], .none, .none, .none, (.str "law_shadowpages_k14_looked_at" 656), none, (.ref 439), .none, 0⟩), #[]⟩) :: []
def asF : List Nat := [2, 3, 15, 17, 18, 20, 21, 22, 29, 30, 31, 32, 35, 42, 43, 44, 47, 54, 55, 56, 59, 66, 67, 68, 71, 78, 79, 80, 83, 90, 91, 92, 95, 102, 103, 104, 107, 114, 116, 117, 119, 120, 121, 122, 123, 126, 128, 129, 131, 132, 133, 135, 136, 138, 139, 140, 142, 143, 145, 146, 147, 149, 150, 152, 153, 154, 156, 157, 159, 160, 161, 163, 164, 166, 167, 168, 170, 171, 173, 174, 175, 177, 178, 180, 181, 182, 184, 185, 187, 188, 189, 191, 192, 194, 195, 196, 199, 200, 201, 203, 204, 206, 207, 208, 210, 211, 213, 214, 222, 224, 225, 227, 228, 229, 231, 232, 234, 235, 236, 238, 239, 241, 242, 243, 245, 246, 248, 249, 250, 252, 253, 255, 256, 257, 259, 260, 262, 263, 264, 266, 267, 269, 270, 271, 273, 274, 276, 277, 278, 280, 281, 283, 284, 285, 286, 287, 288, 289, 292, 299, 302, 303, 304, 306, 307, 309, 310, 311, 313, 314, 316, 317, 318, 320, 321, 323, 324, 325, 327, 328, 330, 331, 332, 334, 335, 337, 338, 339, 341, 342, 344, 345, 346, 349, 350, 351, 352, 353, 356, 358, 359, 361, 362, 363, 365, 366, 368, 369, 370, 372, 373, 375, 376, 377, 379, 380, 382, 383, 384, 387, 388, 389, 392, 393, 394, 396, 397, 399, 400, 401, 403, 404, 406, 407, 408, 410, 411, 413, 414, 415, 417, 418, 420, 421, 422, 424, 425, 427, 428, 429, 431, 432, 434, 435, 436, 439, 440]
theorem hF (P : Params) : asF = (KF P).map (·.1) := by kernel_rfl
noncomputable def vw : Program := { PySem.Challenge.pw_shadowpages_k14_looked_at with main := { PySem.Challenge.pw_shadowpages_k14_looked_at.main with body := [top 0, top 1, top 2, top 3, top 4, top 5, top 6, top 8, top 9, top 10, top 11, top 12, top 13, top 14, top 15, top 17, top 18, top 19, top 21, top 22, top 24, top 25, top 26, top 27, top 28, top 29, top 31, top 32, top 33, top 35, top 36, top 37, top 38, top 39, top 41, top 42, top 43, top 44, top 45, top 46, top 47, top 48, top 49, top 50, top 51, top 52, top 53] } }
set_option maxHeartbeats 0 in
theorem hl : PySem.W.LeftO PySem.Challenge.rw_shadowpages_k14_looked_at.row.prog vw [] (fun s => PySem.W.xlAt vw [] s && PySem.W.recOk [] s) (PySem.W.kHook KF asF hF).obs (PySem.W.kHook KF asF hF).val 7392 := by
  refine HT1.left_one (by rfl) (by rfl) (fun _ => rfl) fun w => ?_
  rw [PySem.W.Fast.te2107270133195307567, PySem.W.Fast.te4757257242682413121, PySem.W.Fast.te6483871617321286689, PySem.W.Fast.te3486900944545009338]
  kernel_rfl
end K14
end
section
namespace L2
open PySem PySem.Spec PyProof.Rows
abbrev Key := Sum Int Str
def keyIs : Key → Value → Bool
  | .inl k, v => Value.isInt k v
  | .inr x, v => Value.isStrOf x v
def keyH (w : World) : Key → Int
  | .inl k => hashInt k
  | .inr x => hashStr w x
theorem keyIs_shape : ∀ {k : Key} {v : Value}, keyIs k v = true → (∃ i t, k = Sum.inl i ∧ v = Value.int i t) ∨ (∃ x t, k = Sum.inr x ∧ v = Value.str x t)
  | .inl i, v, h => by
    obtain ⟨t, e⟩ := Value.isInt_shape (k := i) (v := v) h
    exact .inl ⟨i, t, rfl, e⟩
  | .inr x, v, h => by
    obtain ⟨t, e⟩ := Value.isStrOf_shape (x := x) (v := v) h
    exact .inr ⟨x, t, rfl, e⟩
theorem key_ll (a b : Int) : decide ((Sum.inl a : Key) = Sum.inl b) = (a == b) := by
  by_cases e : a = b
  · subst e; simp
  · have h : ¬ (Sum.inl a : Key) = Sum.inl b := fun q => e (Sum.inl.inj q)
    rw [decide_eq_false h]
    exact (beq_eq_false_iff_ne.mpr e).symm
theorem key_rr (a b : Str) : decide ((Sum.inr a : Key) = Sum.inr b) = decide (a = b) := by
  by_cases e : a = b
  · subst e; simp
  · have h : ¬ (Sum.inr a : Key) = Sum.inr b := fun q => e (Sum.inr.inj q)
    rw [decide_eq_false h, decide_eq_false e]
theorem key_lr (a : Int) (b : Str) : decide ((Sum.inl a : Key) = Sum.inr b) = false := decide_eq_false (fun q => nomatch q)
theorem key_rl (a : Str) (b : Int) : decide ((Sum.inr a : Key) = Sum.inl b) = false := decide_eq_false (fun q => nomatch q)
def mixKind (prog : Program) (w : World) : PySem.KeyKind prog w Key where
  is := keyIs
  hash := keyH w
  inj := fun v a b ha hb => by
    rcases keyIs_shape ha with ⟨i, t, rfl, rfl⟩ | ⟨x, t, rfl, rfl⟩
    · rcases keyIs_shape hb with ⟨j, u, rfl, e⟩ | ⟨y, u, rfl, e⟩
      · injection e with e1 _; rw [e1]
      · exact nomatch e
    · rcases keyIs_shape hb with ⟨j, u, rfl, e⟩ | ⟨y, u, rfl, e⟩
      · exact nomatch e
      · injection e with e1 _; rw [e1]
  byValue := fun k v h => by
    rcases keyIs_shape h with ⟨i, t, rfl, rfl⟩ | ⟨x, t, rfl, rfl⟩ <;> rfl
  pyHash := fun hv h => by
    rcases keyIs_shape hv with ⟨i, t, rfl, rfl⟩ | ⟨x, t, rfl, rfl⟩
    · exact wpAny_pyHash_int h
    · exact wpAny_pyHash_str h
  eqBool := fun hu hv h => by
    rcases keyIs_shape hu with ⟨i, t, rfl, rfl⟩ | ⟨x, t, rfl, rfl⟩
    · rcases keyIs_shape hv with ⟨j, u, rfl, rfl⟩ | ⟨y, u, rfl, rfl⟩
      · rw [key_ll] at h; exact wpAny_eqBool_int h
      · rw [key_lr] at h; exact SeqAt.EqAt.int_str i t y u _ _ _ _ h
    · rcases keyIs_shape hv with ⟨j, u, rfl, rfl⟩ | ⟨y, u, rfl, rfl⟩
      · rw [key_rl] at h; exact SeqAt.EqAt.str_int x t j u _ _ _ _ h
      · rw [key_rr] at h; exact wpAny_eqBool_str h
  «strs» := fun k x t v h => by
    rcases keyIs_shape h with ⟨i, u, rfl, e⟩ | ⟨y, u, rfl, e⟩
    · exact nomatch e
    · injection e with e1 _
      subst e1
      cases v <;> rfl
end L2
namespace L2
open PySem PySem.Spec PyProof.Rows
inductive V where
  | non | bl (b : Bool) | int (i : Int) | str (x : Str) | byt (b : Array UInt8) | flt (b : UInt64) | ref (a : Addr) | ty (n : String)
  deriving DecidableEq
def RelV : V → Value → Prop
  | .non, u => u = Value.none
  | .bl b, u => u = Value.bool b
  | .int i, u => ∃ t, u = Value.int i t
  | .str x, u => ∃ t, u = Value.str x t
  | .byt b, u => ∃ t, u = Value.bytes b t
  | .flt b, u => ∃ t, u = Value.float b t
  | .ref a, u => u = Value.ref a
  | .ty n, u => u = Value.type n
abbrev Vals : List V → List Value → Prop := Paired RelV
theorem Vals.length {xs : List V} {us : List Value} (r : Vals xs us) : xs.length = us.length := Paired.length r
theorem Vals.get : ∀ {xs : List V} {us : List Value} {i : Nat} {x : V}, Vals xs us → xs[i]? = some x → ∃ u, us[i]? = some u ∧ RelV x u
  | _, _, _, _, .nil, e => by simp at e
  | _, _, 0, _, .cons r _, e => by simp at e; subst e; exact ⟨_, rfl, r⟩
  | _, _, i + 1, x, .cons _ t, e => by
    obtain ⟨u, h1, h2⟩ := Vals.get (i := i) (x := x) t (by simpa using e)
    exact ⟨u, by simpa using h1, h2⟩
theorem Vals.append : ∀ {xs ys : List V} {us ws : List Value}, Vals xs us → Vals ys ws → Vals (xs ++ ys) (us ++ ws)
  | _, _, _, _, .nil, s => s
  | _, _, _, _, .cons r t, s => .cons r (Vals.append t s)
theorem Vals.take : ∀ {xs : List V} {us : List Value} (n : Nat), Vals xs us → Vals (xs.take n) (us.take n)
  | _, _, 0, _ => .nil
  | _, _, _ + 1, .nil => .nil
  | _, _, n + 1, .cons r t => .cons r (Vals.take n t)
theorem Vals.drop : ∀ {xs : List V} {us : List Value} (n : Nat), Vals xs us → Vals (xs.drop n) (us.drop n)
  | _, _, 0, r => r
  | _, _, _ + 1, .nil => .nil
  | _, _, n + 1, .cons _ t => Vals.drop n t
def RelO : Option V → Option Value → Prop
  | some v, some u => RelV v u
  | none, none => True
  | _, _ => False
def KV {κ : Type} : List (κ × V) → List (κ × Value) → Prop := Paired fun (p : κ × V) (q : κ × Value) => p.1 = q.1 ∧ RelV p.2 q.2
def kV : Key → V
  | .inl i => .int i
  | .inr x => .str x
inductive HO where
    | lst (xs : List V)
    | tup (xs : List V)
    | dK (kvs : List (Key × V)) | dT (kvs : List (List Key × V))
    | set (S : Int → Bool) (n : Nat)
    | ins (C dx : Addr) (fs : List (Str × V))
    | own (x : Addr)
    | xd (fs : List (Str × V))
    | met (f x : Addr)
    | rng (lo hi : Int)
    | frz (o : Obj) (u : HO)
    | tbl (ps : Array Value)
    | ext (φ : Heap → Prop)
abbrev Hp := Addr → Option HO
def upd (H : Hp) (a : Addr) (o : HO) : Hp := fun b => if b = a then some o else H b
theorem upd_same {H : Hp} {a : Addr} {o : HO} : upd H a o a = some o := by unfold upd; rw [if_pos rfl]
theorem upd_ne {H : Hp} {a b : Addr} {o : HO} (h : b ≠ a) : upd H a o b = H b := by unfold upd; rw [if_neg h]
theorem ne_of_none {H : Hp} {a b : Addr} {o : HO} (h : H a = some o) (h' : H b = none) : a ≠ b := by
  intro e; subst e; rw [h] at h'; cases h'
section
variable (P : Program) (w : World)
def ObjOk (H : Hp) (h : Heap) (a : Addr) : HO → Prop
  | .lst xs => xs.length ≤ sizeLine ∧ ∃ (its : List Value) (n : Nat), Vals xs its ∧ h.get? a = some { cls := .type "list", data := .seq its.toArray n }
  | .tup xs => xs.length ≤ sizeLine ∧ ∃ its : List Value, Vals xs its ∧ IsTup h a its.toArray
  | .dK kvs => kvs.length ≤ sizeLine ∧ (a == sysModules) = false ∧ ∃ vs, KV kvs vs ∧ h.DictOf (mixKind P w) a vs
  | .dT kvs => kvs.length ≤ sizeLine ∧ (a == sysModules) = false ∧ ∃ xs : List (List Key × Addr × Value),
      Paired (fun (p : List Key × V) (q : List Key × Addr × Value) => p.1 = q.1 ∧ H q.2.1 = some (.tup (p.1.map kV)) ∧ RelV p.2 q.2.2) kvs xs ∧
      ∃ o es ep, h.get? a = some o ∧ o.ExactDict ∧ o.data = .dict es ep ∧ es.toList = xs.map (entryOfKey (tupleKind (mixKind P w))) ∧ (xs.map (·.1)).Nodup
  | .set S n => h.SetOf (intKind P w) a S n
  | .ins C dx fs => H dx = some (.own a) ∧ fs.length ≤ 1000 ∧ dx ≠ a ∧ h.get? a = some (PySem.W.instObj C dx) ∧
      ∃ mA, h.Ns1 dx mA ∧ (∀ f, RelO (fs.lookup f) (mA f)) ∧ PySem.Within mA (fs.map (·.1))
  | .own _ => ∃ o, h.get? a = some o
  | .xd fs => ∃ mA, h.Ns1 a mA ∧ ∀ f, RelO (fs.lookup f) (mA f)
  | .rng lo hi => ∃ t u v, h.get? a = some { cls := .type "range", data := .fields #[.int lo t, .int hi u, .int 1 v] }
  | .frz o u => h.get? a = some o ∧ ObjOk H h a u
  | .tbl ps => h.get? a = some { cls := .none, data := .fields ps }
  | .met f x => h.get? a = some (PySem.W.methodObj (.ref f) (.ref x))
  | .ext φ => φ h ∧ (∃ o, h.get? a = some o) ∧ ∀ h1 h2 : Heap, φ h1 → (∀ o, h1.get? a = some o → h2.get? a = some o) → φ h2
def HOk (H : Hp) (h : Heap) : Prop := ∀ a o, H a = some o → ObjOk P w H h a o
end
section
variable {P : Program} {w : World} {H H' : Hp} {h h' : Heap} {a : Addr} {o : HO}
theorem ObjOk.lt (x : ObjOk P w H h a o) : a < h.objs.size := by
  cases o with
  | lst xs => obtain ⟨_, _, _, _, e⟩ := x; exact Heap.lt_size e
  | tup xs => obtain ⟨_, _, _, p⟩ := x; exact p.lt
  | dK kvs => obtain ⟨_, _, _, _, o, _, _, e, _⟩ := x; exact Heap.lt_size e
  | dT kvs => obtain ⟨_, _, _, _, o, _, _, e, _⟩ := x; exact Heap.lt_size e
  | set S n => obtain ⟨o, _, _, _, e, _⟩ := x; exact Heap.lt_size e
  | ins C dx fs => obtain ⟨_, _, _, e, _⟩ := x; exact Heap.lt_size e
  | own y => obtain ⟨_, e⟩ := x; exact Heap.lt_size e
  | xd fs => obtain ⟨_, ⟨_, _, _, e, _⟩, _⟩ := x; exact Heap.lt_size e
  | rng lo hi => obtain ⟨_, _, _, e⟩ := x; exact Heap.lt_size e
  | frz ob u => obtain ⟨e, _⟩ := x; exact Heap.lt_size e
  | tbl ps => exact Heap.lt_size (show h.get? a = some _ from x)
  | met f y => exact Heap.lt_size (show h.get? a = some _ from x)
  | ext φ => obtain ⟨_, ⟨_, e⟩, _⟩ := x; exact Heap.lt_size e
theorem Paired.mapP {α β : Type} {F G : α → β → Prop} : ∀ {l₁ : List α} {l₂ : List β}, Paired F l₁ l₂ → (∀ a b, F a b → G a b) → Paired G l₁ l₂
  | _, _, .nil, _ => .nil
  | _, _, .cons r t, f => .cons (f _ _ r) (Paired.mapP t f)
theorem ObjOk.stay (x : ObjOk P w H h a o) (k : ∀ b u, (b = a ∨ H b = some (.own a)) → h.get? b = some u → h'.get? b = some u)
    (ho : ∀ b, H b = some (.own a) → H' b = some (.own a)) (ht : ∀ b xs, H b = some (.tup xs) → H' b = some (.tup xs)) : ObjOk P w H' h' a o := by
  induction o with
  | lst xs => obtain ⟨z, its, n, r, e⟩ := x; exact ⟨z, its, n, r, k _ _ (.inl rfl) e⟩
  | tup xs => obtain ⟨z, its, r, ob, e, c⟩ := x; exact ⟨z, its, r, ob, k _ _ (.inl rfl) e, c⟩
  | dK kvs => obtain ⟨z, y, vs, r, ob, es, ep, e, c⟩ := x; exact ⟨z, y, vs, r, ob, es, ep, k _ _ (.inl rfl) e, c⟩
  | dT kvs =>
    obtain ⟨z, y, xs, r, ob, es, ep, e, c⟩ := x
    exact ⟨z, y, xs, Paired.mapP r fun p q z => ⟨z.1, ht _ _ z.2.1, z.2.2⟩, ob, es, ep, k _ _ (.inl rfl) e, c⟩
  | set S n => obtain ⟨ob, es, ep, t, e, c⟩ := x; exact ⟨ob, es, ep, t, k _ _ (.inl rfl) e, c⟩
  | ins C dx fs =>
    obtain ⟨d, z, ne, e, mA, ⟨od, es, ep, e2, c⟩, r⟩ := x
    exact ⟨ho _ d, z, ne, k _ _ (.inl rfl) e, mA, ⟨od, es, ep, k _ _ (.inr d) e2, c⟩, r⟩
  | own y => obtain ⟨ob, e⟩ := x; exact ⟨ob, k _ _ (.inl rfl) e⟩
  | xd fs => obtain ⟨mA, ⟨od, es, ep, e, c⟩, r⟩ := x; exact ⟨mA, ⟨od, es, ep, k _ _ (.inl rfl) e, c⟩, r⟩
  | rng lo hi => obtain ⟨t, u, v, e⟩ := x; exact ⟨t, u, v, k _ _ (.inl rfl) e⟩
  | frz ob u ih => obtain ⟨e, q⟩ := x; exact ⟨k _ _ (.inl rfl) e, ih q⟩
  | tbl ps =>
    have e : h.get? a = some { cls := .none, data := .fields ps } := x
    show h'.get? a = some { cls := .none, data := .fields ps }
    exact k a _ (.inl rfl) e
  | met f y =>
    have e : h.get? a = some (PySem.W.methodObj (.ref f) (.ref y)) := x
    show h'.get? a = some (PySem.W.methodObj (.ref f) (.ref y))
    exact k a _ (.inl rfl) e
  | ext φ => obtain ⟨p, ⟨o, e⟩, st⟩ := x; exact ⟨st _ _ p fun o q => k _ _ (.inl rfl) q, ⟨o, k _ _ (.inl rfl) e⟩, st⟩
theorem HOk.lt (x : HOk P w H h) (e : H a = some o) : a < h.objs.size := (x a o e).lt
theorem HOk.fresh (x : HOk P w H h) (e : h.objs.size ≤ a) : H a = none := by
  cases q : H a with
  | none => rfl
  | some u => exact absurd (Nat.lt_of_lt_of_le (x.lt q) e) (Nat.lt_irrefl _)
theorem HOk.kept (x : HOk P w H h) (k : ∀ b u, h.get? b = some u → h'.get? b = some u) : HOk P w H h' := fun a o e =>
  (x a o e).stay (fun b u _ q => k b u q) (fun _ q => q) fun _ _ q => q
theorem HOk.laid (x : HOk P w H h) (k : ∀ b u, h.get? b = some u → h'.get? b = some u) (hp : h.objs.size ≤ a) (new : ObjOk P w (upd H a o) h' a o) : HOk P w (upd H a o) h' := fun b u e => by
  have hn := x.fresh hp
  by_cases hb : b = a
  · subst hb; rw [upd_same] at e; cases e; exact new
  · rw [upd_ne hb] at e
    exact (x b u e).stay (fun c v _ q => k c v q) (fun c q => by rw [upd_ne (ne_of_none q hn)]; exact q) fun c xs q => by rw [upd_ne (ne_of_none q hn)]; exact q
end
def Rd (H : Hp) (a : Addr) (u : HO) : Prop := H a = some u ∨ ∃ o, H a = some (.frz o u)
theorem Rd.ok {P : Program} {w : World} {H : Hp} {h : Heap} {a : Addr} {u : HO} (r : Rd H a u) (x : HOk P w H h) : ObjOk P w H h a u := by
  rcases r with r | ⟨o, r⟩
  · exact x a u r
  · obtain ⟨_, q⟩ := x a _ r
    exact q
def Mut : Option HO → Prop
  | some (.lst _) => True
  | some (.dK _) => True
  | some (.dT _) => True
  | some (.set _ _) => True
  | some (.ins _ _ _) => True
  | some (.ext _) => True
  | _ => False
section
variable {P : Program} {w : World} {H : Hp} {h h' : Heap} {x e : Addr} {o' : HO}
theorem HOk.write (ok : HOk P w H h) (mu : Mut (H x)) (he : e = x ∨ H e = some (.own x)) (k : ∀ b u, b ≠ e → h.get? b = some u → h'.get? b = some u) (heo : ∃ u, h'.get? e = some u)
    (new : ObjOk P w (upd H x o') h' x o') : HOk P w (upd H x o') h' := fun b u q => by
  have nown : ∀ c y, H c = some (.own y) → c ≠ x := fun c y r z => by subst z; rw [r] at mu; exact mu
  have ntup : ∀ c xs, H c = some (.tup xs) → c ≠ x := fun c xs r z => by subst z; rw [r] at mu; exact mu
  by_cases hb : b = x
  · subst hb; rw [upd_same] at q; cases q; exact new
  · rw [upd_ne hb] at q
    by_cases hbe : b = e
    · have q' : H b = some (.own x) := by
        rcases he with z | z
        · exact absurd (hbe.trans z) hb
        · rw [hbe]; exact z
      rw [q] at q'; cases q'
      obtain ⟨v, hv⟩ := heo
      exact ⟨v, by rw [hbe]; exact hv⟩
    · refine (ok b u q).stay (fun c v hc r => k c v ?_ r) (fun c r => by rw [upd_ne (nown c b r)]; exact r) fun c xs r => by rw [upd_ne (ntup c xs r)]; exact r
      rcases hc with rfl | hc
      · exact hbe
      · rintro rfl
        rcases he with z | z
        · exact nown c b hc z
        · rw [hc] at z; cases z; exact hb rfl
end
structure Un (fs ex : List Addr) (H H' : Hp) (h h' : Heap) : Prop where
  keep : ∀ b o, h.get? b = some o → H b = none → b ∉ fs → b ∉ ex → h'.get? b = some o
  slot : ∀ b o, h.get? b = some o → H b = none → b ∈ fs → b ∉ ex → ∃ sl, h'.get? b = some { o with slots := sl }
  free : ∀ b o, h.get? b = some o → H b = none → b ∉ ex → H' b = none
  there : ∀ b o, h.get? b = some o → b ∉ ex → ∃ o', h'.get? b = some o'
  tups : ∀ b xs, H b = some (.tup xs) → H' b = some (.tup xs)
  frzs : ∀ b o u, H b = some (.frz o u) → H' b = some (.frz o u)
  tbls : ∀ b ps, H b = some (.tbl ps) → ∃ more, H' b = some (.tbl (ps ++ more))
section
variable {fs fs' ex ex' : List Addr} {H H1 H2 : Hp} {h h1 h2 h' : Heap} {a x e : Addr} {o : HO}
theorem Un.any (u : Un fs ex H H1 h h1) {b : Addr} {ob : Obj} (q : h.get? b = some ob) (n : H b = none) (hx : b ∉ ex) : ∃ sl, h1.get? b = some { ob with slots := sl } := by
  by_cases hb : b ∈ fs
  · exact u.slot b ob q n hb hx
  · exact ⟨ob.slots, u.keep b ob q n hb hx⟩
theorem Un.kept (k : ∀ b u, h.get? b = some u → h'.get? b = some u) : Un fs ex H H h h' :=
  ⟨fun b ob q _ _ _ => k b ob q, fun b ob q _ _ _ => ⟨ob.slots, k b ob q⟩, fun _ _ _ n _ => n, fun b ob q _ => ⟨ob, k b ob q⟩, fun _ _ q => q, fun _ _ _ q => q, fun _ ps q => ⟨#[], by rw [q]; simp⟩⟩
theorem Un.refl : Un fs ex H H h h := Un.kept fun _ _ q => q
theorem Un.laid (k : ∀ b u, h.get? b = some u → h'.get? b = some u) (hp : h.objs.size ≤ a) (hn : H a = none) : Un fs ex H (upd H a o) h h' where
  keep := fun b u q _ _ _ => k b u q
  slot := fun b u q _ _ _ => ⟨u.slots, k b u q⟩
  free := fun b u q n _ => by rw [upd_ne (Nat.ne_of_lt (Nat.lt_of_lt_of_le (Heap.lt_size q) hp))]; exact n
  there := fun b u q _ => ⟨u, k b u q⟩
  tups := fun b xs q => by rw [upd_ne (ne_of_none q hn)]; exact q
  frzs := fun b u xs q => by rw [upd_ne (ne_of_none q hn)]; exact q
  tbls := fun b ps q => ⟨#[], by rw [upd_ne (ne_of_none q hn), q]; simp⟩
theorem Un.write (mu : Mut (H x)) (he : e = x ∨ H e = some (.own x)) (k : ∀ b u, b ≠ e → h.get? b = some u → h'.get? b = some u) (heo : ∃ u, h'.get? e = some u) : Un fs ex H (upd H x o) h h' := by
  have hx : ∀ b, H b = none → b ≠ x := fun b n z => by subst z; rw [n] at mu; exact mu
  have hb : ∀ b, H b = none → b ≠ e := fun b n z => by
    subst z
    rcases he with r | r
    · exact hx b n r
    · rw [n] at r; cases r
  have hm : ∀ b u, H b = some u → ¬ Mut (some u) → b ≠ x := fun b u q nm z => by subst z; rw [q] at mu; exact nm mu
  refine ⟨fun b u q n _ _ => k b u (hb b n) q, fun b u q n _ _ => ⟨u.slots, k b u (hb b n) q⟩, fun b u q n _ => by rw [upd_ne (hx b n)]; exact n, fun b u q _ => ?_,
    fun b xs q => by rw [upd_ne (hm b _ q fun z => z)]; exact q, fun b u xs q => by rw [upd_ne (hm b _ q fun z => z)]; exact q, fun b ps q => ⟨#[], by rw [upd_ne (hm b _ q fun z => z), q]; simp⟩⟩
  by_cases hbe : b = e
  · subst hbe; exact heo
  · exact ⟨u, k b u hbe q⟩
end
def trk (h : Heap) (H : Hp) : List Addr := (List.range h.objs.size).filter fun a => (H a).isSome
def hidT (h : Heap) (H : Hp) : Heap := PySem.W.hideAll h (trk h H)
theorem hidT_size (h : Heap) (H : Hp) : (hidT h H).objs.size = h.objs.size := PySem.W.hideAll_size _ _
theorem hidT_get {h : Heap} {H : Hp} {b : Addr} {o : Obj} (e : h.get? b = some o) (n : H b = none) : (hidT h H).get? b = some o :=
  PySem.W.hideAll_get _ e fun hm => by
    have q : (H b).isSome = true := (List.mem_filter.mp hm).2
    rw [n] at q; simp at q
theorem of_hidT {h : Heap} {H : Hp} {b : Addr} {o : Obj} (e : (hidT h H).get? b = some o) : h.get? b = some o ∧ H b = none := by
  have e' : h.get? b = some o := PySem.W.of_hideAll (trk h H) e
  refine ⟨e', ?_⟩
  cases q : H b with
  | none => rfl
  | some x =>
    have hm : b ∈ trk h H := List.mem_filter.mpr ⟨List.mem_range.mpr (Heap.lt_size e'), by simp [q]⟩
    have z : (hidT h H).get? b = none := PySem.W.hideAll_none (trk h H) hm
    rw [z] at e; cases e
end L2
namespace L2
open PySem PySem.Spec PyProof.Rows
structure Mod (K : PySem.W.Frag) (mg : Str → Option Value) (base : Heap) : Prop where
  kin : K.In base
  glob : base.Ns mainGlobals mg
  blt : ∃ mb, base.Ns builtinsNs mb ∧ ∀ x : Str, x ≠ "__name__" → mb x = bootBuiltins x
  nolimit : base.NoLimit
structure Cx where
  prog : Program
  w : World
  K : PySem.W.Frag
  mg : Str → Option Value
  base : Heap
  A : Around
  N : List Str
  s₀ : Shared
  H₀ : Hp
  env : Env
  outer : List Env
  stack : List Env
  ex : List Addr
  fn : Str → Bool
  calm : Bool
  pn : List (Addr × Obj)
  xe : Value → Shared → Prop
def frs (l : List Env) : List Addr := l.filterMap (·.frame)
abbrev Cx.fs (X : Cx) : List Addr := frs X.outer
def Vis (sc : Scope) (x : Str) : Prop := sc.names.lookup x = some .local ∨ sc.names.lookup x = some .cell ∨ sc.names.lookup x = some .free
def Loc (sc : Scope) (x : Str) : Prop := sc.names.lookup x = some .local ∨ sc.names.lookup x = some .cell
def Look (env : Env) (h : Heap) (m : Str → Option Value) (x : Str) (u : Value) : Prop :=
  (env.kindOf x = some .local ∧ m x = some u) ∨ ((env.kindOf x = some .cell ∨ env.kindOf x = some .free) ∧ ∃ c, env.cells.lookup x = some c ∧ h.IsCell c (some u))
structure Cx.Ok (X : Cx) : Prop where
  mod : Mod X.K X.mg X.base
  kind : X.env.scope.kind = .function
  glob : X.env.globals = mainGlobals
  blt : X.env.builtins = builtinsNs
  above : X.s₀.heap.objs.size ≤ X.env.locals
  inj : ∀ x y c, X.env.cells.lookup x = some c → X.env.cells.lookup y = some c → x = y
  has : ∀ x, (X.env.kindOf x = some .cell ∨ X.env.kindOf x = some .free) → ∃ c, X.env.cells.lookup x = some c
  cab : ∀ x c, X.fn x = true → X.env.cells.lookup x = some c → X.s₀.heap.objs.size ≤ c
  hd : X.calm = true → X.A.handled = none
  frames : X.A.frames = some X.stack
  stk : X.stack = X.outer ∨ (X.stack = X.env :: X.outer ∧ X.env.frame = some X.env.locals)
  exf : ∀ b ∈ X.ex, b ≠ X.env.locals ∧ ∀ x c, X.env.cells.lookup x = some c → c ≠ b
  bs : ∀ b o, X.base.get? b = some o → X.s₀.heap.get? b = some o ∧ X.H₀ b = none
  bsz : X.base.objs.size ≤ X.s₀.heap.objs.size
  noex : ∀ b o, X.base.get? b = some o → b ∉ X.ex
  exfs : ∀ b ∈ X.ex, b ∉ X.fs
  funs : X.s₀.heap.FunFrames X.base X.outer
  frf : ∀ b ∈ X.fs, X.H₀ b = none
structure Inv (X : Cx) (pins : List (Addr × Obj)) (σ : List (Option V)) (H : Hp) (s : Shared) : Prop where
  ok : X.Ok
  os : s.os = X.s₀.os
  bare : AllBare s.gens
  base : Un X.fs X.ex X.H₀ H X.s₀.heap s.heap
  loc : ∃ m, s.heap.Ns X.env.locals m ∧ ∀ (i : Nat) (x : Str) (v : V), X.N[i]? = some x → σ[i]? = some (some v) → Vis X.env.scope x → ∃ u, RelV v u ∧ Look X.env s.heap m x u
  cell : ∀ x c, X.env.cells.lookup x = some c → ∃ v, s.heap.IsCell c v
  free : H X.env.locals = none
  freeC : ∀ x c, X.env.cells.lookup x = some c → H c = none
  pin : ∀ p ∈ X.pn ++ pins, s.heap.get? p.1 = some p.2 ∧ H p.1 = none ∧ p.1 ≠ X.env.locals ∧ p.1 ∉ X.fs ∧ ∀ v, p.2.data ≠ .cell v
  hok : HOk X.prog X.w H s.heap
  len : σ.length = X.N.length
section
variable {X : Cx} {pins : List (Addr × Obj)} {σ : List (Option V)} {H H' : Hp} {s : Shared} {h' : Heap}
theorem Cx.Ok.nofr (ok : X.Ok) {b : Addr} {o : Obj} (e : X.base.get? b = some o) : b ∉ X.fs := fun hb => by
  have := (ok.funs.mem hb).1
  rw [e] at this; cases this
theorem Inv.bs (I : Inv X pins σ H s) : ∀ b o, X.base.get? b = some o → s.heap.get? b = some o ∧ H b = none := fun b o e =>
  ⟨I.base.keep b o (I.ok.bs b o e).1 (I.ok.bs b o e).2 (I.ok.nofr e) (I.ok.noex b o e), I.base.free b o (I.ok.bs b o e).1 (I.ok.bs b o e).2 (I.ok.noex b o e)⟩
theorem Inv.bk (I : Inv X pins σ H s) : ∀ b o, X.base.get? b = some o → s.heap.get? b = some o := fun b o e => (I.bs b o e).1
theorem Inv.mod (I : Inv X pins σ H s) : Mod X.K X.mg X.base := I.ok.mod
theorem Inv.kIn (I : Inv X pins σ H s) : X.K.In s.heap := I.ok.mod.kin.keeps I.bk
theorem Inv.lt (I : Inv X pins σ H s) : X.env.locals < s.heap.objs.size := let ⟨_, hn, _⟩ := I.loc; hn.lt
theorem Inv.sz (I : Inv X pins σ H s) : X.s₀.heap.objs.size ≤ s.heap.objs.size := Nat.le_trans I.ok.above (Nat.le_of_lt I.lt)
theorem Inv.nofs (I : Inv X pins σ H s) {a : Addr} (h : s.heap.objs.size ≤ a) : a ∉ X.fs := fun hb => by
  obtain ⟨_, o, ho, _⟩ := I.ok.funs.mem hb
  exact absurd (Nat.lt_of_lt_of_le (Heap.lt_size ho) (Nat.le_trans I.sz h)) (Nat.lt_irrefl _)
theorem Inv.cne (I : Inv X pins σ H s) : ∀ x c, X.env.cells.lookup x = some c → c ≠ X.env.locals := fun x c e z => by
  obtain ⟨v, o, ho, hd⟩ := I.cell x c e
  obtain ⟨m, ⟨o', es, ep, ho', hd', _⟩, _⟩ := I.loc
  rw [z, ho'] at ho; cases ho; rw [hd'] at hd; cases hd
theorem Inv.funs (I : Inv X pins σ H s) : s.heap.FunFrames X.base X.outer := by
  have all : ∀ (l : List Env), (∀ b ∈ frs l, b ∈ X.fs) → X.s₀.heap.FunFrames X.base l → s.heap.FunFrames X.base l := by
    intro l
    induction l with
    | nil => intro _ _; trivial
    | cons env r ih =>
      intro hs hl
      obtain ⟨hk, ⟨L, o, hf, hn, ho, hd⟩, hr⟩ := hl
      have hL : L ∈ X.fs := hs L (by unfold frs; rw [List.filterMap_cons, hf]; exact List.mem_cons_self)
      obtain ⟨sl, e⟩ := I.base.slot L o ho (I.ok.frf L hL) hL fun z => I.ok.exfs L z hL
      exact ⟨hk, ⟨L, _, hf, hn, e, hd⟩, ih (fun b hb => hs b (by unfold frs; rw [List.filterMap_cons, hf]; exact List.mem_cons_of_mem _ hb)) hr⟩
  exact all X.outer (fun _ hb => hb) I.ok.funs
theorem Inv.stack (I : Inv X pins σ H s) : s.heap.FunFrames X.base X.stack := by
  rcases I.ok.stk with e | ⟨e, hf⟩
  · rw [e]; exact I.funs
  · rw [e]
    obtain ⟨m, hn, _⟩ := I.loc
    refine .cons (by rw [I.ok.kind]; decide) hf hn ?_ I.funs
    exact Heap.get?_none_of_le (Nat.le_trans I.ok.bsz I.ok.above)
theorem Inv.stkSub (I : Inv X pins σ H s) : ∀ b ∈ frs X.stack, b ∈ X.env.locals :: X.fs := fun b hb => by
  rcases I.ok.stk with e | ⟨e, hf⟩
  · rw [e] at hb; exact List.mem_cons_of_mem _ hb
  · rw [e] at hb
    unfold frs at hb
    rw [List.filterMap_cons, hf] at hb
    exact hb
theorem Inv.stkFree (I : Inv X pins σ H s) : ∀ b ∈ frs X.stack, H b = none := fun b hb => by
  rcases List.mem_cons.mp (I.stkSub b hb) with e | hb
  · rw [e]; exact I.free
  · obtain ⟨_, o, ho, _⟩ := I.ok.funs.mem hb
    exact I.base.free b o ho (I.ok.frf b hb) fun z => I.ok.exfs b z hb
theorem Inv.step {g' : Array GenState} {t' : Nat} {d' : Drawn} {ch : List Addr} (I : Inv X pins σ H s)
    (hch : ∀ b ∈ ch, (b ∈ X.ex ∨ X.s₀.heap.objs.size ≤ b) ∧ b ≠ X.env.locals ∧ (∀ x c, X.env.cells.lookup x = some c → c ≠ b) ∧ ∀ p ∈ X.pn ++ pins, p.1 ≠ b)
    (keep : ∀ b o, b ≠ X.env.locals → b ∉ X.fs → b ∉ ch → s.heap.get? b = some o → H b = none → h'.get? b = some o)
    (slot : ∀ b o, b ≠ X.env.locals → b ∈ X.fs → b ∉ ch → s.heap.get? b = some o → H b = none → ∃ sl, h'.get? b = some { o with slots := sl }) (free : ∀ b o, b ∉ ch → s.heap.get? b = some o → H b = none → H' b = none)
    (there : ∀ b o, b ∉ ch → s.heap.get? b = some o → ∃ o', h'.get? b = some o')
    (tups : ∀ b xs, H b = some (.tup xs) → H' b = some (.tup xs)) (frzs : ∀ b o u, H b = some (.frz o u) → H' b = some (.frz o u)) (tbls : ∀ b ps, H b = some (.tbl ps) → ∃ more, H' b = some (.tbl (ps ++ more)))
    (ns : ∀ m, s.heap.Ns X.env.locals m → h'.Ns X.env.locals m) (hok : HOk X.prog X.w H' h') (hg : AllBare g') :
    Inv X pins σ H' { s with heap := h', gens := g', drawn := d', toks := t' } := by
  have neL : ∀ b o, X.s₀.heap.get? b = some o → b ≠ X.env.locals := fun b o e => Nat.ne_of_lt (Nat.lt_of_lt_of_le (Heap.lt_size e) I.ok.above)
  have neC : ∀ b o, X.s₀.heap.get? b = some o → b ∉ X.ex → b ∉ ch := fun b o e hx hb => by
    rcases (hch b hb).1 with z | z
    · exact hx z
    · exact absurd (Nat.lt_of_lt_of_le (Heap.lt_size e) z) (Nat.lt_irrefl _)
  have cellK : ∀ x c, X.env.cells.lookup x = some c → ∀ v, s.heap.IsCell c v → h'.IsCell c v := fun x c e v ⟨o, ho, hd⟩ => by
    have nch : c ∉ ch := fun z => (hch c z).2.2.1 x c e rfl
    by_cases hc : c ∈ X.fs
    · obtain ⟨sl, q⟩ := slot c o (I.cne x c e) hc nch ho (I.freeC x c e)
      exact ⟨_, q, hd⟩
    · exact ⟨o, keep c o (I.cne x c e) hc nch ho (I.freeC x c e), hd⟩
  refine ⟨I.ok, I.os, hg, ⟨fun b o e n hb hx => ?_, fun b o e n hb hx => ?_, fun b o e n hx => ?_, fun b o e hx => ?_, fun b xs e => tups b xs (I.base.tups b xs e), fun b o xs e => frzs b o xs (I.base.frzs b o xs e), fun b ps e => ?_⟩, ?_, fun x c e => ?_, ?_, fun x c e => ?_, fun p hp => ?_, hok, I.len⟩
  · exact keep b o (neL b o e) hb (neC b o e hx) (I.base.keep b o e n hb hx) (I.base.free b o e n hx)
  · obtain ⟨sl, e1⟩ := I.base.slot b o e n hb hx
    obtain ⟨sl', e2⟩ := slot b _ (neL b o e) hb (neC b o e hx) e1 (I.base.free b o e n hx)
    exact ⟨sl', e2⟩
  · obtain ⟨o', e1⟩ := I.base.there b o e hx
    exact free b o' (neC b o e hx) e1 (I.base.free b o e n hx)
  · obtain ⟨o', e1⟩ := I.base.there b o e hx
    exact there b o' (neC b o e hx) e1
  · obtain ⟨m1, e1⟩ := I.base.tbls b ps e
    obtain ⟨m2, e2⟩ := tbls b _ e1
    exact ⟨m1 ++ m2, by rw [e2, Array.append_assoc]⟩
  · obtain ⟨m, hn, hl⟩ := I.loc
    refine ⟨m, ns m hn, fun i x v e1 e2 e3 => ?_⟩
    obtain ⟨u, r, l⟩ := hl i x v e1 e2 e3
    refine ⟨u, r, ?_⟩
    rcases l with l | ⟨k, c, e, z⟩
    · exact .inl l
    · exact .inr ⟨k, c, e, cellK x c e _ z⟩
  · obtain ⟨v, z⟩ := I.cell x c e
    exact ⟨v, cellK x c e v z⟩
  · obtain ⟨m, ⟨o, _, _, ho, _⟩, _⟩ := I.loc
    exact free _ o (fun z => (hch _ z).2.1 rfl) ho I.free
  · obtain ⟨v, o, ho, hd⟩ := I.cell x c e
    exact free c o (fun z => (hch c z).2.2.1 x c e rfl) ho (I.freeC x c e)
  · obtain ⟨e, n, ne, nf, d⟩ := I.pin p hp
    have nch : p.1 ∉ ch := fun z => (hch p.1 z).2.2.2 p hp rfl
    exact ⟨keep p.1 p.2 ne nf nch e n, free p.1 p.2 nch e n, ne, nf, d⟩
theorem Inv.un {t' : Nat} (I : Inv X pins σ H s) (u : Un X.fs [] H H' s.heap h') (hok : HOk X.prog X.w H' h') : Inv X pins σ H' { s with heap := h', toks := t' } := by
  obtain ⟨m, ⟨o, es, ep, ho, r⟩, _⟩ := id I.loc
  obtain ⟨sl, hL⟩ := u.any ho I.free (by simp)
  exact I.step (g' := s.gens) (d' := s.drawn) (ch := []) (fun _ z => nomatch z) (fun b o _ hb _ e n => u.keep b o e n hb (by simp)) (fun b o _ hb _ e n => u.slot b o e n hb (by simp)) (fun b o _ e n => u.free b o e n (by simp)) (fun b o _ e => u.there b o e (by simp)) u.tups u.frzs u.tbls (fun m' hm => by
    obtain ⟨o', es', ep', ho', r'⟩ := hm
    rw [ho] at ho'; cases ho'
    exact ⟨_, es', ep', hL, r'⟩) hok I.bare
theorem Inv.call {g' : Array GenState} {t' : Nat} {d' : Drawn} {ch : List Addr} (I : Inv X pins σ H s) (u : Un (frs X.stack) ch H H' s.heap h') (hok : HOk X.prog X.w H' h') (hg : AllBare g')
    (hch : ∀ b ∈ ch, (b ∈ X.ex ∨ X.s₀.heap.objs.size ≤ b) ∧ b ≠ X.env.locals ∧ (∀ x c, X.env.cells.lookup x = some c → c ≠ b) ∧ ∀ p ∈ X.pn ++ pins, p.1 ≠ b) :
    Inv X pins σ H' { s with heap := h', gens := g', drawn := d', toks := t' } := by
  obtain ⟨m, ⟨o, es, ep, ho, r⟩, _⟩ := id I.loc
  obtain ⟨sl, hL⟩ := u.any ho I.free fun z => (hch _ z).2.1 rfl
  exact I.step (ch := ch) hch (fun b o hL hb hc e n => u.keep b o e n (fun z => (List.mem_cons.mp (I.stkSub b z)).elim hL hb) hc) (fun b o _ _ hc e n => u.any e n hc) (fun b o hc e n => u.free b o e n hc) (fun b o hc e => u.there b o e hc) u.tups u.frzs u.tbls (fun m' hm => by
    obtain ⟨o', es', ep', ho', r'⟩ := hm
    rw [ho] at ho'; cases ho'
    exact ⟨_, es', ep', hL, r'⟩) hok hg
theorem Inv.turned {t' : Nat} {it : Addr} (I : Inv X pins σ H s) (k : ∀ b o, b ≠ it → s.heap.get? b = some o → h'.get? b = some o) (hn : H it = none) (hL : it ≠ X.env.locals)
    (h1 : it ∈ X.ex ∨ X.s₀.heap.objs.size ≤ it) (h2 : ∀ x c, X.env.cells.lookup x = some c → c ≠ it) (h3 : ∀ p ∈ X.pn ++ pins, p.1 ≠ it) : Inv X pins σ H { s with heap := h', toks := t' } := by
  have nit : ∀ b u, H b = some u → b ≠ it := fun b u e z => by rw [z, hn] at e; cases e
  refine I.step (g' := s.gens) (d' := s.drawn) (ch := [it]) (fun b hb => ?_) (fun b o _ _ hc e _ => k b o (fun z => hc (by simp [z])) e) (fun b o _ _ hc e _ => ⟨o.slots, k b o (fun z => hc (by simp [z])) e⟩) (fun _ _ _ _ n => n)
    (fun b o hc e => ⟨o, k b o (fun z => hc (by simp [z])) e⟩) (fun _ _ e => e) (fun _ _ _ e => e) (fun b ps e => ⟨#[], by rw [e]; simp⟩) (fun m hm => ?_) (fun b u e => ?_) I.bare
  · have e : b = it := by simpa using hb
    subst e
    exact ⟨h1, hL, h2, h3⟩
  · obtain ⟨o, es, ep, ho, r⟩ := hm
    exact ⟨o, es, ep, k _ o (Ne.symm hL) ho, r⟩
  · refine (I.hok b u e).stay (fun c v hc q => k c v ?_ q) (fun _ q => q) fun _ _ q => q
    rcases hc with z | z
    · rw [z]; exact nit b u e
    · exact nit c _ z
theorem Inv.tok (I : Inv X pins σ H s) (t : Nat) : Inv X pins σ H { s with toks := t } := I.un (h' := s.heap) (t' := t) Un.refl I.hok
theorem Inv.kept {t' : Nat} (I : Inv X pins σ H s) (k : ∀ b u, s.heap.get? b = some u → h'.get? b = some u) : Inv X pins σ H { s with heap := h', toks := t' } := I.un (Un.kept k) (I.hok.kept k)
theorem Inv.laid {a : Addr} {o : HO} {t' : Nat} (I : Inv X pins σ H s) (k : ∀ b u, s.heap.get? b = some u → h'.get? b = some u) (hp : s.heap.objs.size ≤ a) (new : ObjOk X.prog X.w (upd H a o) h' a o) :
    Inv X pins σ (upd H a o) { s with heap := h', toks := t' } := I.un (Un.laid k hp (I.hok.fresh hp)) (I.hok.laid k hp new)
theorem Inv.write {x e : Addr} {o : HO} {t' : Nat} (I : Inv X pins σ H s) (mu : Mut (H x)) (he : e = x ∨ H e = some (.own x)) (k : ∀ b u, b ≠ e → s.heap.get? b = some u → h'.get? b = some u) (heo : ∃ u, h'.get? e = some u)
    (new : ObjOk X.prog X.w (upd H x o) h' x o) : Inv X pins σ (upd H x o) { s with heap := h', toks := t' } := I.un (Un.write mu he k heo) (I.hok.write mu he k heo new)
theorem Inv.pins_of {pins' : List (Addr × Obj)} (I : Inv X pins σ H s) (h : ∀ p ∈ pins', s.heap.get? p.1 = some p.2 ∧ H p.1 = none ∧ p.1 ≠ X.env.locals ∧ p.1 ∉ X.fs ∧ ∀ v, p.2.data ≠ .cell v) : Inv X pins' σ H s :=
  ⟨I.ok, I.os, I.bare, I.base, I.loc, I.cell, I.free, I.freeC, fun p hp => (List.mem_append.mp hp).elim (fun z => I.pin p (List.mem_append_left _ z)) (h p), I.hok, I.len⟩
theorem nodup_ix {N : List Str} (hN : N.Nodup) {i j : Nat} {x : Str} (a : N[i]? = some x) (b : N[j]? = some x) : i = j := by
  obtain ⟨h1, e1⟩ := List.getElem?_eq_some_iff.mp a
  obtain ⟨h2, e2⟩ := List.getElem?_eq_some_iff.mp b
  exact (List.getElem_inj hN).mp (e1.trans e2.symm)
theorem store_ok2 {M : Model} {A : Around} {E : Value → Shared → Prop} {i : Nat} {x : Str} {v : V} {u : Value} {Q : Unit → Shared → Prop} (I : Inv X pins σ H s) (hN : X.N.Nodup) (hi : X.N[i]? = some x) (hx : Loc X.env.scope x) (r : RelV v u)
    (h : ∀ s', Inv X pins (σ.set i (some v)) H s' → (∃ a, Heap.SameBut a s.heap s'.heap ∧ (a = X.env.locals ∨ X.env.cells.lookup x = some a)) → Q () s') (hf : X.fn x = true ∨ X.env.scope.names.lookup x = some .local := by first | exact .inl rfl | exact .inr rfl | assumption) : wpAny M A (storeName X.env x u) Q E s := by
  obtain ⟨m, hn, hl⟩ := id I.loc
  have hcls : (X.env.scope.kind == .class || (X.env.scope.kind == .module && X.env.locals != X.env.globals)) = false := by rw [I.ok.kind]; rfl
  have hiσ : i < σ.length := by rw [I.len]; exact (List.getElem?_eq_some_iff.mp hi).1
  have cne := I.cne
  have tracked : ∀ {a : Addr} {h' : Heap}, (∃ o, s.heap.get? a = some o ∧ H a = none) → Heap.SameBut a s.heap h' → HOk X.prog X.w H h' := fun {a h'} ha hs b ob e => by
    obtain ⟨_, _, hfree⟩ := ha
    refine (I.hok b ob e).stay (fun c w' hc q => (hs.2 c ?_).trans q) (fun _ q => q) fun _ _ q => q
    rintro rfl
    rcases hc with rfl | hc
    · rw [hfree] at e; cases e
    · rw [hfree] at hc; cases hc
  rcases hx with hk | hk
  · refine wpAny_storeName_local hk hn (fun h' hn' hs => ?_) hcls
    obtain ⟨oL, _, _, hoL, _⟩ := id hn
    refine h _ ⟨I.ok, I.os, I.bare, ⟨fun b o e n hb hx => ?_, fun b o e n hb hx => ?_, I.base.free, fun b o e hx => ?_, I.base.tups, I.base.frzs, I.base.tbls⟩, ⟨_, hn', fun j y v' e1 e2 e3 => ?_⟩, fun y c e => ?_, I.free, I.freeC, fun p hp => ?_, tracked ⟨oL, hoL, I.free⟩ hs, by simpa using I.len⟩ ⟨_, hs, .inl rfl⟩
    · exact (hs.2 b (Nat.ne_of_lt (Nat.lt_of_lt_of_le (Heap.lt_size e) I.ok.above))).trans (I.base.keep b o e n hb hx)
    · obtain ⟨sl, e1⟩ := I.base.slot b o e n hb hx
      exact ⟨sl, (hs.2 b (Nat.ne_of_lt (Nat.lt_of_lt_of_le (Heap.lt_size e) I.ok.above))).trans e1⟩
    · obtain ⟨o', e1⟩ := I.base.there b o e hx
      exact ⟨o', (hs.2 b (Nat.ne_of_lt (Nat.lt_of_lt_of_le (Heap.lt_size e) I.ok.above))).trans e1⟩
    · by_cases hj : j = i
      · subst hj
        rw [hi] at e1; cases e1
        rw [List.getElem?_set_self hiσ] at e2
        cases e2
        exact ⟨u, r, .inl ⟨hk, by simp⟩⟩
      · rw [List.getElem?_set_ne (Ne.symm hj)] at e2
        obtain ⟨u', r', q⟩ := hl j y v' e1 e2 e3
        refine ⟨u', r', ?_⟩
        rcases q with ⟨k, e⟩ | ⟨k, c, e, z⟩
        · refine .inl ⟨k, ?_⟩
          have : y ≠ x := fun e => hj (nodup_ix hN e1 (e ▸ hi))
          simp [this, e]
        · exact .inr ⟨k, c, e, z.sameBut hs (cne y c e)⟩
    · obtain ⟨w', z⟩ := I.cell y c e
      exact ⟨w', z.sameBut hs (cne y c e)⟩
    · obtain ⟨e, n, ne, nf, d⟩ := I.pin p hp
      exact ⟨(hs.2 p.1 ne).trans e, n, ne, nf, d⟩
  · have hfn : X.fn x = true := by
      rcases hf with z | z
      · exact z
      · rw [z] at hk; cases hk
    obtain ⟨c, hc⟩ := I.ok.has x (.inl hk)
    obtain ⟨w', z⟩ := I.cell x c hc
    refine wpAny_storeName_cell I.ok.kind hk hc z (fun h' hc' hs => ?_)
    obtain ⟨oc, hoc, hocd⟩ := id z
    refine h { s with heap := h' } ⟨I.ok, I.os, I.bare, ⟨fun b o e n hb hx => ?_, fun b o e n hb hx => ?_, I.base.free, fun b o e hx => ?_, I.base.tups, I.base.frzs, I.base.tbls⟩, ⟨m, hn.sameBut hs (Ne.symm (cne x c hc)), fun j y v' e1 e2 e3 => ?_⟩, fun y c' e => ?_, I.free, I.freeC, fun p hp => ?_, tracked ⟨oc, hoc, I.freeC x c hc⟩ hs, by simpa using I.len⟩ ⟨c, hs, .inr hc⟩
    · exact (hs.2 b (Nat.ne_of_lt (Nat.lt_of_lt_of_le (Heap.lt_size e) (I.ok.cab x c hfn hc)))).trans (I.base.keep b o e n hb hx)
    · obtain ⟨sl, e1⟩ := I.base.slot b o e n hb hx
      exact ⟨sl, (hs.2 b (Nat.ne_of_lt (Nat.lt_of_lt_of_le (Heap.lt_size e) (I.ok.cab x c hfn hc)))).trans e1⟩
    · obtain ⟨o', e1⟩ := I.base.there b o e hx
      exact ⟨o', (hs.2 b (Nat.ne_of_lt (Nat.lt_of_lt_of_le (Heap.lt_size e) (I.ok.cab x c hfn hc)))).trans e1⟩
    · by_cases hj : j = i
      · subst hj
        rw [hi] at e1; cases e1
        rw [List.getElem?_set_self hiσ] at e2
        cases e2
        exact ⟨u, r, .inr ⟨.inl hk, c, hc, hc'⟩⟩
      · rw [List.getElem?_set_ne (Ne.symm hj)] at e2
        obtain ⟨u', r', q⟩ := hl j y v' e1 e2 e3
        refine ⟨u', r', ?_⟩
        rcases q with q | ⟨k, c', e, z'⟩
        · exact .inl q
        · refine .inr ⟨k, c', e, z'.sameBut hs ?_⟩
          rintro rfl
          exact hj (nodup_ix hN e1 (I.ok.inj _ _ _ e hc ▸ hi))
    · by_cases hcc : c' = c
      · subst hcc; exact ⟨_, hc'⟩
      · obtain ⟨w2, z2⟩ := I.cell y c' e
        exact ⟨w2, z2.sameBut hs hcc⟩
    · obtain ⟨e, n, ne, nf, d⟩ := I.pin p hp
      refine ⟨(hs.2 p.1 ?_).trans e, n, ne, nf, d⟩
      intro q
      rw [q, hoc] at e
      have q' : oc = p.2 := Option.some.inj e
      exact d w' (by rw [← q']; exact hocd)
theorem store_ok {M : Model} {A : Around} {E : Value → Shared → Prop} {i : Nat} {x : Str} {v : V} {u : Value} {Q : Unit → Shared → Prop} (I : Inv X pins σ H s) (hN : X.N.Nodup) (hi : X.N[i]? = some x) (hx : Loc X.env.scope x) (r : RelV v u)
    (h : ∀ s', Inv X pins (σ.set i (some v)) H s' → Q () s') (hf : X.fn x = true ∨ X.env.scope.names.lookup x = some .local := by first | exact .inl rfl | exact .inr rfl | assumption) : wpAny M A (storeName X.env x u) Q E s :=
  store_ok2 I hN hi hx r (fun s' I' _ => h s' I') hf
theorem Inv.call' {s' : Shared} {ch : List Addr} (I : Inv X pins σ H s) (ho : s'.os = s.os) (u : Un (frs X.stack) ch H H' s.heap s'.heap) (hok : HOk X.prog X.w H' s'.heap) (hg : AllBare s'.gens)
    (hch : ∀ b ∈ ch, (b ∈ X.ex ∨ X.s₀.heap.objs.size ≤ b) ∧ b ≠ X.env.locals ∧ (∀ x c, X.env.cells.lookup x = some c → c ≠ b) ∧ ∀ p ∈ X.pn ++ pins, p.1 ≠ b) : Inv X pins σ H' s' := by
  obtain ⟨h', g', d', t', o'⟩ := s'
  have e : o' = s.os := ho
  subst e
  exact I.call (g' := g') (t' := t') (d' := d') u hok hg hch
end
abbrev XK := Value → Option Addr → Hp → Prop
abbrev St := List (Option V)
abbrev VK := V → Hp → Prop
abbrev TE := St → Hp → VK → Prop
abbrev TT := St → Hp → (Bool → Hp → Prop) → Prop
abbrev TA := St → Hp → (List V → Hp → Prop) → Prop
structure Ends where
  nx : St → Hp → Prop
  rt : VK
  bk : St → Hp → Prop := fun _ _ => False
  ct : St → Hp → Prop := fun _ _ => False
abbrev TS := Ends → St → Hp → Prop
def EP (X : Cx) (pins : List (Addr × Obj)) (σ : St) (Q : VK) (u : Value) (s' : Shared) : Prop := ∃ v H', Inv X pins σ H' s' ∧ RelV v u ∧ Q v H'
def TP (X : Cx) (pins : List (Addr × Obj)) (σ : St) (Q : Bool → Hp → Prop) (b : Bool) (s' : Shared) : Prop := ∃ H', Inv X pins σ H' s' ∧ Q b H'
def AP (X : Cx) (pins : List (Addr × Obj)) (σ : St) (Q : List V → Hp → Prop) (us : List Value) (s' : Shared) : Prop := ∃ vs H', Inv X pins σ H' s' ∧ Vals vs us ∧ Q vs H'
def SP (X : Cx) (pins : List (Addr × Obj)) (D : Ends) (f : Flow) (s' : Shared) : Prop :=
  match f with
  | .next => ∃ σ' H', Inv X pins σ' H' s' ∧ D.nx σ' H'
  | .brk => ∃ σ' H', Inv X pins σ' H' s' ∧ D.bk σ' H'
  | .cont => ∃ σ' H', Inv X pins σ' H' s' ∧ D.ct σ' H'
  | .ret u => ∃ v σ' H', Inv X pins σ' H' s' ∧ RelV v u ∧ D.rt v H'
def PE (X : Cx) (e : Expr) (t : TE) : Prop :=
  ∀ (pins : List (Addr × Obj)) (s : Shared) (σ : St) (H : Hp) (Q : VK), Inv X pins σ H s → t σ H Q → wpAny (model X.prog X.w) X.A (eval e X.env) (EP X pins σ Q) X.xe s
def PT (X : Cx) (e : Expr) (t : TT) : Prop :=
  ∀ (pins : List (Addr × Obj)) (s : Shared) (σ : St) (H : Hp) (Q : Bool → Hp → Prop), Inv X pins σ H s → t σ H Q → wpAny (model X.prog X.w) X.A (isTrue e X.env (eval e X.env)) (TP X pins σ Q) X.xe s
def PW (X : Cx) (e : Expr) (t : TT) : Prop :=
  ∀ (whole : Sem Value) (pins : List (Addr × Obj)) (s : Shared) (σ : St) (H : Hp) (Q : Bool → Hp → Prop), Inv X pins σ H s → t σ H Q → wpAny (model X.prog X.w) X.A (isTrue e X.env whole) (TP X pins σ Q) X.xe s
theorem PW.pt {X : Cx} {e : Expr} {t : TT} (h : PW X e t) : PT X e t := h _
def PA (X : Cx) (es : List Expr) (t : TA) : Prop :=
  ∀ (pos : Pos) (pins : List (Addr × Obj)) (s : Shared) (σ : St) (H : Hp) (Q : List V → Hp → Prop), Inv X pins σ H s → t σ H Q → wpAny (model X.prog X.w) X.A (spliced (backTo pos (starEach es X.env))) (AP X pins σ Q) X.xe s
def PS (X : Cx) (st : Stmt) (t : TS) : Prop :=
  ∀ (pins : List (Addr × Obj)) (s : Shared) (σ : St) (H : Hp) (D : Ends), Inv X pins σ H s → t D σ H → wpAny (model X.prog X.w) X.A (exec st X.env) (SP X pins D) X.xe s
def PSs (X : Cx) (st : List Stmt) (t : TS) : Prop :=
  ∀ (pins : List (Addr × Obj)) (s : Shared) (σ : St) (H : Hp) (D : Ends), Inv X pins σ H s → t D σ H → wpAny (model X.prog X.w) X.A (execs st X.env) (SP X pins D) X.xe s
theorem thn {α : Type} {t : Sem α} {Q Q' : α → Shared → Prop} {M : Model} {A : Around} {E : Value → Shared → Prop} {s : Shared} (h : wpAny M A t Q E s) (hQ : ∀ a s, Q a s → Q' a s) : wpAny M A t Q' E s := wpAny_mono h hQ fun _ _ x => x
end L2
namespace L2
open PySem PySem.Spec PyProof.Rows
section
variable {X : Cx}
def tVar (i : Nat) : TE := fun σ H Q => ∃ v, σ[i]? = some (some v) ∧ Q v H
def tC (v : V) : TE := fun _ H Q => Q v H
theorem pe_var {i : Nat} {x : Str} {pos : Pos} (hN : X.N[i]? = some x) (hv : Vis X.env.scope x) (hd : (x == ("__debug__" : Str)) = false := by decide) (hcd : (x == ("__classdict__" : Str)) = false := by decide) : PE X (.Name x pos) (tVar i) := by
  intro pins s σ H Q I h
  obtain ⟨v, e, h⟩ := h
  obtain ⟨m, hn, hl⟩ := I.loc
  obtain ⟨u, r, l⟩ := hl i x v hN e hv
  have fin : EP X pins σ Q u s := ⟨v, H, I, r, h⟩
  rcases l with ⟨hk, hm⟩ | ⟨hk, c, hc, hcell⟩
  · exact wpAny_Name (wpAny_loadName_local I.ok.kind hk hn hm fin) hd
  · rcases hk with hk | hk
    · exact wpAny_Name (wpAny_loadName_cell I.ok.kind hk hc hcell fin) hd
    · exact wpAny_Name (wpAny_loadName_free I.ok.kind hk hc hcell fin hcd) hd
theorem pe_int {i j pos} : PE X (.Constant (.int i) j pos) (tC (.int i)) := fun _ _ _ H _ I h => wpAny_Constant_int ⟨.int i, H, I.tok _, ⟨_, rfl⟩, h⟩
theorem pe_bl {b j pos} : PE X (.Constant (.bool b) j pos) (tC (.bl b)) := fun _ _ _ H _ I h => Constant_bool ⟨.bl b, H, I, rfl, h⟩
theorem pe_non {j pos} : PE X (.Constant .none j pos) (tC .non) := fun _ _ _ H _ I h => Constant_none ⟨.non, H, I, rfl, h⟩
theorem pe_str {x j pos} : PE X (.Constant (.str x) j pos) (tC (.str x)) := fun _ _ _ H _ I h => Calls.Constant_str ⟨.str x, H, I.tok _, ⟨_, rfl⟩, h⟩
def Gl (X : Cx) (x : Str) : Prop := X.env.kindOf x = some .globalImplicit
theorem ld_glob {E : Value → Shared → Prop} {pins : List (Addr × Obj)} {s : Shared} {σ : St} {H : Hp} {x : Str} {u : Value} {pos : Pos} {Q : Value → Shared → Prop} (I : Inv X pins σ H s) (hg : Gl X x) (hm : X.mg x = some u) (h : Q u s)
    (hd : (x == ("__debug__" : Str)) = false := by decide) : wpAny (model X.prog X.w) X.A (eval (.Name x pos) X.env) Q E s :=
  Calls.Name_function_global I.ok.kind hg (Calls.loadGlobal_global (by rw [I.ok.glob]; exact I.mod.glob.keeps I.bk) hm h) hd
theorem ld_blt {E : Value → Shared → Prop} {pins : List (Addr × Obj)} {s : Shared} {σ : St} {H : Hp} {x : Str} {u : Value} {pos : Pos} {Q : Value → Shared → Prop} (I : Inv X pins σ H s) (hg : Gl X x) (hm : X.mg x = none) (hv : bootBuiltins x = some u) (h : Q u s)
    (hn : x ≠ "__name__" := by decide) (hd : (x == ("__debug__" : Str)) = false := by decide) : wpAny (model X.prog X.w) X.A (eval (.Name x pos) X.env) Q E s := by
  obtain ⟨mb, h1, h2⟩ := I.mod.blt
  exact Calls.Name_function_global I.ok.kind hg (Calls.loadGlobal_builtin (by rw [I.ok.glob]; exact I.mod.glob.keeps I.bk) hm (by rw [I.ok.blt]; exact h1.keeps I.bk) ((h2 x hn).trans hv) h) hd
theorem pe_glob {x : Str} {v : V} {u : Value} {pos : Pos} (hg : Gl X x) (hm : X.mg x = some u) (r : RelV v u) (hd : (x == ("__debug__" : Str)) = false := by decide) : PE X (.Name x pos) (tC v) :=
  fun _ _ _ H _ I h => ld_glob I hg hm ⟨v, H, I, r, h⟩ hd
theorem pe_bltn {x : Str} {v : V} {u : Value} {pos : Pos} (hg : Gl X x) (hm : X.mg x = none) (hv : bootBuiltins x = some u) (r : RelV v u) (hn : x ≠ "__name__" := by decide) (hd : (x == ("__debug__" : Str)) = false := by decide) : PE X (.Name x pos) (tC v) :=
  fun _ _ _ H _ I h => ld_blt I hg hm hv ⟨v, H, I, r, h⟩ hn hd
variable {a b : Expr} {ta tb : TE} {pos : Pos}
def tB (t : TE) : TT := fun σ H Q => t σ H fun x H1 => ∃ c, x = .bl c ∧ Q c H1
theorem pt_val {e : Expr} {t : TE} (h : PE X e t) (he : ∀ whole, isTrue e X.env whole = (do let v ← whole; standAt e.pos; holding [v] (truthy v)) := by intro _; rfl) : PT X e (tB t) := by
  intro pins s σ H Q I hw
  refine isTrue_plain (thn (h pins s σ H _ I hw) fun v s1 ⟨x, H1, I1, r1, q1⟩ => ?_) (he _)
  obtain ⟨d, rfl, q⟩ := q1
  cases r1
  exact wpAny_truthy_bool ⟨H1, I1, q⟩
variable {tA tB' : TT} {rest : List Expr}
def tAnd (t u : TT) : TT := fun σ H Q => t σ H fun c H1 => if c = true then u σ H1 Q else Q false H1
def tOr (t u : TT) : TT := fun σ H Q => t σ H fun c H1 => if c = true then Q true H1 else u σ H1 Q
def tNot (t : TT) : TT := fun σ H Q => t σ H fun c H1 => Q (!c) H1
theorem pw_and1 (ha : PT X a tA) : PW X (.BoolOp .And [a] pos) tA := by
  intro wh pins s σ H Q I h
  refine isTrue_and (thn (ha pins s σ H Q I h) fun c s1 e => ?_)
  cases c with
  | true => exact isTrue_and_nil e
  | false => exact e
theorem pw_or1 (ha : PT X a tA) : PW X (.BoolOp .Or [a] pos) tA := by
  intro wh pins s σ H Q I h
  refine isTrue_or (thn (ha pins s σ H Q I h) fun c s1 e => ?_)
  cases c with
  | false => exact isTrue_or_nil e
  | true => exact e
theorem pw_and (ha : PT X a tA) (hb : PW X (.BoolOp .And (b :: rest) pos) tB') : PW X (.BoolOp .And (a :: b :: rest) pos) (tAnd tA tB') := by
  intro wh pins s σ H Q I h
  refine isTrue_and (thn (ha pins s σ H _ I h) fun c s1 ⟨H1, I1, q1⟩ => ?_)
  cases c with
  | true => exact hb wh pins s1 σ H1 Q I1 q1
  | false => exact ⟨H1, I1, q1⟩
theorem pw_or (ha : PT X a tA) (hb : PW X (.BoolOp .Or (b :: rest) pos) tB') : PW X (.BoolOp .Or (a :: b :: rest) pos) (tOr tA tB') := by
  intro wh pins s σ H Q I h
  refine isTrue_or (thn (ha pins s σ H _ I h) fun c s1 ⟨H1, I1, q1⟩ => ?_)
  cases c with
  | true => exact ⟨H1, I1, q1⟩
  | false => exact hb wh pins s1 σ H1 Q I1 q1
theorem pt_not (ha : PT X a tA) : PT X (.UnaryOp .Not a pos) (tNot tA) := by
  intro pins s σ H Q I h
  exact isTrue_not (ha pins s σ H (fun c H1 => Q (!c) H1) I h)
def tAndV (ta tb : TE) : TE := fun σ H Q => ta σ H fun x H1 => ∃ c, x = .bl c ∧ if c = true then tb σ H1 Q else Q (.bl false) H1
def tNotV (ta : TE) : TE := fun σ H Q => ta σ H fun x H1 => ∃ c, x = .bl c ∧ Q (.bl (!c)) H1
theorem pe_one {op} {t : TE} (h : PE X a t) : PE X (.BoolOp op [a] pos) t := fun pins s σ H Q I hw => BoolOp_one (h pins s σ H Q I hw)
theorem pe_and (ha : PE X a ta) (hb : PE X (.BoolOp .And (b :: rest) pos) tb) : PE X (.BoolOp .And (a :: b :: rest) pos) (tAndV ta tb) := by
  intro pins s σ H Q I h
  refine BoolOp_and (thn (ha pins s σ H _ I h) fun v s1 ⟨x, H1, I1, r1, q1⟩ => ?_)
  obtain ⟨c, rfl, q1⟩ := q1
  cases r1
  refine wpAny_truthy_bool ?_
  cases c with
  | true => exact hb pins s1 σ H1 Q I1 q1
  | false => exact ⟨.bl false, H1, I1, rfl, q1⟩
theorem pe_not (ha : PE X a ta) : PE X (.UnaryOp .Not a pos) (tNotV ta) := by
  intro pins s σ H Q I h
  refine UnaryOp_ (thn (ha pins s σ H _ I h) fun v s1 ⟨x, H1, I1, r1, q1⟩ => ?_)
  obtain ⟨c, rfl, q1⟩ := q1
  cases r1
  exact not_of (wpAny_truthy_bool ⟨.bl (!c), H1, I1, rfl, q1⟩)
def tIf (t : TT) (ta tb : TE) : TE := fun σ H Q => t σ H fun c H1 => if c = true then ta σ H1 Q else tb σ H1 Q
theorem pe_ifExp {c : Expr} (hc : PT X c tA) (ha : PE X a ta) (hb : PE X b tb) : PE X (.IfExp c a b pos) (tIf tA ta tb) := by
  intro pins s σ H Q I h
  refine wpAny_IfExp (thn (hc pins s σ H _ I h) fun d s1 ⟨H1, I1, q1⟩ => ?_)
  cases d with
  | true => exact ha pins s1 σ H1 Q I1 q1
  | false => exact hb pins s1 σ H1 Q I1 q1
end
end L2
namespace L2
open PySem PySem.Spec PyProof.Rows
def SqL (K : PySem.W.Frag) (H : Hp) (a : Addr) (xs : List V) : Prop :=
  Rd H a (.lst xs) ∨
    ∃ (o : Obj) (its : Array Value) (n : Nat), K.lookup a = some o ∧ o.cls = .type "list" ∧ o.dict = none ∧ o.data = .seq its n ∧ its.size ≤ sizeLine ∧ Vals xs its.toList
def SqT (K : PySem.W.Frag) (H : Hp) (a : Addr) (xs : List V) : Prop :=
  Rd H a (.tup xs) ∨
    ∃ (o : Obj) (its : Array Value) (n : Nat), K.lookup a = some o ∧ o.cls = .type "tuple" ∧ o.data = .seq its n ∧ its.size ≤ sizeLine ∧ Vals xs its.toList
def absV : Value → Option V
  | .none => some .non
  | .bool b => some (.bl b)
  | .int i _ => some (.int i)
  | .str x _ => some (.str x)
  | .bytes b _ => some (.byt b)
  | .float b _ => some (.flt b)
  | .ref a => some (.ref a)
  | .type n => some (.ty n)
  | _ => none
theorem RelV.abs {x : V} {u : Value} (r : RelV x u) : absV u = some x := by
  cases x with
  | non => cases r; rfl
  | bl _ => cases r; rfl
  | int _ => obtain ⟨t, rfl⟩ := r; rfl
  | str _ => obtain ⟨t, rfl⟩ := r; rfl
  | byt _ => obtain ⟨t, rfl⟩ := r; rfl
  | flt _ => obtain ⟨t, rfl⟩ := r; rfl
  | ref _ => cases r; rfl
  | ty _ => cases r; rfl
theorem RelV.inj {x y : V} {u : Value} (r : RelV x u) (q : RelV y u) : x = y := Option.some.inj (r.abs.symm.trans q.abs)
theorem Vals.inj : ∀ {xs ys : List V} {us : List Value}, Vals xs us → Vals ys us → xs = ys
  | _, _, _, .nil, .nil => rfl
  | _, _, _, .cons r t, .cons r' t' => by rw [r.inj r', Vals.inj t t']
section
variable {X : Cx} {pins : List (Addr × Obj)} {σ : St} {H : Hp} {s : Shared} {a : Addr} {xs ys : List V}
theorem SqL.of {K : PySem.W.Frag} (h : H a = some (.lst xs)) : SqL K H a xs := .inl (.inl h)
theorem SqT.of {K : PySem.W.Frag} (h : H a = some (.tup xs)) : SqT K H a xs := .inl (.inl h)
theorem Inv.list (I : Inv X pins σ H s) (h : SqL X.K H a xs) : ∃ its : List Value, Vals xs its ∧ PlainL s.heap a its.toArray ∧ xs.length ≤ sizeLine := by
  rcases h with h | ⟨o, its, n, hk, hc, hd, hs, hz, r⟩
  · obtain ⟨z, its, n, r, e⟩ := h.ok I.hok
    exact ⟨its, r, ⟨_, n, e, rfl, rfl, rfl⟩, z⟩
  · refine ⟨its.toList, r, ⟨o, n, I.kIn a o hk, hc, hd, by simpa using hs⟩, ?_⟩
    have e := r.length
    simp only [Array.length_toList] at e
    omega
theorem Inv.tuple (I : Inv X pins σ H s) (h : SqT X.K H a xs) : ∃ its : List Value, Vals xs its ∧ IsTup s.heap a its.toArray ∧ xs.length ≤ sizeLine := by
  rcases h with h | ⟨o, its, n, hk, hc, hs, hz, r⟩
  · obtain ⟨z, its, r, p⟩ := h.ok I.hok
    exact ⟨its, r, p, z⟩
  · refine ⟨its.toList, r, ⟨o, I.kIn a o hk, hc, n, by simpa using hs⟩, ?_⟩
    have e := r.length
    simp only [Array.length_toList] at e
    omega
theorem Inv.list_inj (I : Inv X pins σ H s) (h : SqL X.K H a xs) (h' : SqL X.K H a ys) : xs = ys := by
  obtain ⟨its, r, ⟨o, n, e, _, _, d⟩, _⟩ := I.list h
  obtain ⟨its', r', ⟨o', n', e', _, _, d'⟩, _⟩ := I.list h'
  rw [e] at e'; cases e'
  rw [d] at d'
  injection d' with d1 _
  have : its = its' := by simpa using congrArg Array.toList d1
  subst this
  exact r.inj r'
end
abbrev Cx.wish (X : Cx) (E : Value → Shared → Prop) : Cx := { X with xe := E }
abbrev Cx.nox (X : Cx) : Cx := X.wish fun _ _ => False
theorem Cx.Ok.wish {X : Cx} (ok : X.Ok) (E : Value → Shared → Prop) : (X.wish E).Ok :=
  ⟨ok.mod, ok.kind, ok.glob, ok.blt, ok.above, ok.inj, ok.has, ok.cab, ok.hd, ok.frames, ok.stk, ok.exf, ok.bs, ok.bsz, ok.noex, ok.exfs, ok.funs, ok.frf⟩
theorem Cx.Ok.unwish {X : Cx} {E : Value → Shared → Prop} (ok : (X.wish E).Ok) : X.Ok :=
  ⟨ok.mod, ok.kind, ok.glob, ok.blt, ok.above, ok.inj, ok.has, ok.cab, ok.hd, ok.frames, ok.stk, ok.exf, ok.bs, ok.bsz, ok.noex, ok.exfs, ok.funs, ok.frf⟩
section
variable {X : Cx} {pins : List (Addr × Obj)} {σ : St} {H : Hp} {s : Shared} {E : Value → Shared → Prop}
theorem Inv.wish (I : Inv X pins σ H s) (E : Value → Shared → Prop) : Inv (X.wish E) pins σ H s := ⟨I.ok.wish E, I.os, I.bare, I.base, I.loc, I.cell, I.free, I.freeC, I.pin, I.hok, I.len⟩
theorem Inv.unwish (I : Inv (X.wish E) pins σ H s) : Inv X pins σ H s := ⟨I.ok.unwish, I.os, I.bare, I.base, I.loc, I.cell, I.free, I.freeC, I.pin, I.hok, I.len⟩
theorem SP.unwish {D : Ends} {f : Flow} {s' : Shared} (h : SP (X.wish E) pins D f s') : SP X pins D f s' := by
  cases f with
  | next => obtain ⟨σ', H', I, q⟩ := h; exact ⟨σ', H', I.unwish, q⟩
  | brk => obtain ⟨σ', H', I, q⟩ := h; exact ⟨σ', H', I.unwish, q⟩
  | cont => obtain ⟨σ', H', I, q⟩ := h; exact ⟨σ', H', I.unwish, q⟩
  | ret u => obtain ⟨v, σ', H', I, r, q⟩ := h; exact ⟨v, σ', H', I.unwish, r, q⟩
theorem PSs.nox {st : List Stmt} {t : TS} (h : PSs X.nox st t) : PSs X st t := fun pins s σ H D I hw =>
  wpAny_mono (h pins s σ H D (I.wish _) hw) (fun _ _ q => q.unwish) fun _ _ z => False.elim z
end
section
variable {X : Cx} {st : Stmt} {rest : List Stmt} {t u : TS} {e : Expr} {te : TE} {pos : Pos}
def tNext : TS := fun D σ H => D.nx σ H
def tSeq (t u : TS) : TS := fun D σ H => t { D with nx := u D } σ H
theorem pss_nil : PSs X [] tNext := fun _ _ σ H _ I h => wpAny_execs_nil ⟨σ, H, I, h⟩
theorem pss_cons (h1 : PS X st t) (h2 : PSs X rest u) : PSs X (st :: rest) (tSeq t u) := by
  intro pins s σ H D I h
  refine wpAny_execs_cons (thn (h1 pins s σ H { D with nx := u D } I h) fun f s1 q => ?_)
  cases f with
  | next =>
    obtain ⟨σ', H', I', q⟩ := q
    exact h2 pins s1 σ' H' D I' q
  | ret v => exact q
  | brk => exact q
  | cont => exact q
theorem pss_one (h1 : PS X st t) : PSs X [st] t := by
  intro pins s σ H D I h
  refine wpAny_execs_cons (thn (h1 pins s σ H D I h) fun f s1 q => ?_)
  cases f with
  | next => exact wpAny_execs_nil q
  | ret v => exact q
  | brk => exact q
  | cont => exact q
theorem Inv.quiet {pins : List (Addr × Obj)} {σ : St} {H : Hp} {s : Shared} (I : Inv X pins σ H s) : interactive X.env = false := by simp [interactive, I.ok.kind]
def tDrop (te : TE) : TS := fun D σ H => te σ H fun _ H1 => D.nx σ H1
theorem ps_expr (he : PE X e te) (hs : swapsWith e none pos.line X.env = pure false := by rfl) : PS X (.Expr e pos) (tDrop te) := by
  intro pins s σ H D I h
  exact wpAny_Expr_any (thn (he pins s σ H _ I h) fun v s1 ⟨x, H1, I1, r1, q1⟩ => ⟨σ, H1, I1, q1⟩) I.quiet hs
def tRet (te : TE) : TS := fun D σ H => te σ H D.rt
theorem ps_ret (he : PE X e te) : PS X (.Return (some e) pos) (tRet te) := by
  intro pins s σ H D I h
  exact wpAny_Return_some (thn (he pins s σ H _ I h) fun v s1 ⟨x, H1, I1, r1, q1⟩ => ⟨x, σ, H1, I1, r1, q1⟩)
def tIfS (c : TT) (t u : TS) : TS := fun D σ H => c σ H fun b H1 => if b = true then t D σ H1 else u D σ H1
theorem ps_if {c : Expr} {a b : List Stmt} {tc : TT} (hc : PT X c tc) (ha : PSs X a t) (hb : PSs X b u) : PS X (.If c a b pos) (tIfS tc t u) := by
  intro pins s σ H D I h
  refine wpAny_If (thn (hc pins s σ H _ I h) fun d s1 ⟨H1, I1, q1⟩ => ?_)
  cases d with
  | true => exact ha pins s1 σ H1 D I1 q1
  | false => exact hb pins s1 σ H1 D I1 q1
def tNever : TS := fun _ _ _ => False
theorem ps_never : PS X st tNever := fun _ _ _ _ _ _ h => h.elim
end
abbrev TG := V → St → Hp → (St → Hp → Prop) → Prop
def PG (X : Cx) (target : Expr) (t : TG) : Prop :=
  ∀ (pins : List (Addr × Obj)) (s : Shared) (σ : St) (H : Hp) (v : V) (u : Value) (Q : St → Hp → Prop), Inv X pins σ H s → RelV v u → t v σ H Q →
    wpAny (model X.prog X.w) X.A (assign target X.env u) (fun _ s' => ∃ σ' H', Inv X pins σ' H' s' ∧ Q σ' H') X.xe s
section
variable {X : Cx} {pos : Pos}
def gName (i : Nat) : TG := fun v σ H Q => Q (σ.set i (some v)) H
theorem pg_name {i : Nat} {x : Str} (hN : X.N.Nodup) (hi : X.N[i]? = some x) (hx : Loc X.env.scope x) (hf : X.fn x = true ∨ X.env.scope.names.lookup x = some .local := by first | exact .inl rfl | exact .inr rfl | assumption) : PG X (.Name x pos) (gName i) := by
  intro pins s σ H v u Q I r h
  exact wpAny_assign_Name (store_ok I hN hi hx r (fun s' I' => ⟨_, H, I', h⟩) hf)
def tAsg (te : TE) (g : TG) : TS := fun D σ H => te σ H fun x H1 => g x σ H1 D.nx
theorem ps_set {i : Nat} {x : Str} {e : Expr} {te : TE} {pos' : Pos} (hN : X.N.Nodup) (hi : X.N[i]? = some x) (hx : Loc X.env.scope x) (he : PE X e te) (hs : swapsWith e (some (.Name x pos')) pos.line X.env = pure false := by rfl) (hf : X.fn x = true ∨ X.env.scope.names.lookup x = some .local := by first | exact .inl rfl | exact .inr rfl | assumption) :
    PS X (.Assign [.Name x pos'] e pos) (tAsg te (gName i)) := by
  intro pins s σ H D I h
  refine wpAny_Assign_Name (thn (he pins s σ H _ I h) fun v s1 ⟨y, H1, I1, r1, q1⟩ => ?_) hs
  exact store_ok I1 hN hi hx r1 (fun s2 I2 => ⟨_, H1, I2, q1⟩) hf
end
section
variable {X : Cx} {pos : Pos}
end
structure It where
  go : Nat → Hp → Prop
  yld : Nat → Hp → V → Hp → Prop
  stop : Nat → Hp → Prop
def FpOk (X : Cx) (pins : List (Addr × Obj)) (H : Hp) (b : Addr) : Prop :=
  H b = none ∧ b ≠ X.env.locals ∧ b ∉ X.fs ∧ (b ∈ X.ex ∨ X.s₀.heap.objs.size ≤ b) ∧ (∀ x c, X.env.cells.lookup x = some c → c ≠ b) ∧ ∀ p ∈ X.pn ++ pins, p.1 ≠ b
theorem Inv.fpOk {X : Cx} {pins : List (Addr × Obj)} {σ : St} {H H' : Hp} {s : Shared} {b : Addr} (I : Inv X pins σ H s) (hb : s.heap.objs.size ≤ b) (hn : H' b = none) : FpOk X pins H' b := by
  refine ⟨hn, Nat.ne_of_gt (Nat.lt_of_lt_of_le I.lt hb), I.nofs hb, .inr (Nat.le_trans I.sz hb), fun x c e z => ?_, fun p hp z => ?_⟩
  · obtain ⟨v, q⟩ := I.cell x c e
    exact absurd (Nat.lt_of_lt_of_le q.lt (by rw [z]; exact hb)) (Nat.lt_irrefl _)
  · exact absurd (Nat.lt_of_lt_of_le (Heap.lt_size (I.pin p hp).1) (by rw [z]; exact hb)) (Nat.lt_irrefl _)
structure Turn (P : Program) (w : World) (K : PySem.W.Frag) (tg : Expr) (J : It) (fp : List Addr) (it : Addr) (tn : Nat → Heap → Prop) : Prop where
  mem : it ∈ fp
  obj : ∀ i h, tn i h → ∀ b ∈ fp, ∃ o, h.get? b = some o ∧ ∀ v, o.data ≠ .cell v
  keep : ∀ i h h', tn i h → (∀ b ∈ fp, ∀ o, h.get? b = some o → h'.get? b = some o) → tn i h'
  item : ∀ (X : Cx), X.prog = P → X.w = w → X.K = K → X.calm = true → ∀ (i : Nat) (pins : List (Addr × Obj)) (s : Shared) (σ : St) (H : Hp) (E : Value → Shared → Prop), Inv X pins σ H s → (∀ b ∈ fp, FpOk X pins H b) → tn i s.heap → J.go i H →
    wpAny (model P w) X.A (pyNext (.ref it)) (fun r s1 => ∃ u, r = some u ∧
      wpAny (model P w) X.A (letOwnedTupleGo tg (.ref it) u) (fun _ s2 => ∃ x H', Inv X pins σ H' s2 ∧ RelV x u ∧ J.yld i H x H' ∧ tn (i + 1) s2.heap ∧ ∀ b ∈ fp, H' b = none) E s1) E s
  done : ∀ (X : Cx), X.prog = P → X.w = w → X.K = K → X.calm = true → ∀ (i : Nat) (pins : List (Addr × Obj)) (s : Shared) (σ : St) (H : Hp) (E : Value → Shared → Prop), Inv X pins σ H s → (∀ b ∈ fp, FpOk X pins H b) → tn i s.heap → J.stop i H →
    wpAny (model P w) X.A (pyNext (.ref it)) (fun r s1 => r = none ∧ Inv X pins σ H s1) E s
  self : ∀ (A : Around) (i : Nat) (s : Shared) (Q : Value → Shared → Prop) (E : Value → Shared → Prop), tn i s.heap → Q (.ref it) s → wpAny (model P w) A (pyIter (.ref it)) Q E s
abbrev TI := St → Hp → (It → Hp → Prop) → Prop
def PIE (X : Cx) (pins : List (Addr × Obj)) (σ : St) (tg : Expr) (R : It → Hp → Prop) (itv : Value) (s2 : Shared) : Prop :=
  ∃ (it : Addr) (fp : List Addr) (tn : Nat → Heap → Prop) (J : It) (H' : Hp), itv = .ref it ∧ Inv X pins σ H' s2 ∧ Turn X.prog X.w X.K tg J fp it tn ∧ tn 0 s2.heap ∧ (∀ b ∈ fp, FpOk X pins H' b) ∧ R J H'
def PI (X : Cx) (tg iter : Expr) (wi : TI) : Prop :=
  ∀ (pins : List (Addr × Obj)) (s : Shared) (σ : St) (H : Hp) (R : It → Hp → Prop), Inv X pins σ H s → wi σ H R →
    wpAny (model X.prog X.w) X.A (eval iter X.env) (fun v s1 => wpAny (model X.prog X.w) X.A (pyIter v) (PIE X pins σ tg R) X.xe s1) X.xe s
theorem go_of {M : Model} {A : Around} {E : Value → Shared → Prop} {s : Shared} {tg : Expr} {it : Addr} {u : Value} {o : Obj} {n : String} {vs : Array Value} {Q : Unit → Shared → Prop} (ho : s.heap.get? it = some o) (hc : o.cls = .type n) (hd : o.data = .fields vs)
    (hn : ["enumerate", "zip", "dict_itemiterator", "dict_reverseitemiterator", "odict_iterator", "itertools.zip_longest", "itertools.pairwise"].contains n = false) (hQ : Q () s) : wpAny M A (letOwnedTupleGo tg (.ref it) u) Q E s := by
  unfold letOwnedTupleGo
  cases tg <;> first
    | exact wpAny_pure hQ
    | (cases u <;> first
        | exact wpAny_pure hQ
        | (refine wpAny_bind (wpAny_load ho ?_)
           rw [hc, hd]
           show wpAny M A (if (["enumerate", "zip", "dict_itemiterator", "dict_reverseitemiterator", "odict_iterator", "itertools.zip_longest", "itertools.pairwise"].contains n && vs[0]? == some (rawInt _)) = true then _ else _) Q E s
           rw [if_neg (by intro h; rw [hn, Bool.false_and] at h; cases h)]
           exact wpAny_pure hQ))
def Itl (K : PySem.W.Frag) (a : Addr) : It :=
  ⟨fun i H => ∃ xs x, SqL K H a xs ∧ xs[i]? = some x, fun i H x H' => H' = H ∧ ∀ xs, SqL K H a xs → xs[i]? = some x, fun i H => ∃ xs, SqL K H a xs ∧ xs.length ≤ i⟩
def Itr (lo : Int) (n : Nat) : It := ⟨fun i _ => i < n, fun i H x H' => H' = H ∧ x = .int (lo + i), fun i _ => n ≤ i⟩
theorem turn_list {P : Program} {w : World} {K : PySem.W.Frag} {tg : Expr} (a it : Addr) : Turn P w K tg (Itl K a) [it] it (fun i h => h.IsListIter it a i) where
  mem := by simp
  obj := fun i h st b hb => by
    have e : b = it := by simpa using hb
    subst e
    obtain ⟨o, e, c, d⟩ := st
    exact ⟨o, e, fun v z => by rw [d] at z; cases z⟩
  keep := fun i h h' st k => st.at fun o e => k it (by simp) o e
  item := by
    intro X hP hw hK hc i pins s σ H E I hf st hg
    subst hP hw hK
    obtain ⟨xs, x, hq, hx⟩ := hg
    obtain ⟨its, rv, p, hz⟩ := I.list hq
    obtain ⟨u, hu, ru⟩ := rv.get hx
    obtain ⟨f0, f1, f2, f3, f4, f5⟩ := hf it (by simp)
    refine wpAny_pyNext_list_item st p.isList (x := u) (by simpa using hu) fun h' st' sb => ?_
    have I1 : Inv X pins σ H { s with heap := h' } := I.turned (t' := s.toks) (fun b o hb e => (sb.2 b hb).trans e) f0 f1 f3 f4 f5
    obtain ⟨o, e, c, d⟩ := id st'
    exact ⟨u, rfl, go_of (s := { s with heap := h' }) e c d (by decide) ⟨x, H, I1, ru, ⟨rfl, fun ys hy => by rw [I.list_inj hy hq]; exact hx⟩, st', fun b hb => (hf b hb).1⟩⟩
  done := by
    intro X hP hw hK hc i pins s σ H E I hf st hg
    subst hP hw hK
    obtain ⟨xs, hq, hx⟩ := hg
    obtain ⟨its, rv, p, hz⟩ := I.list hq
    obtain ⟨f0, f1, f2, f3, f4, f5⟩ := hf it (by simp)
    have hl := rv.length
    exact wpAny_pyNext_list_end (I.ok.hd hc) st p.isList (by simp; omega) fun h' eb => ⟨rfl, I.turned (t' := s.toks) (fun b o hb e => eb b o hb e) f0 f1 f3 f4 f5⟩
  self := fun _ _ _ _ _ st h => wpAny_pyIter_listiter st h
theorem turn_range {P : Program} {w : World} {K : PySem.W.Frag} {tg : Expr} (it : Addr) (lo : Int) (n : Nat) : Turn P w K tg (Itr lo n) [it] it (fun i h => IsRangeIter h it (lo + (i : Nat) * 1) ((n : Int) - (i : Nat)) 1) where
  mem := by simp
  obj := fun i h st b hb => by
    have e : b = it := by simpa using hb
    subst e
    exact ⟨_, st, fun v z => by
      have z' : Data.fields _ = Data.cell v := z
      cases z'⟩
  keep := fun i h h' st k => k it (by simp) _ st
  item := by
    intro X hP hw hK hc i pins s σ H E I hf st hg
    subst hP hw hK
    obtain ⟨f0, f1, f2, f3, f4, f5⟩ := hf it (by simp)
    have W := Walks.range (prog := X.prog) (w := X.w) (I.ok.hd hc) it lo 1 n
    refine W.item i s _ _ hg st fun v h' tk hv st' kk => ?_
    obtain ⟨t, rfl⟩ := hv
    have I1 : Inv X pins σ H { s with heap := h', toks := tk } := I.turned (fun b o hb e => kk b o (by simpa using hb) e) f0 f1 f3 f4 f5
    refine ⟨_, rfl, go_of (s := { s with heap := h', toks := tk }) (n := "range_iterator") st' rfl rfl (by decide) ⟨.int (lo + i), H, I1, ⟨t, ?_⟩, ⟨rfl, rfl⟩, st', fun b hb => (hf b hb).1⟩⟩
    rw [Int.mul_one]
  done := by
    intro X hP hw hK hc i pins s σ H E I hf st hg
    subst hP hw hK
    obtain ⟨f0, f1, f2, f3, f4, f5⟩ := hf it (by simp)
    exact wpAny_pyNext_range_end (I.ok.hd hc) st (by have : n ≤ i := hg; omega) fun h' eb => ⟨rfl, I.turned (t' := s.toks) (fun b o hb e => eb b o hb e) f0 f1 f3 f4 f5⟩
  self := fun _ _ _ _ _ st h => wpAny_pyIter_rangeiter st h
end L2
namespace L2
open PySem PySem.Spec PyProof.Rows
section
variable {X : Cx} {tg : Expr}
def iList (K : PySem.W.Frag) (tl : TE) : TI := fun σ H R => tl σ H fun x H1 => ∃ a, x = .ref a ∧ (∃ xs, SqL K H1 a xs) ∧ R (Itl K a) H1
theorem pi_list {l : Expr} {tl : TE} (hl : PE X l tl) : PI X tg l (iList X.K tl) := by
  intro pins s σ H R I h
  refine thn (hl pins s σ H _ I h) fun v s1 ⟨x, H1, I1, r1, q1⟩ => ?_
  obtain ⟨a, e, ⟨xs, hq⟩, q⟩ := q1
  subst e
  cases r1
  obtain ⟨its, rv, p, hz⟩ := I1.list hq
  refine wpAny_pyIter_list p.isList ?_
  refine ⟨s1.heap.objs.size, [s1.heap.objs.size], _, _, H1, rfl, I1.kept (t' := s1.toks) fun b o e => Heap.get?_push_of_some _ e, turn_list a _, ⟨_, Heap.get?_push_size _ rfl, rfl, rfl⟩, fun b hb => ?_, q⟩
  have e : b = s1.heap.objs.size := by simpa using hb
  subst e
  exact I1.fpOk (Nat.le_refl _) (I1.hok.fresh (Nat.le_refl _))
theorem range_it {pins : List (Addr × Obj)} {σ : St} {H : Hp} {s : Shared} {R : It → Hp → Prop} {E : Value → Shared → Prop} {lo hi : Int} {t u v : Tok} {tk : Nat} (I : Inv X pins σ H s) (h1 : -(2 ^ 62) ≤ lo) (h2 : lo < 2 ^ 62) (h3 : -(2 ^ 62) ≤ hi) (h4 : hi < 2 ^ 62)
    (q : R (Itr lo (hi - lo).toNat) H) : wpAny (model X.prog X.w) X.A (pyIter (.ref s.heap.objs.size)) (PIE X pins σ tg R) E { s with heap := s.heap.push { cls := .type "range", data := .fields #[.int lo t, .int hi u, .int 1 v] }, toks := tk } := by
  refine wpAny_pyIter_range (IsRange.new ..) (small_one h1 h2 h3 h4) ?_
  have I1 : Inv X pins σ H { s with heap := s.heap.push { cls := .type "range", data := .fields #[.int lo t, .int hi u, .int 1 v] }, toks := tk } := I.kept fun b o e => Heap.get?_push_of_some _ e
  refine ⟨(s.heap.push { cls := .type "range", data := .fields #[.int lo t, .int hi u, .int 1 v] }).objs.size, [(s.heap.push { cls := .type "range", data := .fields #[.int lo t, .int hi u, .int 1 v] }).objs.size], _, _, H, rfl,
    I1.kept (t' := tk) fun b o e => Heap.get?_push_of_some _ e, turn_range _ lo (hi - lo).toNat, ?_, fun b hb => ?_, q⟩
  · have e1 : lo + ((0 : Nat) : Int) * 1 = lo := by simp
    have e2 : (((hi - lo).toNat : Nat) : Int) - ((0 : Nat) : Int) = Builtin.Range.rangeSize lo hi 1 := by rw [rangeSize_one]; split <;> omega
    show IsRangeIter _ _ (lo + ((0 : Nat) : Int) * 1) ((((hi - lo).toNat : Nat) : Int) - ((0 : Nat) : Int)) 1
    rw [e1, e2]
    exact Heap.get?_push_size _ rfl
  · have e : b = (s.heap.push { cls := .type "range", data := .fields #[.int lo t, .int hi u, .int 1 v] }).objs.size := by simpa using hb
    subst e
    exact I1.fpOk (Nat.le_refl _) (I1.hok.fresh (Nat.le_refl _))
def iRng1 (ta : TA) : TI := fun σ H R => ta σ H fun vs H1 => ∃ j : Int, vs = [.int j] ∧ -(2 ^ 62) ≤ j ∧ j < 2 ^ 62 ∧ R (Itr 0 j.toNat) H1
theorem pi_range1 {a : Expr} {ta : TA} {p pos : Pos} (hg : Gl X "range") (hm : X.mg "range" = none) (ha : PA X [a] ta) (hs : starEach [a] X.env = [(false, eval a X.env)] := by rfl) : PI X tg (.Call (.Name "range" p) [a] [] pos) (iRng1 ta) := by
  intro pins s σ H R I h
  refine Call_ (ld_blt I hg hm boot_range (PyProof.Rows.callWith_type1 (thn (ha pos pins s σ H _ I h) fun us s1 ⟨vs, H1, I1, r1, q1⟩ => ?_) hs rfl))
  obtain ⟨j, e, q1, q2, q⟩ := q1
  subst e
  cases r1 with
  | cons r rr =>
    cases rr
    obtain ⟨t, rfl⟩ := r
    exact call_range_1 (range_it I1 (by omega) (by omega) q1 q2 (by simpa using q))
def tFor (wi : TI) (g : TG) (tb : TS) : TS := fun D σ H => wi σ H fun J H1 => ∃ W : Nat → Nat → St → Hp → Prop, (∃ m, W 0 m σ H1) ∧ ∀ i m σ H, W i m σ H →
  (J.stop i H ∧ D.nx σ H) ∨ (J.go i H ∧ ∃ N : St → Hp → Prop, (∀ σ' H', N σ' H' → ∃ m', m' < m ∧ W (i + 1) m' σ' H') ∧ ∀ x H', J.yld i H x H' → g x σ H' fun σ2 H2 => tb { D with nx := N, ct := N, bk := D.nx } σ2 H2)
def pinsAt (fp : List Addr) (h : Heap) : List (Addr × Obj) := fp.filterMap fun b => (h.get? b).map fun o => (b, o)
theorem mem_pinsAt {fp : List Addr} {h : Heap} {b : Addr} {o : Obj} (hb : b ∈ fp) (e : h.get? b = some o) : (b, o) ∈ pinsAt fp h := List.mem_filterMap.mpr ⟨b, hb, by rw [e]; rfl⟩
theorem of_pinsAt {fp : List Addr} {h : Heap} {p : Addr × Obj} (hp : p ∈ pinsAt fp h) : p.1 ∈ fp ∧ h.get? p.1 = some p.2 := by
  obtain ⟨b, hb, e⟩ := List.mem_filterMap.mp hp
  cases q : h.get? b with
  | none => rw [q] at e; cases e
  | some o =>
    rw [q] at e
    have e' : (b, o) = p := Option.some.inj e
    subst e'
    exact ⟨hb, q⟩
theorem Inv.pinned {pins : List (Addr × Obj)} {σ : St} {H : Hp} {s : Shared} {fp : List Addr} (I : Inv X pins σ H s) (hf : ∀ b ∈ fp, FpOk X pins H b) (ho : ∀ b ∈ fp, ∃ o, s.heap.get? b = some o ∧ ∀ v, o.data ≠ .cell v) : Inv X (pins ++ pinsAt fp s.heap) σ H s :=
  I.pins_of fun p hp => (List.mem_append.mp hp).elim (fun z => I.pin p (List.mem_append_right _ z)) fun z => by
    obtain ⟨hb, e⟩ := of_pinsAt z
    obtain ⟨f0, f1, f2, _⟩ := hf p.1 hb
    obtain ⟨o, e', d⟩ := ho p.1 hb
    rw [e] at e'; cases e'
    exact ⟨e, f0, f1, f2, d⟩
theorem Inv.unpinned {pins pl : List (Addr × Obj)} {σ : St} {H : Hp} {s : Shared} (I : Inv X (pins ++ pl) σ H s) : Inv X pins σ H s := I.pins_of fun p hp => I.pin p (List.mem_append_right _ (List.mem_append_left _ hp))
theorem ps_for {iter : Expr} {body : List Stmt} {wi : TI} {g : TG} {tb : TS} {pos : Pos} (hp : PassesOwn (model X.prog X.w) X.A X.env X.xe) (hc : X.calm = true) (hi : PI X tg iter wi) (hg : PG X tg g) (hb : PSs X body tb)
    (hs : ∀ x, foldedSetIterable iter X.env x = pure x := by intro _; rfl) : PS X (.For tg iter body [] pos) (tFor wi g tb) := by
  intro pins s σ H D I h
  refine wpAny_For (thn (hi pins s σ H _ I h) fun v s1 h1 => thn h1 fun itv s2 h2 => ?_) hs
  obtain ⟨it, fp, tn, J, H2, e, I2, T, st2, f2, W, ⟨m0, w0⟩, turn⟩ := h2
  subst e
  have stat : ∀ {H' : Hp}, (∀ b ∈ fp, H' b = none) → ∀ b ∈ fp, FpOk X pins H' b := fun hn b hb => ⟨hn b hb, (f2 b hb).2⟩
  refine codeAny_forLoop_any (fun n s' => ∃ i σ' H', Inv X pins σ' H' s' ∧ tn i s'.heap ∧ (∀ b ∈ fp, H' b = none) ∧ W i n σ' H') ?_ m0 ⟨0, σ, H2, I2, st2, fun b hb => (f2 b hb).1, w0⟩
  rintro n s3 ⟨i, σ3, H3, I3, st3, fr3, w3⟩
  rcases turn i n σ3 H3 w3 with ⟨stop, qn⟩ | ⟨go, N, hN, step⟩
  · refine wpAny_passesOwn hp (thn (T.done X rfl rfl rfl hc i pins s3 σ3 H3 X.xe I3 (stat fr3) st3 stop) fun r s4 ⟨hr, I4⟩ => ?_)
    subst hr
    exact wpAny_execs_nil ⟨σ3, H3, I4, qn⟩
  · refine wpAny_passesOwn hp (thn (T.item X rfl rfl rfl hc i pins s3 σ3 H3 X.xe I3 (stat fr3) st3 go) fun r s4 ⟨u, hr, h4⟩ => ?_)
    subst hr
    refine wpAny_passesOwn hp (thn h4 fun _ s5 ⟨x, H5, I5, r5, y5, st5, fr5⟩ => ?_)
    have I5' := I5.pinned (stat fr5) (T.obj _ _ st5)
    refine wpAny_passesOwn hp (thn (hg _ s5 σ3 H5 x u _ I5' r5 (step x H5 y5)) fun _ s6 ⟨σ6, H6, I6, q6⟩ => ?_)
    refine wpAny_passesOwn hp (thn (hb _ s6 σ6 H6 _ I6 q6) fun f s7 q7 => ?_)
    have again : ∀ {σ7 : St} {H7 : Hp}, Inv X (pins ++ pinsAt fp s5.heap) σ7 H7 s7 → N σ7 H7 → ∃ m, m < n ∧ ∃ i σ' H', Inv X pins σ' H' s7 ∧ tn i s7.heap ∧ (∀ b ∈ fp, H' b = none) ∧ W i m σ' H' := fun {σ7 H7} I7 n7 => by
      obtain ⟨m', hm, w7⟩ := hN σ7 H7 n7
      refine ⟨m', hm, i + 1, σ7, H7, I7.unpinned, T.keep _ _ _ st5 fun b hb o e => (I7.pin (b, o) (List.mem_append_right _ (List.mem_append_right _ (mem_pinsAt hb e)))).1, fun b hb => ?_, w7⟩
      obtain ⟨o, e, d⟩ := T.obj _ _ st5 b hb
      exact (I7.pin (b, o) (List.mem_append_right _ (List.mem_append_right _ (mem_pinsAt hb e)))).2.1
    cases f with
    | next => obtain ⟨σ7, H7, I7, n7⟩ := q7; exact again I7 n7
    | cont => obtain ⟨σ7, H7, I7, n7⟩ := q7; exact again I7 n7
    | brk => obtain ⟨σ7, H7, I7, q7⟩ := q7; exact ⟨σ7, H7, I7.unpinned, q7⟩
    | ret v => obtain ⟨x7, σ7, H7, I7, r7, q7⟩ := q7; exact ⟨x7, σ7, H7, I7.unpinned, r7, q7⟩
end
theorem for_list {K : PySem.W.Frag} {a : Addr} {xs : List V} {g : TG} {tb : TS} {D : Ends} {σ : St} {H : Hp} (Pv : Nat → St → Hp → Prop) (h0 : Pv 0 σ H) (hl : ∀ i σ H, i ≤ xs.length → Pv i σ H → SqL K H a xs)
    (hs : ∀ i x σ H, xs[i]? = some x → Pv i σ H → g x σ H fun σ2 H2 => tb { D with nx := Pv (i + 1), ct := Pv (i + 1), bk := D.nx } σ2 H2) (hd : ∀ σ H, Pv xs.length σ H → D.nx σ H) :
    ∃ W : Nat → Nat → St → Hp → Prop, (∃ m, W 0 m σ H) ∧ ∀ i m σ H, W i m σ H →
      ((Itl K a).stop i H ∧ D.nx σ H) ∨ ((Itl K a).go i H ∧ ∃ N : St → Hp → Prop, (∀ σ' H', N σ' H' → ∃ m', m' < m ∧ W (i + 1) m' σ' H') ∧ ∀ x H', (Itl K a).yld i H x H' → g x σ H' fun σ2 H2 => tb { D with nx := N, ct := N, bk := D.nx } σ2 H2) := by
  refine ⟨fun i m σ H => m = xs.length - i ∧ i ≤ xs.length ∧ Pv i σ H, ⟨xs.length, by simp, Nat.zero_le _, h0⟩, ?_⟩
  rintro i m σ H ⟨rfl, hi, p⟩
  have q := hl i σ H hi p
  by_cases hlt : i < xs.length
  · refine .inr ⟨⟨xs, xs[i], q, by simp [hlt]⟩, Pv (i + 1), fun σ' H' p' => ⟨xs.length - (i + 1), by omega, rfl, hlt, p'⟩, fun x H' y => ?_⟩
    obtain ⟨e, y⟩ := y
    subst e
    exact hs i x σ _ (y xs q) p
  · have e : i = xs.length := by omega
    subst e
    exact .inl ⟨⟨xs, q, Nat.le_refl _⟩, hd σ H p⟩
theorem for_range {lo : Int} {n : Nat} {g : TG} {tb : TS} {D : Ends} {σ : St} {H : Hp} (Pv : Nat → St → Hp → Prop) (h0 : Pv 0 σ H)
    (hs : ∀ i σ H, i < n → Pv i σ H → g (.int (lo + i)) σ H fun σ2 H2 => tb { D with nx := Pv (i + 1), ct := Pv (i + 1), bk := D.nx } σ2 H2) (hd : ∀ σ H, Pv n σ H → D.nx σ H) :
    ∃ W : Nat → Nat → St → Hp → Prop, (∃ m, W 0 m σ H) ∧ ∀ i m σ H, W i m σ H →
      ((Itr lo n).stop i H ∧ D.nx σ H) ∨ ((Itr lo n).go i H ∧ ∃ N : St → Hp → Prop, (∀ σ' H', N σ' H' → ∃ m', m' < m ∧ W (i + 1) m' σ' H') ∧ ∀ x H', (Itr lo n).yld i H x H' → g x σ H' fun σ2 H2 => tb { D with nx := N, ct := N, bk := D.nx } σ2 H2) := by
  refine ⟨fun i m σ H => m = n - i ∧ i ≤ n ∧ Pv i σ H, ⟨n, by simp, Nat.zero_le _, h0⟩, ?_⟩
  rintro i m σ H ⟨rfl, hi, p⟩
  by_cases hlt : i < n
  · refine .inr ⟨hlt, Pv (i + 1), fun σ' H' p' => ⟨n - (i + 1), by omega, rfl, hlt, p'⟩, fun x H' y => ?_⟩
    obtain ⟨e, y⟩ := y
    subst e y
    exact hs i σ _ hlt p
  · have e : i = n := by omega
    subst e
    exact .inl ⟨Nat.le_refl _, hd σ H p⟩
end L2
namespace L2
open PySem PySem.Spec PyProof.Rows
abbrev R2 := V → V → Hp → VK → Prop
def OpR (X : Cx) (f : Value → Value → Sem Value) (r : R2) : Prop :=
  ∀ (pins : List (Addr × Obj)) (s : Shared) (σ : St) (H : Hp) (x y : V) (v u : Value) (Q : VK), Inv X pins σ H s → RelV x v → RelV y u → r x y H Q →
    wpAny (model X.prog X.w) X.A (f v u) (EP X pins σ Q) X.xe s
def CallR (X : Cx) (f : Value) (r : List V → Hp → VK → Prop) : Prop :=
  ∀ (pins : List (Addr × Obj)) (s : Shared) (σ : St) (H : Hp) (xs : List V) (us : List Value) (Q : VK), Inv X pins σ H s → Vals xs us → r xs H Q →
    wpAny (model X.prog X.w) X.A (call f us) (EP X pins σ Q) X.xe s
def tOp (r : R2) (ta tb : TE) : TE := fun σ H Q => ta σ H fun x H1 => tb σ H1 fun y H2 => r x y H2 Q
def rI (C : Int → Int → Prop) (g : Int → Int → V) : R2 := fun x y H Q => ∃ i j, x = .int i ∧ y = .int j ∧ C i j ∧ Q (g i j) H
def rI0 (g : Int → Int → V) : R2 := fun x y H Q => ∃ i j, x = .int i ∧ y = .int j ∧ Q (g i j) H
section
variable {X : Cx} {a b c : Expr} {ta tb tc : TE} {pos : Pos}
theorem binT (ha : PE X a ta) (hb : PE X b tb) {pins : List (Addr × Obj)} {s : Shared} {σ : St} {H : Hp} {R : V → V → Hp → Prop} (I : Inv X pins σ H s)
    (h : ta σ H fun x H1 => tb σ H1 fun y H2 => R x y H2) {Q : Value → Shared → Prop} {f : Value → Value → Sem Value}
    (hf : ∀ v u s2 x y H2, Inv X pins σ H2 s2 → RelV x v → RelV y u → R x y H2 → wpAny (model X.prog X.w) X.A (f v u) Q X.xe s2) :
    wpAny (model X.prog X.w) X.A (eval a X.env) (fun v s₁ => wpAny (model X.prog X.w) X.A (eval b X.env) (fun u s₂ => wpAny (model X.prog X.w) X.A (f v u) Q X.xe s₂) X.xe s₁) X.xe s := by
  refine thn (ha pins s σ H _ I h) fun v s1 ⟨x, H1, I1, r1, q1⟩ => ?_
  refine thn (hb pins s1 σ H1 _ I1 q1) fun u s2 ⟨y, H2, I2, r2, q2⟩ => ?_
  exact hf v u s2 x y H2 I2 r1 r2 q2
theorem pe_op {op : Operator} {r : R2} (ho : OpR X (binaryOp op) r) (ha : PE X a ta) (hb : PE X b tb) : PE X (.BinOp a op b pos) (tOp r ta tb) := by
  intro pins s σ H Q I h
  exact wpAny_BinOp (binT ha hb I h fun v u s2 x y H2 I2 rx ry q => ho pins s2 σ H2 x y v u Q I2 rx ry q)
theorem opI {f : Value → Value → Sem Value} {C : Int → Int → Prop} {g : Int → Int → Int}
    (rule : ∀ (i j : Int) (t u : Tok) (s : Shared) (Q : Value → Shared → Prop) (E : Value → Shared → Prop), C i j → Q (.int (g i j) s.toks) { s with toks := s.toks + 1 } → wpAny (model X.prog X.w) X.A (f (.int i t) (.int j u)) Q E s) :
    OpR X f (rI C fun i j => .int (g i j)) := by
  intro pins s σ H x y v u Q I rx ry h
  obtain ⟨i, j, rfl, rfl, hc, q⟩ := h
  obtain ⟨t, rfl⟩ := rx
  obtain ⟨t', rfl⟩ := ry
  exact rule i j t t' s _ _ hc ⟨.int (g i j), H, I.tok _, ⟨_, rfl⟩, q⟩
theorem opI0 {f : Value → Value → Sem Value} {g : Int → Int → Int}
    (rule : ∀ (i j : Int) (t u : Tok) (s : Shared) (Q : Value → Shared → Prop) (E : Value → Shared → Prop), Q (.int (g i j) s.toks) { s with toks := s.toks + 1 } → wpAny (model X.prog X.w) X.A (f (.int i t) (.int j u)) Q E s) :
    OpR X f (rI0 fun i j => .int (g i j)) := by
  intro pins s σ H x y v u Q I rx ry h
  obtain ⟨i, j, rfl, rfl, q⟩ := h
  obtain ⟨t, rfl⟩ := rx
  obtain ⟨t', rfl⟩ := ry
  exact rule i j t t' s _ _ ⟨.int (g i j), H, I.tok _, ⟨_, rfl⟩, q⟩
theorem opB0 {f : Value → Value → Sem Value} {g : Int → Int → Bool}
    (rule : ∀ (i j : Int) (t u : Tok) (s : Shared) (Q : Value → Shared → Prop) (E : Value → Shared → Prop), Q (.bool (g i j)) s → wpAny (model X.prog X.w) X.A (f (.int i t) (.int j u)) Q E s) :
    OpR X f (rI0 fun i j => .bl (g i j)) := by
  intro pins s σ H x y v u Q I rx ry h
  obtain ⟨i, j, rfl, rfl, q⟩ := h
  obtain ⟨t, rfl⟩ := rx
  obtain ⟨t', rfl⟩ := ry
  exact rule i j t t' s _ _ ⟨.bl (g i j), H, I, rfl, q⟩
def CDiv (i j : Int) : Prop := 0 < j ∧ j < 1073741824
def CPow (i j : Int) : Prop := 0 ≤ j ∧ j ≤ 1000000 ∧ i.natAbs < 2 ^ 64
def CMul (i j : Int) : Prop := (-(2 ^ 64) < i ∧ i < 2 ^ 64) ∨ (-(2 ^ 64) < j ∧ j < 2 ^ 64)
theorem CMul.ok {i j : Int} (h : CMul i j) : IntMulOk i j := by
  rcases h with ⟨h1, h2⟩ | ⟨h1, h2⟩
  · exact .of_left (intBits_le_64 h1 h2)
  · exact .of_right (intBits_le_64 h1 h2)
theorem op_add : OpR X (binaryOp .Add) (rI0 fun i j => .int (i + j)) := opI0 fun _ _ _ _ _ _ _ q => add_int q
theorem op_sub : OpR X (binaryOp .Sub) (rI0 fun i j => .int (i - j)) := opI0 fun _ _ _ _ _ _ _ q => sub_int q
theorem op_mul : OpR X (binaryOp .Mult) (rI CMul fun i j => .int (i * j)) := opI fun _ _ _ _ _ _ _ hc q => mul_int q hc.ok
theorem op_fdiv : OpR X (binaryOp .FloorDiv) (rI CDiv fun i j => .int (i / j)) := opI fun i j _ _ _ _ _ hc q => by
  have h1 : (0 : Int) < j := hc.1
  have h2 : j < 1073741824 := hc.2
  exact floordiv_int (by omega) (by rw [Int.fdiv_eq_ediv_of_nonneg i (by omega)]; exact q) (.inl (PyProof.noPylong_small (by omega)))
theorem op_mod : OpR X (binaryOp .Mod) (rI (fun _ j => 0 < j) fun i j => .int (i % j)) := opI fun i j _ _ _ _ _ hc q => by
  have h1 : (0 : Int) < j := hc
  exact mod_int' (by omega) (by rw [Int.fmod_eq_emod_of_nonneg i (by omega)]; exact q)
theorem op_pow : OpR X (binaryOp .Pow) (rI CPow fun i j => .int (i ^ j.toNat)) := opI fun _ _ _ _ _ _ _ hc q => pow_int_small hc.1 hc.2.1 hc.2.2 q
theorem op_and : OpR X (binaryOp .BitAnd) (rI0 fun i j => .int (Builtin.bitAnd i j)) := opI0 fun _ _ _ _ _ _ _ q => and_int q
theorem op_or : OpR X (binaryOp .BitOr) (rI0 fun i j => .int (Builtin.bitOr i j)) := opI0 fun _ _ _ _ _ _ _ q => or_int q
end
def scal : V → V → Bool
  | .non, .non => true | .non, .int _ => true | .int _, .non => true | .non, .bl _ => true | .bl _, .non => true | .non, .str _ => true | .str _, .non => true
  | .int _, .int _ => true | .bl _, .bl _ => true | .str _, .str _ => true | .byt _, .byt _ => true
  | .int _, .str _ => true | .str _, .int _ => true | .bl _, .str _ => true | .str _, .bl _ => true
  | _, _ => false
def rEq : R2 := fun x y H Q => scal x y = true ∧ Q (.bl (decide (x = y))) H
def rNe : R2 := fun x y H Q => scal x y = true ∧ Q (.bl (!decide (x = y))) H
theorem dec_int {i j : Int} : decide (V.int i = V.int j) = (i == j) := by
  rw [Bool.eq_iff_iff]
  simp
theorem dec_bl {i j : Bool} : decide (V.bl i = V.bl j) = (i == j) := by
  rw [Bool.eq_iff_iff]
  simp
theorem dec_str {i j : Str} : decide (V.str i = V.str j) = (i == j) := by
  rw [Bool.eq_iff_iff]
  simp
theorem dec_byt {i j : Array UInt8} : decide (V.byt i = V.byt j) = (i.toList == j.toList) := by
  rw [Bool.eq_iff_iff]
  cases i
  cases j
  simp
section
variable {X : Cx} {a b c : Expr} {ta tb tc : TE} {pos : Pos}
theorem fin_bl {pins : List (Addr × Obj)} {σ : St} {H : Hp} {s : Shared} {Q : VK} {k k' : Bool} (I : Inv X pins σ H s) (q : Q (.bl k) H) (e : k = k') : EP X pins σ Q (.bool k') s := by
  subst e
  exact ⟨.bl k, H, I, rfl, q⟩
theorem op_eq : OpR X (compareOp .Eq) rEq := by
  intro pins s σ H x y v u Q I rx ry h
  obtain ⟨hs, q⟩ := h
  cases x with
  | non =>
    cases rx
    cases y with
    | non => cases ry; exact PySem.EqNone.eq_none_none (fin_bl I q (by simp))
    | bl j => cases ry; exact PySem.EqNone.eq_none_bool (fin_bl I q (by simp))
    | int j => obtain ⟨t', rfl⟩ := ry; exact PySem.EqNone.eq_none_int (fin_bl I q (by simp))
    | str j => obtain ⟨t', rfl⟩ := ry; exact PySem.EqNone.eq_none_str (fin_bl I q (by simp))
    | _ => exact absurd (show false = true from hs) Bool.false_ne_true
  | bl i =>
    cases rx
    cases y with
    | non => cases ry; exact PySem.EqNone.eq_bool_none (fin_bl I q (by simp))
    | bl j => cases ry; exact eq_bool (fin_bl I q dec_bl)
    | str j => obtain ⟨t', rfl⟩ := ry; exact PySem.EqMixed.eq_bool_str (fin_bl I q (by simp))
    | _ => exact absurd (show false = true from hs) Bool.false_ne_true
  | int i =>
    obtain ⟨t, rfl⟩ := rx
    cases y with
    | non => cases ry; exact PySem.EqNone.eq_int_none (fin_bl I q (by simp))
    | int j => obtain ⟨t', rfl⟩ := ry; exact eq_int (fin_bl I q dec_int)
    | str j => obtain ⟨t', rfl⟩ := ry; exact PySem.EqMixed.eq_int_str (fin_bl I q (by simp))
    | _ => exact absurd (show false = true from hs) Bool.false_ne_true
  | str i =>
    obtain ⟨t, rfl⟩ := rx
    cases y with
    | non => cases ry; exact PySem.EqNone.eq_str_none (fin_bl I q (by simp))
    | bl j => cases ry; exact PySem.EqMixed.eq_str_bool (fin_bl I q (by simp))
    | int j => obtain ⟨t', rfl⟩ := ry; exact PySem.EqMixed.eq_str_int (fin_bl I q (by simp))
    | str j => obtain ⟨t', rfl⟩ := ry; exact eq_str (fin_bl I q dec_str)
    | _ => exact absurd (show false = true from hs) Bool.false_ne_true
  | byt i =>
    obtain ⟨t, rfl⟩ := rx
    cases y with
    | byt j => obtain ⟨t', rfl⟩ := ry; exact PySem.W.eq_bytes (fin_bl I q dec_byt)
    | _ => exact absurd (show false = true from hs) Bool.false_ne_true
  | _ => cases y <;> exact absurd (show false = true from hs) Bool.false_ne_true
theorem op_ne : OpR X (compareOp .NotEq) rNe := by
  intro pins s σ H x y v u Q I rx ry h
  obtain ⟨hs, q⟩ := h
  cases x with
  | non =>
    cases rx
    cases y with
    | non => cases ry; exact PySem.EqNone.ne_none_none (fin_bl I q (by simp))
    | bl j => cases ry; exact PySem.EqNone.ne_none_bool (fin_bl I q (by simp))
    | int j => obtain ⟨t', rfl⟩ := ry; exact PySem.EqNone.ne_none_int (fin_bl I q (by simp))
    | str j => obtain ⟨t', rfl⟩ := ry; exact PySem.EqNone.ne_none_str (fin_bl I q (by simp))
    | _ => exact absurd (show false = true from hs) Bool.false_ne_true
  | bl i =>
    cases rx
    cases y with
    | non => cases ry; exact PySem.EqNone.ne_bool_none (fin_bl I q (by simp))
    | bl j => cases ry; exact ne_bool (fin_bl I q (congrArg not dec_bl))
    | str j => obtain ⟨t', rfl⟩ := ry; exact PySem.EqMixed.ne_bool_str (fin_bl I q (by simp))
    | _ => exact absurd (show false = true from hs) Bool.false_ne_true
  | int i =>
    obtain ⟨t, rfl⟩ := rx
    cases y with
    | non => cases ry; exact PySem.EqNone.ne_int_none (fin_bl I q (by simp))
    | int j => obtain ⟨t', rfl⟩ := ry; exact ne_int (fin_bl I q (congrArg not dec_int))
    | str j => obtain ⟨t', rfl⟩ := ry; exact PySem.EqMixed.ne_int_str (fin_bl I q (by simp))
    | _ => exact absurd (show false = true from hs) Bool.false_ne_true
  | str i =>
    obtain ⟨t, rfl⟩ := rx
    cases y with
    | non => cases ry; exact PySem.EqNone.ne_str_none (fin_bl I q (by simp))
    | bl j => cases ry; exact PySem.EqMixed.ne_str_bool (fin_bl I q (by simp))
    | int j => obtain ⟨t', rfl⟩ := ry; exact PySem.EqMixed.ne_str_int (fin_bl I q (by simp))
    | str j => obtain ⟨t', rfl⟩ := ry; exact ne_str (fin_bl I q (congrArg not dec_str))
    | _ => exact absurd (show false = true from hs) Bool.false_ne_true
  | byt i =>
    obtain ⟨t, rfl⟩ := rx
    cases y with
    | byt j => obtain ⟨t', rfl⟩ := ry; exact PySem.W.ne_bytes (fin_bl I q (congrArg not dec_byt))
    | _ => exact absurd (show false = true from hs) Bool.false_ne_true
  | _ => cases y <;> exact absurd (show false = true from hs) Bool.false_ne_true
theorem op_lt : OpR X (compareOp .Lt) (rI0 fun i j => .bl (decide (i < j))) := opB0 fun _ _ _ _ _ _ _ q => lt_int q
theorem op_le : OpR X (compareOp .LtE) (rI0 fun i j => .bl (decide (i ≤ j))) := opB0 fun _ _ _ _ _ _ _ q => le_int q
theorem op_gt : OpR X (compareOp .Gt) (rI0 fun i j => .bl (decide (j < i))) := opB0 fun _ _ _ _ _ _ _ q => gt_int q
theorem op_ge : OpR X (compareOp .GtE) (rI0 fun i j => .bl (decide (j ≤ i))) := opB0 fun _ _ _ _ _ _ _ q => ge_int q
theorem op_isN : OpR X (compareOp .Is) (fun x y H Q => y = .non ∧ Q (.bl (decide (x = .non))) H) := by
  intro pins s σ H x y v u Q I rx ry h
  obtain ⟨rfl, q⟩ := h
  cases ry
  refine is_none_gen (fin_bl I q ?_)
  cases x <;> first
    | (cases rx; rfl)
    | (obtain ⟨t, rfl⟩ := rx; rfl)
theorem op_notN : OpR X (compareOp .IsNot) (fun x y H Q => y = .non ∧ Q (.bl (!decide (x = .non))) H) := by
  intro pins s σ H x y v u Q I rx ry h
  obtain ⟨rfl, q⟩ := h
  cases ry
  refine isnot_none_gen (fin_bl I q ?_)
  cases x <;> first
    | (cases rx; rfl)
    | (obtain ⟨t, rfl⟩ := rx; rfl)
theorem nomark (b : Expr) {op : CmpOp} (h : op ≠ .In := by decide) (h2 : op ≠ .NotIn := by decide) : behindInMarks op b = false := by
  have e1 : (op == CmpOp.In) = false := by cases op <;> first | rfl | exact absurd rfl h
  have e2 : (op == CmpOp.NotIn) = false := by cases op <;> first | rfl | exact absurd rfl h2
  cases b <;> simp [behindInMarks, e1, e2]
theorem pe_cmpR {op : CmpOp} {r : R2} (ho : OpR X (compareOp op) r) (ha : PE X a ta) (hb : PE X b tb) (hm : behindInMarks op b = false) : PE X (.Compare a [op] [b] pos) (tOp r ta tb) := by
  intro pins s σ H Q I h
  exact wpAny_Compare1 (binT ha hb I h fun v u s2 x y H2 I2 rx ry q => ho pins s2 σ H2 x y v u Q I2 rx ry q) hm
def tTest (t : TE) : TT := fun σ H Q => t σ H fun x H' => ∃ k, x = .bl k ∧ Q k H'
theorem pt_cmpR {op : CmpOp} {r : R2} (ho : OpR X (compareOp op) r) (ha : PE X a ta) (hb : PE X b tb) (hm : behindInMarks op b = false) : PT X (.Compare a [op] [b] pos) (tTest (tOp r ta tb)) := by
  intro pins s σ H Q I h
  refine wpAny_isTrue_Compare1 (thn (ha pins s σ H _ I h) fun v s1 ⟨x, H1, I1, r1, q1⟩ => thn (hb pins s1 σ H1 _ I1 q1) fun u s2 ⟨y, H2, I2, r2, q2⟩ =>
    thn (ho pins s2 σ H2 x y v u _ I2 r1 r2 q2) fun c s3 ⟨z, H3, I3, r3, k, e, q3⟩ => ?_) hm
  subst e
  cases r3
  exact wpAny_truthy_bool ⟨H3, I3, q3⟩
def tChain (r r' : R2) (ta tb tc : TE) : TE := fun σ H Q => ta σ H fun x H1 => tb σ H1 fun y H2 => r x y H2 fun z H3 => ∃ k, z = .bl k ∧
  (if k = true then tc σ H3 fun w' H4 => r' y w' H4 Q else Q (.bl false) H3)
theorem pe_chain {op op' : CmpOp} {r r' : R2} (ho : OpR X (compareOp op) r) (ho' : OpR X (compareOp op') r') (ha : PE X a ta) (hb : PE X b tb) (hc : PE X c tc)
    (hm : lastMarks [op, op'] [b, c] = false := by with_unfolding_all rfl) : PE X (.Compare a [op, op'] [b, c] pos) (tChain r r' ta tb tc) := by
  intro pins s σ H Q I h
  refine Compare_chain (thn (ha pins s σ H _ I h) fun v s1 ⟨x, H1, I1, r1, q1⟩ => chain_link (thn (hb pins s1 σ H1 _ I1 q1) fun u s2 ⟨y, H2, I2, r2, q2⟩ =>
    thn (ho pins s2 σ H2 x y v u _ I2 r1 r2 q2) fun d s3 ⟨z, H3, I3, r3, k, e, q3⟩ => ?_)) hm
  subst e
  cases r3
  refine wpAny_truthy_bool ?_
  cases k with
  | false => exact ite_ff ⟨.bl false, H3, I3, rfl, q3⟩
  | true => exact ite_tt (chain_last (thn (hc pins s3 σ H3 _ I3 q3) fun w' s4 ⟨z', H4, I4, r4, q4⟩ => ho' pins s4 σ H4 y z' u w' Q I4 r2 r4 q4))
theorem pt_chain {op op' : CmpOp} {r r' : R2} (ho : OpR X (compareOp op) r) (ho' : OpR X (compareOp op') r') (ha : PE X a ta) (hb : PE X b tb) (hc : PE X c tc)
    (hm : lastMarks [op, op'] [b, c] = false := by with_unfolding_all rfl) : PT X (.Compare a [op, op'] [b, c] pos) (tTest (tChain r r' ta tb tc)) := by
  intro pins s σ H Q I h
  refine isTrue_chain (thn (ha pins s σ H _ I h) fun v s1 ⟨x, H1, I1, r1, q1⟩ => test_link (thn (hb pins s1 σ H1 _ I1 q1) fun u s2 ⟨y, H2, I2, r2, q2⟩ =>
    thn (ho pins s2 σ H2 x y v u _ I2 r1 r2 q2) fun d s3 ⟨z, H3, I3, r3, k, e, q3⟩ => ?_)) hm
  subst e
  cases r3
  refine wpAny_truthy_bool ?_
  cases k with
  | false =>
    obtain ⟨k', e', q'⟩ := q3
    cases e'
    exact ite_ff ⟨H3, I3, q'⟩
  | true =>
    refine ite_tt (test_last (thn (hc pins s3 σ H3 _ I3 q3) fun w' s4 ⟨z', H4, I4, r4, q4⟩ => thn (ho' pins s4 σ H4 y z' u w' _ I4 r2 r4 q4) fun d' s5 ⟨z2, H5, I5, r5, k2, e2, q5⟩ => ?_))
    subst e2
    cases r5
    exact wpAny_truthy_bool ⟨H5, I5, q5⟩
theorem line63 : (sizeLine : Nat) < 2 ^ 63 := by rw [sizeLine_eq]; decide
theorem vals1 {x : V} {us : List Value} (r : Vals [x] us) : ∃ u, us = [u] ∧ RelV x u := by
  cases r with
  | cons r1 r2 => cases r2; exact ⟨_, rfl, r1⟩
theorem vals2 {x y : V} {us : List Value} (r : Vals [x, y] us) : ∃ u w', us = [u, w'] ∧ RelV x u ∧ RelV y w' := by
  cases r with
  | cons r1 r2 =>
    cases r2 with
    | cons r3 r4 => cases r4; exact ⟨_, _, rfl, r1, r3⟩
theorem call_max2 (hc : X.calm = true) : CallR X (.builtin "max") (fun xs H Q => ∃ i j, xs = [.int i, .int j] ∧ Q (.int (if j > i then j else i)) H) := by
  intro pins s σ H xs us Q I r h
  obtain ⟨i, j, rfl, q⟩ := h
  obtain ⟨u, w', rfl, ⟨t, rfl⟩, ⟨t', rfl⟩⟩ := vals2 r
  refine max_two_ints (I.ok.hd hc) fun h' tk k => ⟨_, H, I.kept k, ?_, q⟩
  by_cases hj : j > i
  · rw [if_pos hj, if_pos hj]; exact ⟨_, rfl⟩
  · rw [if_neg hj, if_neg hj]; exact ⟨_, rfl⟩
theorem call_min2 (hc : X.calm = true) : CallR X (.builtin "min") (fun xs H Q => ∃ i j, xs = [.int i, .int j] ∧ Q (.int (if j < i then j else i)) H) := by
  intro pins s σ H xs us Q I r h
  obtain ⟨i, j, rfl, q⟩ := h
  obtain ⟨u, w', rfl, ⟨t, rfl⟩, ⟨t', rfl⟩⟩ := vals2 r
  refine min_two_ints (I.ok.hd hc) fun h' tk k => ⟨_, H, I.kept k, ?_, q⟩
  by_cases hj : j < i
  · rw [if_pos hj, if_pos hj]; exact ⟨_, rfl⟩
  · rw [if_neg hj, if_neg hj]; exact ⟨_, rfl⟩
theorem call_int1 : CallR X (.type "int") (fun xs H Q => (∃ i, xs = [.int i] ∧ Q (.int i) H) ∨ ∃ k, xs = [.bl k] ∧ Q (.int (if k then 1 else 0)) H) := by
  intro pins s σ H xs us Q I r h
  rcases h with ⟨i, rfl, q⟩ | ⟨k, rfl, q⟩
  · obtain ⟨u, rfl, t, rfl⟩ := vals1 r
    exact call_int_int ⟨.int i, H, I, ⟨_, rfl⟩, q⟩
  · obtain ⟨u, rfl, r1⟩ := vals1 r
    cases r1
    exact call_int_bool ⟨.int (if k then 1 else 0), H, I.tok _, ⟨_, rfl⟩, q⟩
end
end L2
namespace L2
open PySem PySem.Spec PyProof.Rows
structure ObjM (h : Heap) (x dx C : Addr) (mA : Str → Option Value) : Prop where
  obj : h.get? x = some (PySem.W.instObj C dx)
  ns : h.Ns1 dx mA
  ne : dx ≠ x
theorem lookIn_ns {h : Heap} {dx : Addr} {mA : Str → Option Value} (n : h.Ns1 dx mA) : ∃ od, h.get? dx = some od ∧ ∀ name, PySem.W.lookIn name od = some (mA name) := by
  obtain ⟨o, es, ep, ho, hd, hk, _, hm⟩ := n
  refine ⟨o, ho, fun name => ?_⟩
  have e := hm name
  unfold nsFind findBy at e
  rw [← Array.find?_toList] at e
  unfold PySem.W.lookIn
  rw [hd]
  dsimp only
  split
  · rename_i y q
    rw [q] at e
    exact congrArg some e
  · rename_i q
    rw [q] at e
    have a : es.toList.any (·.refKey) = false := by
      rw [List.any_eq_false]
      intro y hy
      obtain ⟨z, t, hkey⟩ := hk y (Array.mem_toList_iff.mp hy)
      simp [DictEntry.refKey, hkey]
    have a' : ¬ es.toList.any (·.refKey) = true := by rw [a]; exact Bool.false_ne_true
    rw [if_neg a']
    exact congrArg some e
theorem ObjM.look {h : Heap} {x dx C : Addr} {mA : Str → Option Value} (I : ObjM h x dx C mA) : ∃ od, PySem.W.InstAt h x (PySem.W.instObj C dx) C (some od) ∧ ∀ name, PySem.W.lookIn name od = some (mA name) :=
  let ⟨od, ho, hl⟩ := lookIn_ns I.ns
  ⟨od, ⟨I.obj, rfl, rfl, ho⟩, hl⟩
section
variable {prog : Program} {w : World} {A : Around} {E : Value → Shared → Prop} {s : Shared} {K : PySem.W.Frag} {x dx C f : Addr} {mA : Str → Option Value} {name : Str} {v : Value}
theorem get_map {expr : Bool} {Q : Value → Shared → Prop} (X : K.In s.heap) (I : ObjM s.heap x dx C mA) (hg : PySem.W.plainGet K C name = true) (hh : PySem.W.hasDictIn K C = true)
    (ha : PySem.W.findIn K (.ref C) name = some none) (hv : mA name = some v) (hv' : PySem.W.handedIn v = true) (h : Q v { s with toks := s.toks + 1 }) :
    wpAny (model prog w) A (getAttr (.ref x) name expr) Q E s := by
  obtain ⟨od, J, hl⟩ := I.look
  exact PySem.W.get_value X J (PySem.W.plainGet_of hg).1 (PySem.W.findObj_own hh ha rfl (by rw [hl, hv])) hv' h
theorem get_meth {pl : Sem Bool} {Q : Value × List Value → Shared → Prop} (X : K.In s.heap) (I : ObjM s.heap x dx C mA) (hg : PySem.W.plainGet K C name = true)
    (hf : PySem.W.findIn K (.ref C) name = some (some (.ref f))) (ht : PySem.W.isFn K (.ref f) = true) (hv : mA name = none) (h : Q (.ref f, [.ref x]) s) :
    wpAny (model prog w) A (getMethod (.ref x) name pl) Q E s := by
  obtain ⟨od, J, hl⟩ := I.look
  exact PySem.W.method_fn X J (PySem.W.plainGet_of hg).1 (PySem.W.plainGet_of hg).2 hf (beq_iff_eq.mp ht) (by show (PySem.W.lookIn name od).map (·.isSome) = some false; rw [hl, hv]; rfl) h
theorem set_map {ns : List Str} {Q : Unit → Shared → Prop} (X : K.In s.heap) (I : ObjM s.heap x dx C mA)
    (hs : PySem.W.findIn K (.ref C) "__setattr__" = some (some (.builtin "object.__setattr__"))) (hp : PySem.W.plainOver K C = true) (ht : PySem.W.takerIn K C name = some none) (hh : PySem.W.hasDictIn K C = true)
    (hw : PySem.Within mA ns) (hsz : ns.length ≤ sizeLine)
    (h : ∀ h', ObjM h' x dx C (fun y => if y = name then some v else mA y) → Heap.SameBut dx s.heap h' → Q () { s with heap := h', toks := s.toks + 2 }) :
    wpAny (model prog w) A (setAttr (.ref x) name v) Q E s := by
  obtain ⟨od, J, hl⟩ := I.look
  refine PySem.W.set_plain X J hs (PySem.W.osa_open (s := { s with toks := s.toks + 1 }) (r := none) X J hp ht fun b => ?_)
  obtain ⟨cd, hc, hd'⟩ := PySem.W.any_some hh
  have hx : s.heap.get? x = some ⟨.ref C, some dx, .plain, #[]⟩ := I.obj
  refine wpAny_bind (wpAny_pure (wpAny_bind (wpAny_bind (wpAny_loadPart hx (wpAny_bind (PySem.W.Looks.here (s := { s with toks := s.toks + 1 }) (PySem.W.looks_clsIn X hc) ?_))))))
  rw [hd']
  refine wpAny_pure (a := some dx) (wpAny_bind (wpAny_pure (wpAny_bind ?_)))
  refine wpAny_nsSet1 (s := { s with toks := s.toks + 1 }) I.ns fun h' hn2 hs2 => ?_
  obtain ⟨oD, esD, epD, hoD, hdD, hcD⟩ := hn2.count (PySem.Within.cons name v hw)
  refine wpAny_bind (wpAny_lookBehind hoD (by rw [hdD]; exact pastItsLine_dict (Nat.le_trans hcD (by rw [List.length_cons]; omega))) ?_)
  exact wpAny_pure (h _ ⟨(hs2.2 _ (Ne.symm I.ne)).trans I.obj, hn2, I.ne⟩ hs2)
theorem make_map {R : Result → Shared → Prop} {vs : List Value} {kw : List (Str × Value)} (X : K.In s.heap) (hm : PySem.W.makesIn K C = true)
    (hi : PySem.W.findIn K (.ref C) "__init__" = some (some (.ref f))) (hf : PySem.W.typeIn K (.ref f) = some (.type "function"))
    (h : codeAny (model prog w) (A.under (.builtin "type.__call__" ⟨.ref C :: vs, kw⟩)) (.call (.ref f) ⟨.ref (s.heap.objs.size + 1) :: vs, kw⟩) (PySem.W.InitBack (s.heap.objs.size + 1) R)
      { s with heap := (s.heap.push PySem.W.emptyDict).push (PySem.W.instObj C s.heap.objs.size) }) :
    codeAny (model prog w) A (.call (.ref C) ⟨vs, kw⟩) R s := by
  obtain ⟨hh, g, d, t, os⟩ := s
  exact PySem.W.make_core (PySem.W.makes_of X hm) (PySem.W.looks_findIn X hi) (fun self => PySem.W.bind_fn X self hf) (.inl rfl) h
end
def putF (f : Str) (v : V) : List (Str × V) → List (Str × V)
  | [] => [(f, v)]
  | (g, x) :: r => if g = f then (g, v) :: r else (g, x) :: putF f v r
theorem lookup_putF (f g : Str) (v : V) : ∀ fs : List (Str × V), (putF f v fs).lookup g = if g = f then some v else fs.lookup g
  | [] => by
    show List.lookup g [(f, v)] = _
    by_cases h : g = f
    · have hb : (g == f) = true := beq_iff_eq.mpr h
      simp only [List.lookup, hb, if_pos h]
    · have hb : (g == f) = false := beq_eq_false_iff_ne.mpr h
      simp only [List.lookup, hb, if_neg h]
  | (k, x) :: r => by
    have ih := lookup_putF f g v r
    rw [show putF f v ((k, x) :: r) = (if k = f then (k, v) :: r else (k, x) :: putF f v r) from rfl]
    by_cases hk : k = f
    · rw [if_pos hk]
      by_cases h : g = k
      · have hb : (g == k) = true := beq_iff_eq.mpr h
        simp only [List.lookup, hb, if_pos (h.trans hk)]
      · have hb : (g == k) = false := beq_eq_false_iff_ne.mpr h
        simp only [List.lookup, hb, if_neg (fun e : g = f => h (e.trans hk.symm))]
    · rw [if_neg hk]
      by_cases h : g = k
      · have hb : (g == k) = true := beq_iff_eq.mpr h
        simp only [List.lookup, hb, if_neg (fun e : g = f => hk (h.symm.trans e))]
      · have hb : (g == k) = false := beq_eq_false_iff_ne.mpr h
        simp only [List.lookup, hb]
        exact ih
theorem keys_putF (f : Str) (v : V) : ∀ fs : List (Str × V), f ∈ (putF f v fs).map (·.1) ∧ ∀ g, g ∈ fs.map (·.1) → g ∈ (putF f v fs).map (·.1)
  | [] => ⟨by simp [putF], fun g h => by simp at h⟩
  | (k, x) :: r => by
    obtain ⟨i1, i2⟩ := keys_putF f v r
    rw [show putF f v ((k, x) :: r) = (if k = f then (k, v) :: r else (k, x) :: putF f v r) from rfl]
    by_cases hk : k = f
    · rw [if_pos hk]
      subst hk
      exact ⟨by simp, fun g h => by simpa using h⟩
    · rw [if_neg hk]
      refine ⟨?_, fun g h => ?_⟩
      · rw [List.map_cons]
        exact List.mem_cons_of_mem _ i1
      · rw [List.map_cons] at h ⊢
        rcases List.mem_cons.mp h with e | e
        · exact List.mem_cons.mpr (.inl e)
        · exact List.mem_cons_of_mem _ (i2 g e)
theorem length_putF (f : Str) (v : V) : ∀ fs : List (Str × V), (putF f v fs).length ≤ fs.length + 1
  | [] => by simp [putF]
  | (k, x) :: r => by
    have ih := length_putF f v r
    rw [show putF f v ((k, x) :: r) = (if k = f then (k, v) :: r else (k, x) :: putF f v r) from rfl]
    by_cases hk : k = f
    · rw [if_pos hk, List.length_cons, List.length_cons]; omega
    · rw [if_neg hk, List.length_cons, List.length_cons]; omega
theorem RelO.some_of {v : V} {o : Option Value} (r : RelO (some v) o) : ∃ u, o = some u ∧ RelV v u := by
  cases o with
  | none => exact (show False from r).elim
  | some u => exact ⟨u, rfl, r⟩
theorem RelO.none_of {o : Option Value} (r : RelO none o) : o = none := by
  cases o with
  | none => rfl
  | some u => exact (show False from r).elim
theorem handed_of {v : V} {u : Value} (r : RelV v u) : PySem.W.handedIn u = true := by
  cases v with
  | non => cases (show u = Value.none from r); rfl
  | bl b => cases (show u = Value.bool b from r); rfl
  | int i => obtain ⟨t, e⟩ := (show ∃ t, u = Value.int i t from r); cases e; rfl
  | str x => obtain ⟨t, e⟩ := (show ∃ t, u = Value.str x t from r); cases e; rfl
  | byt b => obtain ⟨t, e⟩ := (show ∃ t, u = Value.bytes b t from r); cases e; rfl
  | flt b => obtain ⟨t, e⟩ := (show ∃ t, u = Value.float b t from r); cases e; rfl
  | ref a => cases (show u = Value.ref a from r); rfl
  | ty n => cases (show u = Value.type n from r); rfl
section
variable {P : Program} {w : World} {H H' : Hp} {h h' : Heap} {a C dx : Addr} {fs fs' : List (Str × V)}
theorem ins_get (hok : HOk P w H h) (e : H a = some (.ins C dx fs)) : ∃ mA, ObjM h a dx C mA ∧ (∀ f, RelO (fs.lookup f) (mA f)) ∧ PySem.Within mA (fs.map (·.1)) ∧ fs.length ≤ 1000 ∧ H dx = some (.own a) := by
  obtain ⟨d, z, ne, ob, mA, n, r, q⟩ := (show ObjOk P w H h a (.ins C dx fs) from hok a _ e)
  exact ⟨mA, ⟨ob, n, ne⟩, r, q, z, d⟩
end
structure Cls (K : PySem.W.Frag) (C : Addr) : Prop where
  pg : PySem.W.plainGet K C Str.empty = true
  hd : PySem.W.hasDictIn K C = true
  po : PySem.W.plainOver K C = true
  sa : PySem.W.findIn K (.ref C) "__setattr__" = some (some (.builtin "object.__setattr__"))
theorem Cls.get {K : PySem.W.Frag} {C : Addr} (c : Cls K C) (f : Str) : PySem.W.plainGet K C f = true := c.pg
def NoAttr (K : PySem.W.Frag) (C : Addr) (f : Str) : Prop := PySem.W.findIn K (.ref C) f = some none
theorem NoAttr.taker {K : PySem.W.Frag} {C : Addr} {f : Str} (n : NoAttr K C f) : PySem.W.takerIn K C f = some none := by
  unfold PySem.W.takerIn
  rw [show PySem.W.findIn K (.ref C) f = some none from n]
  rfl
structure Con (K : PySem.W.Frag) (C : Addr) (f : Str) (v : V) (u : Value) : Prop where
  at_ : PySem.W.findIn K (.ref C) f = some (some u)
  rel : RelV v u
  get : PySem.W.specialIn K u "__get__" = some none
  cp : PySem.W.copiedNames.contains f = false
structure Meth (K : PySem.W.Frag) (C : Addr) (m : Str) (f : Addr) : Prop where
  at_ : PySem.W.findIn K (.ref C) m = some (some (.ref f))
  fn : PySem.W.isFn K (.ref f) = true
  kp : PySem.W.keepIn K (.ref f) = true
section
variable {X : Cx} {pins : List (Addr × Obj)} {σ : St} {H : Hp} {s : Shared} {a C dx : Addr} {fs : List (Str × V)} {f : Str} {v : V} {A : Around} {E : Value → Shared → Prop}
theorem getattr_ok {b : Bool} {Q : Value → Shared → Prop} (I : Inv X pins σ H s) (e : H a = some (.ins C dx fs)) (c : Cls X.K C) (n : NoAttr X.K C f) (l : fs.lookup f = some v)
    (h : ∀ u s', Inv X pins σ H s' → RelV v u → Q u s') : wpAny (model X.prog X.w) A (getAttr (.ref a) f b) Q E s := by
  obtain ⟨mA, O, r, _, _, _⟩ := ins_get I.hok e
  obtain ⟨u, hu, ru⟩ := RelO.some_of (v := v) (o := mA f) (by rw [← l]; exact r f)
  exact get_map I.kIn O (c.get f) c.hd n hu (handed_of ru) (h u _ (I.tok _) ru)
theorem getmeth_ok {m : Str} {g : Addr} {pl : Sem Bool} {Q : Value × List Value → Shared → Prop} (I : Inv X pins σ H s) (e : H a = some (.ins C dx fs)) (c : Cls X.K C) (k : Meth X.K C m g) (l : fs.lookup m = none)
    (h : Q (.ref g, [.ref a]) s) : wpAny (model X.prog X.w) A (getMethod (.ref a) m pl) Q E s := by
  obtain ⟨mA, O, r, _, _, _⟩ := ins_get I.hok e
  have hn : mA m = none := RelO.none_of (by rw [← l]; exact r m)
  exact get_meth I.kIn O (c.get m) k.at_ k.fn hn h
theorem setattr_ok {y : V} {u : Value} {Q : Unit → Shared → Prop} (I : Inv X pins σ H s) (e : H a = some (.ins C dx fs)) (c : Cls X.K C) (n : NoAttr X.K C f) (hl : fs.length < 1000) (ry : RelV y u)
    (h : ∀ s', Inv X pins σ (upd H a (.ins C dx (putF f y fs))) s' → Q () s') : wpAny (model X.prog X.w) A (setAttr (.ref a) f u) Q E s := by
  obtain ⟨mA, O, r, wi, _, ho⟩ := ins_get I.hok e
  have hz : (fs.map (·.1)).length ≤ sizeLine := by rw [List.length_map, sizeLine_eq]; omega
  refine set_map I.kIn O c.sa c.po n.taker c.hd wi hz fun h' O' sb => h _ ?_
  have hd : ∃ o, h'.get? dx = some o := let ⟨o, _, _, e', _⟩ := O'.ns; ⟨o, e'⟩
  refine I.write (x := a) (e := dx) (by rw [e]; exact True.intro) (.inr ho) (fun b q hb z => (sb.2 b hb).trans z) hd ?_
  refine ⟨by rw [upd_ne O.ne]; exact ho, ?_, O.ne, O'.obj, _, O'.ns, fun g => ?_, fun g hg => ?_⟩
  · have := length_putF f y fs; omega
  · show RelO ((putF f y fs).lookup g) (if g = f then some u else mA g)
    rw [lookup_putF]
    by_cases q : g = f
    · rw [if_pos q, if_pos q]; exact ry
    · rw [if_neg q, if_neg q]; exact r g
  · by_cases q : g = f
    · rw [q]; exact (keys_putF f y fs).1
    · refine (keys_putF f y fs).2 g (wi g fun z => hg ?_)
      show (if g = f then some u else mA g) = none
      rw [if_neg q]; exact z
theorem Inv.made (I : Inv X pins σ H s) : Inv X pins σ (upd (upd H s.heap.objs.size (.own (s.heap.objs.size + 1))) (s.heap.objs.size + 1) (.ins C s.heap.objs.size []))
    { s with heap := (s.heap.push PySem.W.emptyDict).push (PySem.W.instObj C s.heap.objs.size) } := by
  have e1 : (s.heap.push PySem.W.emptyDict).get? s.heap.objs.size = some PySem.W.emptyDict := Heap.get?_push_size s.heap rfl
  have e2 : ((s.heap.push PySem.W.emptyDict).push (PySem.W.instObj C s.heap.objs.size)).get? (s.heap.objs.size + 1) = some (PySem.W.instObj C s.heap.objs.size) := by
    have := Heap.get?_push_size (s.heap.push PySem.W.emptyDict) (o := PySem.W.instObj C s.heap.objs.size) rfl
    rwa [Heap.size_push] at this
  have e3 : (s.heap.push PySem.W.emptyDict).Ns s.heap.objs.size (fun _ => none) := ⟨PySem.W.emptyDict, #[], _, e1, rfl, (fun e he => absurd he (by simp)), fun _ => rfl⟩
  have I1 := I.laid (a := s.heap.objs.size) (o := .own (s.heap.objs.size + 1)) (h' := s.heap.push PySem.W.emptyDict) (t' := s.toks) (fun b u q => Heap.get?_push_of_some _ q) (Nat.le_refl _) ⟨_, e1⟩
  refine I1.laid (a := s.heap.objs.size + 1) (o := .ins C s.heap.objs.size []) (t' := s.toks) (fun b u q => Heap.get?_push_of_some _ q) (Nat.le_of_eq (Heap.size_push _ _)) ?_
  have ne : s.heap.objs.size ≠ s.heap.objs.size + 1 := Nat.ne_of_lt (Nat.lt_succ_self _)
  refine ⟨by rw [upd_ne ne, upd_same], Nat.zero_le _, ne, e2, fun _ => none, (Heap.Ns1.of_empty e3).at fun o q => Heap.get?_push_of_some _ q, fun _ => True.intro, fun y hy => absurd rfl hy⟩
theorem attr_of {prog : Program} {w : World} {env : Env} {e : Expr} {f : Str} {pos : Pos} {s : Shared} {Q : Value → Shared → Prop} (hb : attributeBase e f env (eval e env) = eval e env)
    (h : wpAny (model prog w) A (eval e env) (fun o s₁ => wpAny (model prog w) A (getAttr o f true) Q E s₁) E s) : wpAny (model prog w) A (eval (.Attribute e f pos) env) Q E s :=
  Attribute_any_ h (by rw [arm_eval_Attribute, hb])
end
def tFld (K : PySem.W.Frag) (ta : TE) (f : Str) : TE := fun σ H Q => ta σ H fun x H1 => ∃ a C dx fs v, x = .ref a ∧ H1 a = some (.ins C dx fs) ∧ Cls K C ∧ NoAttr K C f ∧ fs.lookup f = some v ∧ Q v H1
def sFld (K : PySem.W.Frag) (ta tv : TE) (f : Str) : TS := fun D σ H => tv σ H fun y H1 => ta σ H1 fun x H2 => ∃ a C dx fs, x = .ref a ∧ H2 a = some (.ins C dx fs) ∧ Cls K C ∧ NoAttr K C f ∧ fs.length < 1000 ∧
  D.nx σ (upd H2 a (.ins C dx (putF f y fs)))
section
variable {X : Cx} {o e value : Expr} {f : Str} {pos pos' tpos : Pos} {ta tv : TE}
theorem pe_fld (he : PE X e ta) (hb : attributeBase e f X.env (eval e X.env) = eval e X.env) : PE X (.Attribute e f pos) (tFld X.K ta f) := by
  intro pins s σ H Q I h
  refine attr_of hb (thn (he pins s σ H _ I h) fun u s1 ⟨x, H1, I1, rx, a, C, dx, fs, v, ex, ea, c, n, l, q⟩ => ?_)
  subst ex
  obtain rfl : u = Value.ref a := rx
  exact getattr_ok I1 ea c n l fun u' s2 I2 ru => ⟨v, H1, I2, ru, q⟩
theorem ps_fld (ha : PE X o ta) (hv : PE X value tv) (hs : swapsWith value (some (.Attribute o f pos')) pos.line X.env = pure false) : PS X (.Assign [.Attribute o f pos'] value pos) (sFld X.K ta tv f) := by
  intro pins s σ H D I h
  refine plainObj_wpAny_Assign_Attribute (thn (hv pins s σ H _ I h) fun u s1 ⟨y, H1, I1, ry, q⟩ => thn (ha pins s1 σ H1 _ I1 q) fun ov s2 ⟨x, H2, I2, rx, a, C, dx, fs, ex, ea, c, n, l, q2⟩ => ?_) hs
  subst ex
  obtain rfl : ov = Value.ref a := rx
  exact setattr_ok I2 ea c n l ry fun s3 I3 => ⟨σ, _, I3, q2⟩
end
section
variable {X : Cx} {pins : List (Addr × Obj)} {σ : St} {H : Hp} {s : Shared} {A : Around} {E : Value → Shared → Prop} {Q : Value → Shared → Prop} {c : Value} {b : Bool}
inductive TyOf (K : PySem.W.Frag) (H : Hp) : V → Value → Prop where
  | non : TyOf K H .non (.type "NoneType")
  | bl (x : Bool) : TyOf K H (.bl x) (.type "bool")
  | int (i : Int) : TyOf K H (.int i) (.type "int")
  | str (x : Str) : TyOf K H (.str x) (.type "str")
  | flt (x : UInt64) : TyOf K H (.flt x) (.type "float")
  | lst {a : Addr} {xs : List V} (e : H a = some (.lst xs)) : TyOf K H (.ref a) (.type "list")
  | frz {a : Addr} {o : Obj} {xs : List V} (e : H a = some (.frz o (.lst xs))) : TyOf K H (.ref a) (.type "list")
  | tup {a : Addr} {xs : List V} (e : H a = some (.tup xs)) : TyOf K H (.ref a) (.type "tuple")
  | dK {a : Addr} {kvs : List (Key × V)} (e : H a = some (.dK kvs)) : TyOf K H (.ref a) (.type "dict")
  | dT {a : Addr} {kvs : List (List Key × V)} (e : H a = some (.dT kvs)) : TyOf K H (.ref a) (.type "dict")
  | ins {a C dx : Addr} {fs : List (Str × V)} (e : H a = some (.ins C dx fs)) (cl : Cls K C) (ha : PySem.W.findIn K (.ref C) "__class__" = some (some (.builtin "object.__class__")))
      (hn : PySem.W.specialIn K (.builtin "object.__class__") "__get__" = some (some (.builtin "getset_descriptor.__get__"))) (htk : PySem.W.takesIn K (.builtin "object.__class__") = some true)
      (hm : PySem.W.mroIn K C (.type "object") = some true) : TyOf K H (.ref a) (.ref C)
theorem isinst_ok {x : V} {u t : Value} (I : Inv X pins σ H s) (rx : RelV x u) (ty : TyOf X.K H x t) (e : PySem.W.kitOne X.K t c = some b) (h : ∀ tk, Q (.bool b) { s with toks := tk }) :
    wpAny (model X.prog X.w) A (call (.builtin "isinstance") [u, c]) Q E s := by
  cases ty with
  | non => cases (show u = Value.none from rx); exact PySem.W.kia_one PySem.W.kitx_none I.kIn True.intro e (fun z => nomatch z) h
  | bl y => cases (show u = Value.bool y from rx); exact PySem.W.kia_one PySem.W.kitx_bool I.kIn True.intro e (fun z => nomatch z) h
  | int i => obtain ⟨t, q⟩ := (show ∃ t, u = Value.int i t from rx); cases q; exact PySem.W.kia_one PySem.W.kitx_int I.kIn True.intro e (fun z => nomatch z) h
  | str y => obtain ⟨t, q⟩ := (show ∃ t, u = Value.str y t from rx); cases q; exact PySem.W.kia_one PySem.W.kitx_str I.kIn True.intro e (fun z => nomatch z) h
  | flt y => obtain ⟨t, q⟩ := (show ∃ t, u = Value.float y t from rx); cases q; exact PySem.W.kia_one PySem.W.kitx_float I.kIn True.intro e (fun z => nomatch z) h
  | @lst a xs ea =>
    cases (show u = Value.ref a from rx)
    obtain ⟨_, _, n, _, h1⟩ := (show ObjOk X.prog X.w H s.heap a (.lst xs) from I.hok a _ ea)
    exact PySem.W.kia_one PySem.W.kitx_list I.kIn ⟨_, h1, rfl⟩ e (fun z => nomatch z) h
  | @frz a ob xs ea =>
    cases (show u = Value.ref a from rx)
    obtain ⟨_, _, _, n, _, h1⟩ := (show ObjOk X.prog X.w H s.heap a (.frz ob (.lst xs)) from I.hok a _ ea)
    exact PySem.W.kia_one PySem.W.kitx_list I.kIn ⟨_, h1, rfl⟩ e (fun z => nomatch z) h
  | @tup a xs ea =>
    cases (show u = Value.ref a from rx)
    obtain ⟨_, _, _, p⟩ := (show ObjOk X.prog X.w H s.heap a (.tup xs) from I.hok a _ ea)
    obtain ⟨o, h1, h2, _⟩ := p
    exact PySem.W.kia_one PySem.W.kitx_tuple I.kIn ⟨o, h1, h2⟩ e (fun z => nomatch z) h
  | @dK a kvs ea =>
    cases (show u = Value.ref a from rx)
    obtain ⟨_, _, vs, _, p⟩ := (show ObjOk X.prog X.w H s.heap a (.dK kvs) from I.hok a _ ea)
    obtain ⟨o, es, ep, h1, h2, _⟩ := p
    exact PySem.W.kia_one PySem.W.kitx_dict I.kIn ⟨o, h1, h2.1⟩ e (fun z => nomatch z) h
  | @dT a kvs ea =>
    cases (show u = Value.ref a from rx)
    obtain ⟨_, _, xs, _, o, es, ep, h1, h2, _⟩ := (show ObjOk X.prog X.w H s.heap a (.dT kvs) from I.hok a _ ea)
    exact PySem.W.kia_one PySem.W.kitx_dict I.kIn ⟨o, h1, h2.1⟩ e (fun z => nomatch z) h
  | @ins a C dx fs ea cl ha hn htk hm =>
    cases (show u = Value.ref a from rx)
    obtain ⟨mA, O, _⟩ := ins_get I.hok ea
    obtain ⟨od, J, _⟩ := O.look
    exact PySem.W.kia_one (PySem.W.kitx_own (cl.get _) cl.hd ha hn htk hm) I.kIn J e (fun z => nomatch z) h
end
end L2
namespace L2
open PySem PySem.Spec PyProof.Rows
structure Room (k : Nat) (A : Around) : Prop where
  hd : A.handled = none
  dp : A.depth + 3 * k + 5 < recursionLimit
  un : A.units + 16 * k + 200 < cLine
theorem Room.mono {j k : Nat} {A : Around} (r : Room k A) (h : j ≤ k) : Room j A := ⟨r.hd, by have := r.dp; omega, by have := r.un; omega⟩
theorem Room.deeper {k : Nat} {A : Around} (r : Room (k + 1) A) (env : Env) : Room k (A.deeper env) :=
  ⟨r.hd, by have := r.dp; show A.depth + 1 + 3 * k + 5 < _; omega, by have := r.un; show A.units + 3 + 16 * k + 200 < _; omega⟩
theorem make_depth {A : Around} {C : Addr} {us : List Value} {kw : List (Str × Value)} : (A.under (.builtin "type.__call__" ⟨.ref C :: us, kw⟩)).depth = A.depth + 1 := by
  first | rfl | simp [Around.under, Code.weight, Code.isCreation, Code.isGuard, Code.isCaller, Code.frames, Code.isFrame, guardIds]
theorem make_units {A : Around} {C : Addr} {us : List Value} {kw : List (Str × Value)} : (A.under (.builtin "type.__call__" ⟨.ref C :: us, kw⟩)).units = A.units + 1 := by
  first | rfl | simp [Around.under, Code.cUnits, Code.frames, Code.isFrame]
theorem Room.make {k : Nat} {A : Around} (r : Room (k + 1) A) (C : Addr) (us : List Value) (kw : List (Str × Value)) : Room k (A.under (.builtin "type.__call__" ⟨.ref C :: us, kw⟩)) :=
  ⟨r.hd, by have := r.dp; rw [make_depth]; omega, by have := r.un; rw [make_units]; omega⟩
theorem Room.depth {k : Nat} {A : Around} (r : Room k A) : A.depth < recursionLimit := by have := r.dp; omega
theorem Room.units {k : Nat} {A : Around} (r : Room k A) : A.units + 64 < cLine := by have := r.un; omega
def tNil : TA := fun _ H Q => Q [] H
def tCons (ta : TE) (tr : TA) : TA := fun σ H Q => ta σ H fun x H1 => tr σ H1 fun xs H2 => Q (x :: xs) H2
section
variable {X : Cx} {e : Expr} {es : List Expr} {te : TE} {t : TA} {pos : Pos}
theorem pa_nil : PA X [] tNil := fun _ _ _ _ H Q I h => Calls.spliced_nil ⟨[], H, I, .nil, h⟩
theorem pa_cons (ha : PE X e te) (hr : PA X es t) (hs : starEach (e :: es) X.env = (false, eval e X.env) :: starEach es X.env := by rfl) : PA X (e :: es) (tCons te t) := by
  intro pos pins s σ H Q I h
  rw [hs]
  show wpAny _ _ (spliced ((false, eval e X.env) :: backTo pos (starEach es X.env))) _ _ s
  refine Calls.spliced_cons (thn (ha pins s σ H _ I h) fun u s1 ⟨x, H1, I1, r1, q1⟩ => ?_)
  exact thn (hr pos pins s1 σ H1 _ I1 q1) fun us s2 ⟨xs, H2, I2, r2, q2⟩ => ⟨x :: xs, H2, I2, .cons r1 r2, q2⟩
def tTup (t : TA) : TE := fun σ H Q => t σ H fun xs H1 => xs.length ≤ sizeLine ∧ ∀ p, H1 p = none → Q (.ref p) (upd H1 p (.tup xs))
def tLst (t : TA) : TE := fun σ H Q => t σ H fun xs H1 => xs.length ≤ sizeLine ∧ ∀ p, H1 p = none → Q (.ref p) (upd H1 p (.lst xs))
theorem pe_tup {x1} (h : PA X es t) : PE X (.Tuple es x1 pos) (tTup t) := by
  intro pins s σ H Q I hq
  refine wpAny_Tuple_spliced (thn (h pos pins s σ H _ I hq) fun us s1 ⟨xs, H1, I1, r, z, q⟩ => ⟨by rw [← r.length]; exact z, ?_⟩)
  have hf : H1 s1.heap.objs.size = none := I1.hok.fresh (Nat.le_refl _)
  refine ⟨.ref s1.heap.objs.size, upd H1 s1.heap.objs.size (.tup xs), I1.laid (t' := s1.toks) (fun b u e => Heap.get?_push_of_some _ e) (Nat.le_refl _) ?_, rfl, q _ hf⟩
  exact ⟨z, us, r, ⟨_, Heap.get?_push_size _ rfl, rfl, _, rfl⟩⟩
theorem pe_lst (h : PA X es t) : PE X (.List es pos) (tLst t) := by
  intro pins s σ H Q I hq
  refine wpAny_List_spliced (thn (h pos pins s σ H _ I hq) fun us s1 ⟨xs, H1, I1, r, z, q⟩ => ⟨by rw [← r.length]; exact z, ?_⟩)
  have hf : H1 s1.heap.objs.size = none := I1.hok.fresh (Nat.le_refl _)
  refine ⟨.ref s1.heap.objs.size, upd H1 s1.heap.objs.size (.lst xs), I1.laid (t' := s1.toks) (fun b u e => Heap.get?_push_of_some _ e) (Nat.le_refl _) ?_, rfl, q _ hf⟩
  exact ⟨z, us, 0, r, Heap.get?_push_size _ rfl⟩
end
abbrev Sp := List V → Hp → VK → XK → Prop
abbrev CXT := List Env → Hp → Shared → XK → Value → Shared → Prop
structure Env0 (P : Program) (w : World) (K : PySem.W.Frag) (mg : Str → Option Value) (base : Heap) (A : Around) (outer : List Env) (s : Shared) (H : Hp) : Prop where
  frames : A.frames = some outer
  mod : Mod K mg base
  bs : ∀ b o, base.get? b = some o → s.heap.get? b = some o ∧ H b = none
  bsz : base.objs.size ≤ s.heap.objs.size
  funs : s.heap.FunFrames base outer
  frf : ∀ b ∈ frs outer, H b = none
  hok : HOk P w H s.heap
  bare : AllBare s.gens
def CE (outer : List Env) (P : Program) (w : World) (H : Hp) (s : Shared) (Q : VK) (u : Value) (s' : Shared) : Prop :=
  ∃ v H', s'.os = s.os ∧ AllBare s'.gens ∧ Un (frs outer) [] H H' s.heap s'.heap ∧ HOk P w H' s'.heap ∧ RelV v u ∧ Q v H'
def CR (CX : CXT) (outer : List Env) (P : Program) (w : World) (H : Hp) (s : Shared) (Q : VK) (E : XK) (r : Result) (s' : Shared) : Prop :=
  match r with
  | .ok (.ret u) => CE outer P w H s Q u s'
  | .ok _ => False
  | .error e => CX outer H s E e s'
structure FnOk (P : Program) (w : World) (K : PySem.W.Frag) (mg : Str → Option Value) (base : Heap) (CX : CXT) (k : Nat) (f : Addr) (fd : FuncData) (ps : List Str) (sp : Sp) : Prop where
  len : ∀ vs H Q E, sp vs H Q E → vs.length = ps.length
  run : ∀ (A : Around) (outer : List Env) (s : Shared) (H : Hp) (args : Args) (us : List Value) (vs : List V) (Q : VK) (E : XK), Room k A → Env0 P w K mg base A outer s H → BindsTo s fd args (ps.zip us) → Vals vs us → sp vs H Q E →
    codeAny (model P w) A (.call (.ref f) args) (CR CX outer P w H s Q E) s
theorem FnOk.mono {P : Program} {w : World} {K : PySem.W.Frag} {mg : Str → Option Value} {base : Heap} {CX : CXT} {j k : Nat} {f : Addr} {fd : FuncData} {ps : List Str} {sp : Sp} (F : FnOk P w K mg base CX j f fd ps sp) (h : j ≤ k) :
    FnOk P w K mg base CX k f fd ps sp := ⟨F.len, fun A outer s H args us vs Q E hr => F.run A outer s H args us vs Q E (hr.mono h)⟩
theorem FnOk.imp {P : Program} {w : World} {K : PySem.W.Frag} {mg : Str → Option Value} {base : Heap} {CX : CXT} {k : Nat} {f : Addr} {fd : FuncData} {ps : List Str} {sp sp' : Sp} (F : FnOk P w K mg base CX k f fd ps sp)
    (h : ∀ vs H Q E, sp' vs H Q E → sp vs H Q E) : FnOk P w K mg base CX k f fd ps sp' :=
  ⟨fun vs H Q E q => F.len vs H Q E (h _ _ _ _ q), fun A outer s H args us vs Q E hr he hb hv hs => F.run A outer s H args us vs Q E hr he hb hv (h _ _ _ _ hs)⟩
theorem Env0.make {P : Program} {w : World} {K : PySem.W.Frag} {mg : Str → Option Value} {base : Heap} {A : Around} {outer : List Env} {s : Shared} {H : Hp} (e : Env0 P w K mg base A outer s H) (C : Addr) (us : List Value) (kw : List (Str × Value)) :
    Env0 P w K mg base (A.under (.builtin "type.__call__" ⟨.ref C :: us, kw⟩)) outer s H := ⟨by first | exact e.frames | (simpa [Around.under, Code.envs, Code.isFrame, pushEnvs] using e.frames), e.mod, e.bs, e.bsz, e.funs, e.frf, e.hok, e.bare⟩
section
variable {X : Cx} {pins : List (Addr × Obj)} {σ : St} {H : Hp} {s s' : Shared}
theorem Inv.env0 (I : Inv X pins σ H s) : Env0 X.prog X.w X.K X.mg X.base X.A X.stack s H :=
  ⟨I.ok.frames, I.ok.mod, I.bs, Nat.le_trans I.ok.bsz I.sz, I.stack, I.stkFree, I.hok, I.bare⟩
theorem Inv.after {Q : VK} {u : Value} (I : Inv X pins σ H s) (h : CE X.stack X.prog X.w H s Q u s') : EP X pins σ Q u s' := by
  obtain ⟨v, H', os, bare, un, hok, r, q⟩ := h
  obtain ⟨hh, g, d, t, os'⟩ := s'
  obtain rfl : os' = s.os := os
  exact ⟨v, H', I.call (h' := hh) (g' := g) (d' := d) (t' := t) (ch := []) un hok bare (fun b z => absurd z (by simp)), r, q⟩
end
def tCall (sp : Sp) (dvs : List V) (E : XK) (t : TA) : TE := fun σ H Q => t σ H fun vs H1 => sp (vs ++ dvs) H1 Q E
def tMeth (C : Addr) (m : Str) (sp : Sp) (dvs : List V) (E : XK) (ta : TE) (t : TA) : TE := fun σ H Q => ta σ H fun x H1 => ∃ a dx fs, x = .ref a ∧ H1 a = some (.ins C dx fs) ∧ fs.lookup m = none ∧
  t σ H1 fun vs H2 => sp (x :: (vs ++ dvs)) H2 Q E
def tMake (C : Addr) (sp : Sp) (dvs : List V) (E : XK) (t : TA) : TE := fun σ H Q => t σ H fun vs H1 => ∀ x dx, H1 x = none → H1 dx = none → dx ≠ x →
  sp (.ref x :: (vs ++ dvs)) (upd (upd H1 dx (.own x)) x (.ins C dx [])) (fun v H2 => v = .non ∧ Q (.ref x) H2) E
def Binds (K : PySem.W.Frag) (fd : FuncData) (ps : List Str) (ds : List Value) : Prop :=
  ∀ (s : Shared) (us : List Value), K.In s.heap → (us ++ ds).length = ps.length → BindsTo s fd ⟨us, []⟩ (ps.zip (us ++ ds))
theorem Binds.all {K : PySem.W.Frag} {fd : FuncData} {ps : List Str} (h : ∀ us : List Value, us.length = ps.length → bindArgs fd ⟨us, []⟩ = pure (ps.zip us)) : Binds K fd ps [] := fun s us _ hl => by
  rw [List.append_nil] at hl ⊢
  exact .of_eq (h us hl)
def Passes (CX : CXT) (X : Cx) (E : XK) : Prop := ∀ (pins : List (Addr × Obj)) (σ : St) (H : Hp) (s : Shared) (e : Value) (s' : Shared), Inv X pins σ H s → CX X.stack H s E e s' → X.xe e s'
section
variable {X : Cx} {CX : CXT} {k : Nat} {f C : Addr} {fd : FuncData} {ps : List Str} {sp : Sp} {dvs : List V} {ds : List Value} {E : XK} {x m : Str} {p pos apos : Pos} {e o : Expr} {es : List Expr} {ta : TE} {t : TA}
theorem run_fn {pins : List (Addr × Obj)} {σ : St} {H : Hp} {s : Shared} {Q : VK} {us : List Value} {vs : List V} (F : FnOk X.prog X.w X.K X.mg X.base CX k f fd ps sp) (hr : Room k X.A) (hb : Binds X.K fd ps ds) (hd : Vals dvs ds) (hx : Passes CX X E)
    (I : Inv X pins σ H s) (r : Vals vs us) (h : sp (vs ++ dvs) H Q E) : wpAny (model X.prog X.w) X.A (call (.ref f) us) (EP X pins σ Q) X.xe s := by
  have r2 : Vals (vs ++ dvs) (us ++ ds) := r.append hd
  have hl : (us ++ ds).length = ps.length := by rw [← r2.length]; exact F.len _ _ _ _ h
  refine wpAny_call (codeAny_mono (F.run X.A X.stack s H ⟨us, []⟩ (us ++ ds) (vs ++ dvs) Q E hr I.env0 (hb s us I.kIn hl) r2 h) fun r s' hq => ?_)
  cases r with
  | error e => exact hx pins σ H s e s' I hq
  | ok fl =>
    cases fl with
    | ret u => exact I.after hq
    | next => exact False.elim hq
    | brk => exact False.elim hq
    | cont => exact False.elim hq
theorem pe_call (F : FnOk X.prog X.w X.K X.mg X.base CX k f fd ps sp) (hr : Room k X.A) (hg : Gl X x) (hm : X.mg x = some (.ref f)) (hk : PySem.W.keepIn X.K (.ref f) = true) (hb : Binds X.K fd ps ds) (hd : Vals dvs ds) (hx : Passes CX X E)
    (ha : PA X (e :: es) t) (hdb : (x == ("__debug__" : Str)) = false := by decide) (he : starEach (e :: es) X.env = (false, eval e X.env) :: starEach es X.env := by rfl) (hpl : (backTo pos (starEach es X.env)).any (·.1) = false := by rfl) :
    PE X (.Call (.Name x p) (e :: es) [] pos) (tCall sp dvs E t) := by
  intro pins s σ H Q I h
  refine wpAny_Call_Name_kw (ld_glob I hg hm ?_ hdb)
  refine PySem.W.callWith_K (h₀ := X.base) I.ok.mod.kin hk (thn (ha pos pins s σ H _ I h) fun us s1 ⟨vs, H1, I1, r, q⟩ => ⟨I1.kIn, ?_⟩) he hpl
  exact run_fn F hr hb hd hx I1 r q
theorem pe_meth {pl : Sem Bool} (he : PE X o ta) (c : Cls X.K C) (hm : Meth X.K C m f) (F : FnOk X.prog X.w X.K X.mg X.base CX k f fd ps sp) (hr : Room k X.A) (hb : Binds X.K fd ps ds) (hd : Vals dvs ds) (hx : Passes CX X E) (ha : PA X (e :: es) t)
    (hst : starEach (e :: es) X.env = (false, eval e X.env) :: starEach es X.env := by rfl) (hpl : (backTo pos (starEach es X.env)).any (·.1) = false := by rfl)
    (ht : eval (.Call (.Attribute o m apos) (e :: es) [] pos) X.env = (do
      let ov ← eval o X.env
      standAt apos.atName
      let (f, first) ← holding [ov] (getMethod ov m pl)
      callWith pos f first (backTo pos (starEach (e :: es) X.env)) (backToKw pos (keywordEach [] X.env))) := by rfl) :
    PE X (.Call (.Attribute o m apos) (e :: es) [] pos) (tMeth C m sp dvs E ta t) := by
  intro pins s σ H Q I h
  refine PySem.W.methodCall_KW (pl := pl) (thn (he pins s σ H _ I h) fun u s1 ⟨x, H1, I1, rx, a, dx, fs, ex, ea, l, q⟩ => ?_) ht
  subst ex
  obtain rfl : u = Value.ref a := rx
  refine getmeth_ok I1 ea c hm l ?_
  refine PySem.W.callWith_K (first := [.ref a]) (h₀ := X.base) I.ok.mod.kin hm.kp (thn (ha pos pins s1 σ H1 _ I1 q) fun us s2 ⟨vs, H2, I2, r, q2⟩ => ⟨I2.kIn, ?_⟩) hst hpl
  exact run_fn (us := .ref a :: us) (vs := .ref a :: vs) F hr hb hd hx I2 (.cons rfl r) q2
theorem pe_meth0 {pl : Sem Bool} (he : PE X o ta) (c : Cls X.K C) (hm : Meth X.K C m f) (F : FnOk X.prog X.w X.K X.mg X.base CX k f fd ps sp) (hr : Room k X.A) (hb : Binds X.K fd ps ds) (hd : Vals dvs ds) (hx : Passes CX X E)
    (ht : eval (.Call (.Attribute o m apos) [] [] pos) X.env = (do
      let ov ← eval o X.env
      standAt apos.atName
      let (f, first) ← holding [ov] (getMethod ov m pl)
      callWith pos f first (backTo pos (starEach [] X.env)) (backToKw pos (keywordEach [] X.env))) := by rfl) :
    PE X (.Call (.Attribute o m apos) [] [] pos) (tMeth C m sp dvs E ta tNil) := by
  intro pins s σ H Q I h
  refine PySem.W.methodCall_KW (pl := pl) (thn (he pins s σ H _ I h) fun u s1 ⟨x, H1, I1, rx, a, dx, fs, ex, ea, l, q⟩ => ?_) ht
  subst ex
  obtain rfl : u = Value.ref a := rx
  refine getmeth_ok I1 ea c hm l ?_
  exact PySem.W.callWith_K0 (first := [.ref a]) I1.kIn hm.kp (run_fn (us := [.ref a]) (vs := [.ref a]) F hr hb hd hx I1 (.cons rfl .nil) q)
structure Mk (K : PySem.W.Frag) (C f : Addr) : Prop where
  makes : PySem.W.makesIn K C = true
  init : PySem.W.findIn K (.ref C) "__init__" = some (some (.ref f))
  fn : PySem.W.isFn K (.ref f) = true
  kp : PySem.W.keepIn K (.ref C) = true
theorem run_make {pins : List (Addr × Obj)} {σ : St} {H : Hp} {s : Shared} {Q : VK} {us : List Value} {vs : List V} (M : Mk X.K C f) (F : FnOk X.prog X.w X.K X.mg X.base CX k f fd ps sp) (hr : Room (k + 1) X.A) (hb : Binds X.K fd ps ds) (hd : Vals dvs ds)
    (hx : Passes CX X E) (I : Inv X pins σ H s) (r : Vals vs us)
    (h : ∀ x dx, H x = none → H dx = none → dx ≠ x → sp (.ref x :: (vs ++ dvs)) (upd (upd H dx (.own x)) x (.ins C dx [])) (fun v H2 => v = .non ∧ Q (.ref x) H2) E) :
    wpAny (model X.prog X.w) X.A (call (.ref C) us) (EP X pins σ Q) X.xe s := by
  have hq := h (s.heap.objs.size + 1) s.heap.objs.size (I.hok.fresh (Nat.le_succ _)) (I.hok.fresh (Nat.le_refl _)) (Nat.ne_of_lt (Nat.lt_succ_self _))
  have I2 := Inv.made (C := C) I
  have r2 : Vals (V.ref (s.heap.objs.size + 1) :: (vs ++ dvs)) (Value.ref (s.heap.objs.size + 1) :: (us ++ ds)) := .cons rfl (r.append hd)
  have hl : (Value.ref (s.heap.objs.size + 1) :: us ++ ds).length = ps.length := by
    have e := r2.length
    rw [F.len _ _ _ _ hq] at e
    exact e.symm
  refine wpAny_call (make_map (f := f) I.kIn M.makes M.init (beq_iff_eq.mp M.fn) (codeAny_mono (F.run _ X.stack _ _ ⟨Value.ref (s.heap.objs.size + 1) :: us, []⟩ (Value.ref (s.heap.objs.size + 1) :: (us ++ ds)) _ _ E (hr.make C us [])
    (I2.env0.make C us []) (hb _ (Value.ref (s.heap.objs.size + 1) :: us) I2.kIn hl) r2 hq) fun r s' hq' => ?_))
  cases r with
  | error e => exact hx pins σ _ _ e s' I2 hq'
  | ok fl =>
    cases fl with
    | ret u =>
      obtain ⟨v, H', I3, rv, ev, q3⟩ := I2.after hq'
      subst ev
      exact ⟨rv, ⟨V.ref (s.heap.objs.size + 1), H', I3, rfl, q3⟩⟩
    | next => exact False.elim hq'
    | brk => exact False.elim hq'
    | cont => exact False.elim hq'
theorem pe_make (M : Mk X.K C f) (F : FnOk X.prog X.w X.K X.mg X.base CX k f fd ps sp) (hr : Room (k + 1) X.A) (hg : Gl X x) (hm : X.mg x = some (.ref C)) (hb : Binds X.K fd ps ds) (hd : Vals dvs ds) (hx : Passes CX X E)
    (ha : PA X (e :: es) t) (hdb : (x == ("__debug__" : Str)) = false := by decide) (he : starEach (e :: es) X.env = (false, eval e X.env) :: starEach es X.env := by rfl) (hpl : (backTo pos (starEach es X.env)).any (·.1) = false := by rfl) :
    PE X (.Call (.Name x p) (e :: es) [] pos) (tMake C sp dvs E t) := by
  intro pins s σ H Q I h
  refine wpAny_Call_Name_kw (ld_glob I hg hm ?_ hdb)
  refine PySem.W.callWith_K (h₀ := X.base) I.ok.mod.kin M.kp (thn (ha pos pins s σ H _ I h) fun us s1 ⟨vs, H1, I1, r, q⟩ => ⟨I1.kIn, ?_⟩) he hpl
  exact run_make M F hr hb hd hx I1 r q
end
section
variable {X : Cx} {CX : CXT} {k : Nat} {f C : Addr} {fd : FuncData} {ps ks : List Str} {sp : Sp} {E : XK} {x m : Str} {p pos apos kpos : Pos} {e o : Expr} {es : List Expr} {kws : List Keyword} {te ta : TE} {t tk : TA} {nm : Option Str}
structure KBinds (K : PySem.W.Frag) (fd : FuncData) (ps ks : List Str) (g : List Value → List Value → List Value) (gV : List V → List V → List V) : Prop where
  to : ∀ (s : Shared) (us ws : List Value), K.In s.heap → (g us ws).length = ps.length → BindsTo s fd ⟨us, ks.zip ws⟩ (ps.zip (g us ws))
  rel : ∀ {vs : List V} {us : List Value} {zs : List V} {ws : List Value}, Vals vs us → Vals zs ws → Vals (gV vs zs) (g us ws)
variable {g : List Value → List Value → List Value} {gV : List V → List V → List V}
end
structure FnScope (N P : List Str) (sc : Scope) : Prop where
  kind : sc.kind = .function
  co : sc.isCoroutine = false
  gen : sc.isGenerator = false
  nd : N.Nodup
  pre : N.take P.length = P
  par : ∀ x ∈ P, sc.names.lookup x = some .local ∨ sc.names.lookup x = some .cell
  nofree : ∀ y ∈ sc.names, y.2 ≠ .free
theorem bindL_out {kindOf : Str → Option NameKind} {x : Str} : ∀ {binds : List (Str × Value)} {m : Str → Option Value}, (∀ v, (x, v) ∉ binds) → bindL kindOf binds m x = m x
  | [], _, _ => rfl
  | (n, v) :: r, m, h => by
    unfold bindL
    rw [bindL_out fun w hw => h w (List.mem_cons_of_mem _ hw)]
    split
    · have : x ≠ n := by rintro rfl; exact h v List.mem_cons_self
      simp [this]
    · rfl
theorem bindC_out {kindOf : Str → Option NameKind} {x : Str} : ∀ {binds : List (Str × Value)} {m : Str → Option Value}, (∀ v, (x, v) ∉ binds) → bindC kindOf binds m x = m x
  | [], _, _ => rfl
  | (n, v) :: r, m, h => by
    unfold bindC
    rw [bindC_out fun w hw => h w (List.mem_cons_of_mem _ hw)]
    split
    · rfl
    · have : x ≠ n := by rintro rfl; exact h v List.mem_cons_self
      simp [this]
theorem bindL_get {kindOf : Str → Option NameKind} {x : Str} {v : Value} : ∀ {P : List Str} {vs : List Value} {i : Nat} {m : Str → Option Value}, P.Nodup → P[i]? = some x → vs[i]? = some v → kindOf x = some .local →
    bindL kindOf (P.zip vs) m x = some v
  | [], _, _, _, _, h, _, _ => by simp at h
  | _ :: _, [], _, _, _, _, h, _ => by simp at h
  | p :: P, w :: vs, 0, m, nd, h1, h2, hk => by
    simp at h1 h2; subst h1; subst h2
    show bindL kindOf ((p, w) :: P.zip vs) m p = _
    unfold bindL
    rw [bindL_out fun v hv => (List.nodup_cons.mp nd).1 (List.of_mem_zip hv).1, if_pos hk]
    simp
  | p :: P, w :: vs, i + 1, m, nd, h1, h2, hk => by
    show bindL kindOf ((p, w) :: P.zip vs) m x = _
    unfold bindL
    exact bindL_get (i := i) (List.nodup_cons.mp nd).2 (by simpa using h1) (by simpa using h2) hk
theorem bindC_get {kindOf : Str → Option NameKind} {x : Str} {v : Value} : ∀ {P : List Str} {vs : List Value} {i : Nat} {m : Str → Option Value}, P.Nodup → P[i]? = some x → vs[i]? = some v → kindOf x ≠ some .local →
    bindC kindOf (P.zip vs) m x = some v
  | [], _, _, _, _, h, _, _ => by simp at h
  | _ :: _, [], _, _, _, _, h, _ => by simp at h
  | p :: P, w :: vs, 0, m, nd, h1, h2, hk => by
    simp at h1 h2; subst h1; subst h2
    show bindC kindOf ((p, w) :: P.zip vs) m p = _
    unfold bindC
    rw [bindC_out fun v hv => (List.nodup_cons.mp nd).1 (List.of_mem_zip hv).1, if_neg hk]
    simp
  | p :: P, w :: vs, i + 1, m, nd, h1, h2, hk => by
    show bindC kindOf ((p, w) :: P.zip vs) m x = _
    unfold bindC
    exact bindC_get (i := i) (List.nodup_cons.mp nd).2 (by simpa using h1) (by simpa using h2) hk
def start (N : List Str) (vs : List V) : St := vs.map some ++ List.replicate (N.length - vs.length) none
def cxOf (CX : CXT) (P : Program) (w : World) (K : PySem.W.Frag) (mg : Str → Option Value) (base : Heap) (N : List Str) (qual : Str) (scope : Scope) (f : Addr) (cd : Value) (A : Around) (outer : List Env) (s : Shared) (H : Hp) (E : XK) : Cx where
  prog := P
  w := w
  K := K
  mg := mg
  base := base
  A := A.deeper (envOfC qual scope s.heap.objs.size f cd)
  N := N
  s₀ := s
  H₀ := H
  env := envOfC qual scope s.heap.objs.size f cd
  outer := outer
  stack := envOfC qual scope s.heap.objs.size f cd :: outer
  ex := []
  calm := true
  fn := fun _ => true
  pn := []
  xe := fun e s' => wpAny (model P w) (A.deeper (envOfC qual scope s.heap.objs.size f cd)) (leaving (envOfC qual scope s.heap.objs.size f cd) e) (fun _ s'' => CX outer H s E e s'') (fun e' s'' => CX outer H s E e' s'') s'
theorem cell_has {sc : Scope} {n : Nat} {x : Str} (h : sc.names.lookup x = some .cell) : ∃ c, (cellsFrom n sc.names []).lookup x = some c := by
  have q := PySem.W.cellsFrom_some sc.names n [] (.inl h)
  exact Option.isSome_iff_exists.mp q
theorem inv_start {CX : CXT} {P : Program} {w : World} {K : PySem.W.Frag} {mg : Str → Option Value} {base : Heap} {N ps : List Str} {qual : Str} {scope : Scope} {f : Addr} {cd : Value} {A : Around} {outer : List Env} {s s1 : Shared} {H : Hp} {E : XK} {us : List Value} {vs : List V}
    (S : FnScope N ps scope) (hd : A.handled = none) (e0 : Env0 P w K mg base A outer s H) (hl : vs.length = ps.length) (r : Vals vs us)
    (x : InCallC s s.heap.objs.size (bindL (envOfC qual scope s.heap.objs.size f cd).kindOf (ps.zip us) fun _ => none) (cellsFrom (s.heap.objs.size + 1) scope.names []) (bindC (envOfC qual scope s.heap.objs.size f cd).kindOf (ps.zip us) fun _ => none) s1) :
    Inv (cxOf CX P w K mg base N qual scope f cd A outer s H E) [] (start N vs) H s1 := by
  have hpl : ps.length ≤ N.length := by have := congrArg List.length S.pre; rw [List.length_take] at this; omega
  obtain ⟨h1, tk, rfl, hk⟩ := x.done
  have noA : ∀ b : Addr, b ∉ (cxOf CX P w K mg base N qual scope f cd A outer s H E).ex := fun b z => absurd (show b ∈ ([] : List Addr) from z) (by simp)
  refine ⟨⟨e0.mod, S.kind, rfl, rfl, Nat.le_refl _, fun y z c h1 h2 => ?_, fun y hy => ?_, fun y c _ h => ?_, fun _ => hd, Around.frames_deeper e0.frames, .inr ⟨rfl, rfl⟩, fun b z => absurd z (noA b), e0.bs, e0.bsz, fun b _ _ => noA b, fun b z => absurd z (noA b), e0.funs, e0.frf⟩,
    rfl, e0.bare, Un.kept hk, ⟨_, x.toInCall.ns, fun i y v h1 h2 h3 => ?_⟩, fun y c h => ⟨_, x.cell y c h⟩, e0.hok.fresh (Nat.le_refl _), fun y c h => ?_, fun p hp => absurd (show p ∈ ([] : List (Addr × Obj)) from hp) (by simp), e0.hok.kept hk, ?_⟩
  · exact name_of_addr x.apart (PySem.mem_of_lookup h1) (PySem.mem_of_lookup h2)
  · have hy : scope.names.lookup y = some .cell ∨ scope.names.lookup y = some .free := hy
    rcases hy with hy | hy
    · exact cell_has hy
    · exact absurd rfl (S.nofree _ (PySem.mem_of_lookup hy))
  · exact Nat.le_of_lt (x.above y c (PySem.mem_of_lookup h))
  · have hi : i < vs.length := by
      unfold start at h2
      by_cases hi : i < vs.length
      · exact hi
      · rw [List.getElem?_append_right (by simpa using hi)] at h2
        rw [List.getElem?_replicate] at h2
        split at h2 <;> cases h2
    have ha : vs[i]? = some v := by
      unfold start at h2
      rw [List.getElem?_append_left (by simpa using hi), List.getElem?_map] at h2
      cases e : vs[i]? with
      | none => rw [e] at h2; cases h2
      | some a => rw [e] at h2; cases h2; rfl
    obtain ⟨u, hu, rv⟩ := r.get ha
    have hp : ps[i]? = some y := by
      rw [← S.pre, List.getElem?_take_of_lt (by omega)]; exact h1
    have ndP : ps.Nodup := by rw [← S.pre]; exact S.nd.sublist (List.take_sublist _ _)
    refine ⟨u, rv, ?_⟩
    rcases S.par y (List.mem_of_getElem? hp) with k | k
    · exact .inl ⟨k, bindL_get ndP hp hu k⟩
    · obtain ⟨c, e⟩ := cell_has (n := s.heap.objs.size + 1) k
      refine .inr ⟨.inl k, c, e, ?_⟩
      have q := x.cell y c e
      rw [bindC_get ndP hp hu (by show scope.names.lookup y ≠ _; rw [k]; decide)] at q
      exact q
  · exact e0.hok.fresh (Nat.le_of_lt (x.above y c (PySem.mem_of_lookup h)))
  · unfold start
    show _ = N.length
    rw [List.length_append, List.length_map, List.length_replicate]
    omega
theorem fn_of {CX : CXT} {P : Program} {w : World} {K : PySem.W.Frag} {mg : Str → Option Value} {base : Heap} {k : Nat} {f : Addr} {name qual : Str} {params : Arguments} {body : List Stmt} {scope : Scope} {dV kV doc pm cdv ct oc : Value} {an od : Option Addr}
    {osl : Array (Option Value)} {N ps : List Str} {sp : Sp} (lk : K.lookup f = some ⟨oc, od, .func (PySem.W.fnOf name qual params body scope dV kV doc pm an cdv ct), osl⟩) (hcd : PySem.W.codeIn K cdv qual = true) (S : FnScope N ps scope)
    (len : ∀ vs H Q E, sp vs H Q E → vs.length = ps.length)
    (hbody : ∀ (A : Around) (outer : List Env) (s : Shared) (H : Hp) (vs : List V) (Q : VK) (E : XK), Room k (A.deeper (envOfC qual scope s.heap.objs.size f cdv)) → sp vs H Q E →
      ∃ t, PSs (cxOf CX P w K mg base N qual scope f cdv A outer s H E) body t ∧ t { nx := fun _ H' => Q .non H', rt := Q } (start N vs) H) :
    FnOk P w K mg base CX (k + 1) f (PySem.W.fnOf name qual params body scope dV kV doc pm an cdv ct) ps sp := by
  refine ⟨len, fun A outer s H args us vs Q E hr e0 hb r hsp => ?_⟩
  have hl := len _ _ _ _ hsp
  have KX : K.In s.heap := e0.mod.kin.keeps fun b o e => (e0.bs b o e).1
  have lim : s.heap.NoLimit := e0.mod.nolimit.keeps fun b o e => (e0.bs b o e).1
  have hkind : ∀ y ∈ ps.zip us, scope.names.lookup y.1 = some .local ∨ (scope.names.lookup y.1 = some .cell ∧ ((cellsFrom (s.heap.objs.size + 1) scope.names []).lookup y.1).isSome = true) := fun ⟨n, v⟩ hy => by
    rcases S.par n (List.of_mem_zip hy).1 with q | q
    · exact .inl q
    · exact .inr ⟨q, PySem.W.cellsFrom_some _ _ _ (.inl q)⟩
  refine codeAny_call_function hr.depth (KX _ _ lk) rfl S.co S.gen rfl (PySem.W.codeRec_of KX hcd) (hb _ _ _ _ ?_)
  refine wpAny_newFunctionEnv_cells S.kind hkind fun env he s1 x => ?_
  subst he
  refine ⟨lim.keeps x.toInCall.keep, codeAny_func ?_⟩
  obtain ⟨t, ht, hq⟩ := hbody A outer s H vs Q E (hr.deeper _) hsp
  have I : Inv (cxOf CX P w K mg base N qual scope f cdv A outer s H E) [] (start N vs) H s1 := inv_start S hr.hd e0 hl r x
  refine wpAny_mono (ht [] s1 (start N vs) H _ I hq) (fun fl s' hs => ?_) fun e s' hs => hs
  have fin : ∀ {σ' : St} {H' : Hp} {v : V} {u : Value}, Inv (cxOf CX P w K mg base N qual scope f cdv A outer s H E) [] σ' H' s' → RelV v u → Q v H' → CE outer P w H s Q u s' :=
    fun {σ' H' v u} J rv q => ⟨v, H', J.os, J.bare, J.base, J.hok, rv, q⟩
  cases fl with
  | ret u =>
    obtain ⟨v, σ', H', J, rv, q⟩ := hs
    exact fin J rv q
  | next =>
    obtain ⟨σ', H', J, q⟩ := hs
    exact fin (v := V.non) (u := Value.none) J rfl q
  | brk =>
    obtain ⟨_, _, _, q⟩ := hs
    exact False.elim q
  | cont =>
    obtain ⟨_, _, _, q⟩ := hs
    exact False.elim q
end L2
namespace L2
open PySem PySem.Spec PyProof.Rows
section
variable {X : Cx} {x : Str} {p pos : Pos} {e : Expr} {es : List Expr} {t : TA} {id T : String} {r : List V → Hp → VK → Prop}
def tCB (r : List V → Hp → VK → Prop) (t : TA) : TE := fun σ H Q => t σ H fun vs H1 => r vs H1 Q
theorem pe_callB (hc : CallR X (.builtin id) r) (hg : Gl X x) (hm : X.mg x = none) (hv : bootBuiltins x = some (.builtin id)) (ha : PA X (e :: es) t) (hn : x ≠ "__name__" := by decide) (hdb : (x == ("__debug__" : Str)) = false := by decide)
    (he : starEach (e :: es) X.env = (false, eval e X.env) :: starEach es X.env := by rfl) (hpl : (backTo pos (starEach es X.env)).any (·.1) = false := by rfl) : PE X (.Call (.Name x p) (e :: es) [] pos) (tCB r t) := by
  intro pins s σ H Q I h
  refine wpAny_Call_Name_kw (ld_blt I hg hm hv ?_ hn hdb)
  exact PyProof.Rows.callWith_builtin1 (thn (ha pos pins s σ H _ I h) fun us s1 ⟨vs, H1, I1, r1, q1⟩ => hc pins s1 σ H1 vs us Q I1 r1 q1) he hpl
theorem pe_callTy (hc : CallR X (.type T) r) (hg : Gl X x) (hm : X.mg x = none) (hv : bootBuiltins x = some (.type T)) (ha : PA X (e :: es) t) (hn : x ≠ "__name__" := by decide) (hdb : (x == ("__debug__" : Str)) = false := by decide)
    (he : starEach (e :: es) X.env = (false, eval e X.env) :: starEach es X.env := by rfl) (hpl : (backTo pos (starEach es X.env)).any (·.1) = false := by rfl) : PE X (.Call (.Name x p) (e :: es) [] pos) (tCB r t) := by
  intro pins s σ H Q I h
  refine wpAny_Call_Name_kw (ld_blt I hg hm hv ?_ hn hdb)
  exact PyProof.Rows.callWith_type1 (thn (ha pos pins s σ H _ I h) fun us s1 ⟨vs, H1, I1, r1, q1⟩ => hc pins s1 σ H1 vs us Q I1 r1 q1) he hpl
end
end L2
namespace HT
open PySem PyProof.Rows
section
open PySem.SeqAt
open PySem.AutoSeq1 (wpAny_loadPart')
open PySem.MeetsSeq PySem.MeetsSeq2 PySem.MeetsSeq3
end
section
variable {prog : Program} {w : World} {A : Around} {E : Value → Shared → Prop} {s : Shared}
def sIx (n d : Nat) : Option Int → Nat
  | none => d
  | some v => if v < 0 then (v + (n : Int)).toNat else min v.toNat n
end
end HT
namespace L2
open PySem PySem.Spec PyProof.Rows
abbrev TO := St → Hp → (Option Int → Hp → Prop) → Prop
def PO (X : Cx) (e : Option Expr) (t : TO) : Prop :=
  ∀ (pins : List (Addr × Obj)) (s : Shared) (σ : St) (H : Hp) (Q : Option Int → Hp → Prop), Inv X pins σ H s → t σ H Q →
    wpAny (model X.prog X.w) X.A (evalPart e X.env) (fun u s' => ∃ o H', Inv X pins σ H' s' ∧ IsPart u o ∧ Q o H') X.xe s
def tPart (t : TE) : TO := fun σ H Q => t σ H fun x H1 => ∃ i, x = .int i ∧ Q (some i) H1
section
variable {X : Cx} {e : Expr} {te : TE} {lo hi : Option Expr} {tl th : TO} {pos p2 : Pos}
theorem po_some (h : PE X e te) : PO X (some e) (tPart te) := by
  intro pins s σ H Q I hw
  rw [evalPart_some]
  refine thn (h pins s σ H _ I hw) fun u s1 ⟨x, H1, I1, r1, q1⟩ => ?_
  obtain ⟨i, rfl, q⟩ := q1
  obtain ⟨t, rfl⟩ := r1
  exact ⟨some i, H1, I1, .int i t, q⟩
def SlR (X : Cx) (r : V → Option Int → Option Int → Hp → VK → Prop) : Prop :=
  ∀ (pins : List (Addr × Obj)) (s : Shared) (σ : St) (H : Hp) (x : V) (v vl vu : Value) (lo hi : Option Int) (sl : Addr) (Q : VK), Inv X pins σ H s → RelV x v → s.heap.IsSliceOf sl vl vu .none → IsPart vl lo → IsPart vu hi → r x lo hi H Q →
    ∃ T id, typeLookup (.type T) "__getitem__" = pure (some (.builtin id)) ∧ s.TypeIs v T ∧ wpAny (model X.prog X.w) X.A (getItem v (.ref sl)) (EP X pins σ Q) X.xe s
def tSl (r : V → Option Int → Option Int → Hp → VK → Prop) (te : TE) (tl th : TO) : TE := fun σ H Q => te σ H fun x H1 => tl σ H1 fun l H2 => th σ H2 fun u H3 => r x l u H3 Q
theorem pe_slice {r : V → Option Int → Option Int → Hp → VK → Prop} (hr : SlR X r) (he : PE X e te) (hl : PO X lo tl) (hu : PO X hi th) : PE X (.Subscript e (.Slice lo hi none p2) pos) (tSl r te tl th) := by
  intro pins s σ H Q I h
  refine Subscript_ (thn (he pins s σ H _ I h) fun v s1 ⟨x, H1, I1, r1, q1⟩ => ?_)
  refine wpAny_Slice (thn (hl pins s1 σ H1 _ I1 q1) fun vl s2 ⟨l, H2, I2, pl, q2⟩ => thn (hu pins s2 σ H2 _ I2 q2) fun vu s3 ⟨u, H3, I3, pu, q3⟩ => ?_)
  rw [evalPart_none]
  refine wpAny_pure ?_
  have I4 : Inv X pins σ H3 { s3 with heap := s3.heap.push { cls := .type "slice", data := .fields #[vl, vu, .none] } } := I3.kept (t' := s3.toks) fun b ob q => Heap.get?_push_of_some _ q
  obtain ⟨T, id, hT, ht, hg⟩ := hr pins { s3 with heap := s3.heap.push { cls := .type "slice", data := .fields #[vl, vu, .none] } } σ H3 x v vl vu l u s3.heap.objs.size Q I4 r1 (Heap.IsSliceOf.new ..) pl pu q3
  show wpAny (model X.prog X.w) X.A (subscriptTail e (.Slice lo hi none p2) v (.ref s3.heap.objs.size)) (EP X pins σ Q) X.xe { s3 with heap := s3.heap.push { cls := .type "slice", data := .fields #[vl, vu, .none] } }
  exact tail_any (ops := [.ref s3.heap.objs.size, v]) ht hT hg (by with_unfolding_all rfl)
def cutV (xs : List V) (lo hi : Option Int) : List V := (xs.drop (HT.sIx xs.length 0 lo)).take (HT.sIx xs.length xs.length hi - HT.sIx xs.length 0 lo)
theorem cutV_length (xs : List V) (lo hi : Option Int) : (cutV xs lo hi).length ≤ xs.length := by
  unfold cutV
  rw [List.length_take, List.length_drop]
  omega
end
end L2
namespace L2
open PySem PySem.Spec PyProof.Rows
def ixN (n : Nat) (i : Int) : Option Nat := if 0 ≤ i then (if i < n then some i.toNat else none) else if -(n : Int) ≤ i then some (i + n).toNat else none
def atI {α : Type} (xs : List α) (i : Int) : Option α := (ixN xs.length i).bind fun j => xs[j]?
theorem ixN_seq {n : Nat} {i : Int} {j : Nat} (h : ixN n i = some j) : seqIndex? i n = some j ∧ j < n ∧ -(n : Int) ≤ i ∧ i < n := by
  unfold ixN at h
  by_cases h0 : 0 ≤ i
  · rw [if_pos h0] at h
    by_cases h1 : i < n
    · rw [if_pos h1] at h
      have e : i.toNat = j := Option.some.inj h
      exact ⟨by rw [seqIndex_of h0 h1, e], by omega, by omega, h1⟩
    · rw [if_neg h1] at h; cases h
  · rw [if_neg h0] at h
    by_cases h1 : -(n : Int) ≤ i
    · rw [if_pos h1] at h
      have e : (i + n).toNat = j := Option.some.inj h
      exact ⟨by rw [seqIndex_neg (by omega) h1, e], by omega, h1, by omega⟩
    · rw [if_neg h1] at h; cases h
theorem atI_get {α : Type} {xs : List α} {i : Int} {v : α} (h : atI xs i = some v) : ∃ j, seqIndex? i xs.length = some j ∧ xs[j]? = some v ∧ j < xs.length ∧ -(xs.length : Int) ≤ i ∧ i < xs.length := by
  unfold atI at h
  cases e : ixN xs.length i with
  | none => rw [e] at h; cases h
  | some j =>
    rw [e] at h
    obtain ⟨h1, h2, h3, h4⟩ := ixN_seq e
    exact ⟨j, h1, h, h2, h3, h4⟩
theorem atI_nat {α : Type} {xs : List α} {j : Nat} {v : α} (h : xs[j]? = some v) : atI xs (j : Int) = some v := by
  have hj : j < xs.length := (List.getElem?_eq_some_iff.mp h).1
  have e : ixN xs.length (j : Int) = some j := by
    unfold ixN
    rw [if_pos (by omega), if_pos (by omega)]; simp
  unfold atI; rw [e]; exact h
def PlainIx (b : Expr) : Prop := ∀ o i, subscripted b false o i = operate [o, i] (getItem o i)
def IxR (X : Cx) (r : R2) : Prop :=
  ∀ (value slice : Expr) (pins : List (Addr × Obj)) (s : Shared) (σ : St) (H : Hp) (x y : V) (v u : Value) (Q : VK), Inv X pins σ H s → RelV x v → RelV y u → r x y H Q →
    subscripted slice false v u = operate [v, u] (getItem v u) → wpAny (model X.prog X.w) X.A (subscriptTail value slice v u) (EP X pins σ Q) X.xe s
def MtR (X : Cx) (id : String) (r : V → List V → Hp → VK → Prop) : Prop :=
  ∀ (pins : List (Addr × Obj)) (s : Shared) (σ : St) (H : Hp) (x : V) (xs : List V) (v : Value) (us : List Value) (Q : VK), Inv X pins σ H s → RelV x v → Vals xs us → r x xs H Q →
    wpAny (model X.prog X.w) X.A (call (.builtin id) (v :: us)) (EP X pins σ Q) X.xe s
section
variable {X : Cx} {a b : Expr} {ta tb : TE} {pos : Pos}
theorem pe_ix {r : R2} (hr : IxR X r) (ha : PE X a ta) (hb : PE X b tb) (hs : PlainIx b) : PE X (.Subscript a b pos) (tOp r ta tb) := by
  intro pins s σ H Q I h
  exact Subscript_ (binT ha hb I h fun v u s2 x y H2 I2 rx ry q => hr a b pins s2 σ H2 x y v u Q I2 rx ry q (hs _ _))
def rIxL (K : PySem.W.Frag) : R2 := fun x y H Q => ∃ p xs i v, x = .ref p ∧ y = .int i ∧ SqL K H p xs ∧ atI xs i = some v ∧ Q v H
def rIxT (K : PySem.W.Frag) : R2 := fun x y H Q => ∃ p xs i v, x = .ref p ∧ y = .int i ∧ SqT K H p xs ∧ atI xs i = some v ∧ Q v H
theorem ix_list : IxR X (rIxL X.K) := by
  intro value slice pins s σ H x y v u Q I rx ry h hs
  obtain ⟨p, xs, i, z, rfl, rfl, hq, he, q⟩ := h
  cases rx
  obtain ⟨t, rfl⟩ := ry
  obtain ⟨its, r, pl, hz⟩ := I.list hq
  obtain ⟨j, h1, h2, h3, h4, h5⟩ := atI_get he
  obtain ⟨w, ew, rw'⟩ := r.get h2
  have hl := r.length
  have hn := line63
  have fin : EP X pins σ Q w s := ⟨z, H, I, rw', q⟩
  by_cases h0 : 0 ≤ i
  · have hj : i.toNat = j := by
      rw [seqIndex_of h0 h5] at h1
      exact Option.some.inj h1
    exact item_listR pl.isList h0 (by omega) (by rw [hj]; simpa using ew) fin hs
  · have hj : (i + (its.toArray.size : Int)).toNat = j := by
      rw [seqIndex_neg (by omega) h4] at h1
      rw [List.size_toArray, ← hl]
      exact Option.some.inj h1
    exact subscriptTail_builtinR (x := w) pl.isList.typeIs slot_list_getitem.lookup
      (wpAny_getItem_list_neg (Q := fun r s' => r = w ∧ EP X pins σ Q r s') pl.isList (by omega) (by rw [List.size_toArray] <;> omega) (by omega) (by rw [hj]; simpa using ew) ⟨rfl, fin⟩) hs
theorem ix_tup : IxR X (rIxT X.K) := by
  intro value slice pins s σ H x y v u Q I rx ry h hs
  obtain ⟨p, xs, i, z, rfl, rfl, hq, he, q⟩ := h
  cases rx
  obtain ⟨t, rfl⟩ := ry
  obtain ⟨its, r, pl, hz⟩ := I.tuple hq
  obtain ⟨j, h1, h2, h3, h4, h5⟩ := atI_get he
  obtain ⟨w, ew, rw'⟩ := r.get h2
  have hl := r.length
  have hn := line63
  have fin : EP X pins σ Q w s := ⟨z, H, I, rw', q⟩
  exact subscriptTail_builtinR (x := w) pl.typeIs slot_tuple_getitem.lookup
    (getItem_tuple (j := j) (Q := fun r s' => r = w ∧ EP X pins σ Q r s') pl (by omega) (by omega) (by rw [List.size_toArray, ← hl]; exact h1) (by simpa using ew) ⟨rfl, fin⟩) hs
theorem slice_bounds (lo hi : Option Int) (n : Nat) : (sliceBounds lo hi none n).1 = ((HT.sIx n 0 lo : Nat) : Int) ∧ (sliceBounds lo hi none n).2.1 = ((HT.sIx n n hi : Nat) : Int) ∧ (sliceBounds lo hi none n).2.2 = 1 := by
  refine ⟨?_, ?_, rfl⟩
  · cases lo with
    | none => simp [sliceBounds, HT.sIx]
    | some i =>
      simp only [sliceBounds, HT.sIx, Option.getD_none, show (1 : Int) > 0 by decide, if_true]
      by_cases h : i < 0
      · simp only [h, if_true] <;> omega
      · simp only [h, if_false] <;> omega
  · cases hi with
    | none => simp [sliceBounds, HT.sIx]
    | some i =>
      simp only [sliceBounds, HT.sIx, Option.getD_none, show (1 : Int) > 0 by decide, if_true]
      by_cases h : i < 0
      · simp only [h, if_true] <;> omega
      · simp only [h, if_false] <;> omega
theorem slicePick_cut (its : List Value) (lo hi : Option Int) : slicePick its.toArray lo hi none = ((its.drop (HT.sIx its.length 0 lo)).take (HT.sIx its.length its.length hi - HT.sIx its.length 0 lo)).toArray := by
  obtain ⟨h1, h2, h3⟩ := slice_bounds lo hi its.toArray.size
  unfold slicePick
  rw [h1, h2, h3]
  simp only [sliceRange_one, pick_run, List.size_toArray] <;> rfl
def rSlL (K : PySem.W.Frag) : V → Option Int → Option Int → Hp → VK → Prop := fun x lo hi H Q => ∃ a xs, x = .ref a ∧ SqL K H a xs ∧ ∀ p, H p = none → Q (.ref p) (upd H p (.lst (cutV xs lo hi)))
theorem sl_list : SlR X (rSlL X.K) := by
  intro pins s σ H x v vl vu lo hi sl Q I rx hs pl pu h
  obtain ⟨a, xs, rfl, hx, q⟩ := h
  cases rx
  obtain ⟨its, r, ht, hz⟩ := I.list hx
  have hlen := r.length
  refine ⟨"list", _, slot_list_getitem.lookup, ht.isList.typeIs, ?_⟩
  refine wpAny_getItem_list_slice ht.isList hs pl pu .none (by simp) ?_ (by rw [List.size_toArray] <;> omega)
  rw [slicePick_cut, ← hlen]
  refine ⟨.ref s.heap.objs.size, _, I.laid (t' := s.toks) (o := .lst (cutV xs lo hi)) (fun b ob q => Heap.get?_push_of_some _ q) (Nat.le_refl _) ?_, rfl, q _ (I.hok.fresh (Nat.le_refl _))⟩
  exact ⟨Nat.le_trans (cutV_length xs lo hi) hz, _, 0, (r.drop (HT.sIx xs.length 0 lo)).take (HT.sIx xs.length xs.length hi - HT.sIx xs.length 0 lo), Heap.get?_push_size _ rfl⟩
def flatV : V → Bool
  | .non => true
  | .bl _ => true
  | .int _ => true
  | .str _ => true
  | _ => false
def eqV : V → V → Bool
  | .non, .non => true
  | .bl a, .bl b => a == b
  | .bl a, .int b => (if a then 1 else 0) == b
  | .int a, .bl b => a == (if b then 1 else 0)
  | .int a, .int b => a == b
  | .str a, .str b => a == b
  | _, _ => false
theorem eqAt_V {A : Around} {s : Shared} {y x : V} {u v : Value} (ry : RelV y u) (rx : RelV x v) (fy : flatV y = true) (fx : flatV x = true) : SeqAt.EqAt A s u v (eqV y x) := by
  cases y with
  | non =>
    cases ry
    cases x with
    | non => cases rx; exact SeqAt.EqAt.same _
    | bl b => cases rx; exact SeqAt.EqAt.none_bool b
    | int b => obtain ⟨t, rfl⟩ := rx; exact SeqAt.EqAt.none_int b t
    | str b => obtain ⟨t, rfl⟩ := rx; exact SeqAt.EqAt.none_str b t
    | _ => exact absurd (show false = true from fx) Bool.false_ne_true
  | bl a =>
    cases ry
    cases x with
    | non => cases rx; exact SeqAt.EqAt.bool_none a
    | bl b => cases rx; exact SeqAt.EqAt.bool_bool a b
    | int b => obtain ⟨t, rfl⟩ := rx; exact SeqAt.EqAt.bool_int a b t
    | str b => obtain ⟨t, rfl⟩ := rx; exact SeqAt.EqAt.bool_str a b t
    | _ => exact absurd (show false = true from fx) Bool.false_ne_true
  | int a =>
    obtain ⟨t', rfl⟩ := ry
    cases x with
    | non => cases rx; exact SeqAt.EqAt.int_none a t'
    | bl b => cases rx; exact SeqAt.EqAt.int_bool a t' b
    | int b => obtain ⟨t, rfl⟩ := rx; exact SeqAt.EqAt.int_int a t' b t
    | str b => obtain ⟨t, rfl⟩ := rx; exact SeqAt.EqAt.int_str a t' b t
    | _ => exact absurd (show false = true from fx) Bool.false_ne_true
  | str a =>
    obtain ⟨t', rfl⟩ := ry
    cases x with
    | non => cases rx; exact SeqAt.EqAt.str_none a t'
    | bl b => cases rx; exact SeqAt.EqAt.str_bool a t' b
    | int b => obtain ⟨t, rfl⟩ := rx; exact SeqAt.EqAt.str_int a t' b t
    | str b => obtain ⟨t, rfl⟩ := rx; exact SeqAt.EqAt.str_str a t' b t
    | _ => exact absurd (show false = true from fx) Bool.false_ne_true
  | _ => exact absurd (show false = true from fy) Bool.false_ne_true
def eqU (x : V) (u : Value) : Bool := match u with
  | .none => eqV .non x
  | .bool b => eqV (.bl b) x
  | .int i _ => eqV (.int i) x
  | .str z _ => eqV (.str z) x
  | _ => false
theorem eqU_of {x y : V} {u : Value} (r : RelV y u) (f : flatV y = true) : eqU x u = eqV y x := by
  cases y with
  | non => cases r; rfl
  | bl b => cases r; rfl
  | int i => obtain ⟨t, rfl⟩ := r; rfl
  | str z => obtain ⟨t, rfl⟩ := r; rfl
  | _ => exact absurd (show false = true from f) Bool.false_ne_true
theorem any_eqU {x : V} : ∀ {xs : List V} {us : List Value}, Vals xs us → xs.all flatV = true → us.any (eqU x) = xs.any fun y => eqV y x
  | _, _, .nil, _ => rfl
  | y :: xs, u :: us, .cons r t, f => by
    rw [List.all_cons, Bool.and_eq_true] at f
    rw [List.any_cons, List.any_cons, eqU_of r f.1, any_eqU t f.2]
theorem mem_eqAt {A : Around} {s : Shared} {x : V} {v : Value} (rx : RelV x v) (fx : flatV x = true) : ∀ {xs : List V} {us : List Value}, Vals xs us → xs.all flatV = true → ∀ u ∈ us, SeqAt.EqAt A s u v (eqU x u)
  | _, _, .nil, _ => fun u hu => by cases hu
  | y :: xs, u :: us, .cons r t, f => fun u' hu => by
    rw [List.all_cons, Bool.and_eq_true] at f
    rcases List.mem_cons.mp hu with rfl | hu
    · rw [eqU_of r f.1]; exact eqAt_V r rx f.1 fx
    · exact mem_eqAt rx fx t f.2 u' hu
def inV (x : V) (xs : List V) : Bool := xs.any fun y => eqV y x
def rIn (K : PySem.W.Frag) (neg : Bool) : R2 := fun x y H Q => ∃ p xs, y = .ref p ∧ (SqL K H p xs ∨ SqT K H p xs) ∧ flatV x = true ∧ xs.all flatV = true ∧ Q (.bl (if neg then !inV x xs else inV x xs)) H
theorem op_in_seq : OpR X (compareOp .In) (rIn X.K false) := by
  intro pins s σ H x y v u Q I rx ry h
  obtain ⟨p, xs, rfl, hq, fx, fs, q⟩ := h
  cases ry
  rcases hq with hq | hq
  · obtain ⟨its, r, pl, hz⟩ := I.list hq
    refine SeqAt.in_listAt (eqU x) pl.isList (fun w hw => mem_eqAt rx fx r fs w (by simpa using hw)) ⟨.bl _, H, I, rfl, ?_⟩
    rw [show its.toArray.any (eqU x) = its.any (eqU x) by simp, any_eqU r fs]
    exact q
  · obtain ⟨its, r, pl, hz⟩ := I.tuple hq
    refine SeqAt.in_tupleAt (eqU x) pl (fun w hw => mem_eqAt rx fx r fs w (by simpa using hw)) ⟨.bl _, H, I, rfl, ?_⟩
    rw [show its.toArray.any (eqU x) = its.any (eqU x) by simp, any_eqU r fs]
    exact q
theorem call_len_seq : CallR X (.builtin "len") (fun xs H Q => ∃ p ys, xs = [.ref p] ∧ (SqL X.K H p ys ∨ SqT X.K H p ys) ∧ Q (.int ys.length) H) := by
  intro pins s σ H xs us Q I r h
  obtain ⟨p, ys, rfl, hq, q⟩ := h
  obtain ⟨u, rfl, rx⟩ := vals1 r
  cases rx
  have hn := line63
  rcases hq with hq | hq
  · obtain ⟨its, r', pl, hz⟩ := I.list hq
    have hlen := r'.length
    exact Calls.call_len_list pl.isList (by simp only [List.size_toArray] <;> omega) ⟨.int ys.length, H, I.tok _, ⟨s.toks + 1, by rw [List.size_toArray, hlen]⟩, q⟩
  · obtain ⟨its, r', pl, hz⟩ := I.tuple hq
    have hlen := r'.length
    exact len_tuple pl (by simp only [List.size_toArray] <;> omega) ⟨.int ys.length, H, I.tok _, ⟨s.toks + 1, by rw [List.size_toArray, hlen]⟩, q⟩
theorem call_list_of : CallR X (.type "list") (fun xs H Q => ∃ p ys, xs = [.ref p] ∧ (SqL X.K H p ys ∨ SqT X.K H p ys) ∧ ∀ l, H l = none → Q (.ref l) (upd H l (.lst ys))) := by
  intro pins s σ H xs us Q I r h
  obtain ⟨p, ys, rfl, hq, q⟩ := h
  obtain ⟨u, rfl, rx⟩ := vals1 r
  cases rx
  have fin : ∀ (its : List Value), Vals ys its → ys.length ≤ sizeLine → ∀ (h' : Heap) (c' : Nat), (∀ b o', s.heap.get? b = some o' → h'.get? b = some o') →
      h'.get? s.heap.objs.size = some { cls := .type "list", dict := none, data := .seq its.toArray c', slots := #[] } → EP X pins σ Q (.ref s.heap.objs.size) { s with heap := h' } := fun its r' hz h' c' kp e =>
    ⟨.ref s.heap.objs.size, _, I.laid (t' := s.toks) kp (Nat.le_refl _) (show ObjOk X.prog X.w _ h' _ (.lst ys) from ⟨hz, its, c', r', e⟩), rfl, q _ (I.hok.fresh (Nat.le_refl _))⟩
  rcases hq with hq | hq
  · obtain ⟨its, r', pl, hz⟩ := I.list hq
    have hlen := r'.length
    obtain ⟨o, ho, hc, n, hd⟩ := pl.isList
    exact call_list_seq p (.inl rfl) ho hc hd (fun h' c' kp e => fin its r' hz h' c' kp e) (by simp only [List.size_toArray] <;> omega)
  · obtain ⟨its, r', pl, hz⟩ := I.tuple hq
    have hlen := r'.length
    obtain ⟨o, ho, hc, n, hd⟩ := pl
    exact call_list_seq p (.inr rfl) ho hc hd (fun h' c' kp e => fin its r' hz h' c' kp e) (by simp only [List.size_toArray] <;> omega)
def tyV (K : PySem.W.Frag) (T : String) (x : V) (H : Hp) : Prop := match x with
  | .str _ => T = "str"
  | .int _ => T = "int"
  | .ref p => (T = "list" ∧ ∃ xs, SqL K H p xs) ∨ (T = "tuple" ∧ ∃ o, K.lookup p = some o ∧ o.cls = .type "tuple" ∧ o.dict = none) ∨
      (T = "dict" ∧ ((∃ kvs, H p = some (.dK kvs)) ∨ ∃ kvs, H p = some (.dT kvs))) ∨ (T = "set" ∧ ∃ S n, H p = some (.set S n))
  | _ => False
theorem tyV_is {pins : List (Addr × Obj)} {σ : St} {H : Hp} {s : Shared} {T : String} {x : V} {v : Value} (I : Inv X pins σ H s) (r : RelV x v) (ty : tyV X.K T x H) :
    s.TypeIs v T ∧ ∀ a, v = .ref a → ∃ ob, s.heap.get? a = some ob ∧ ob.dict = none := by
  cases x with
  | str z =>
    obtain ⟨t, rfl⟩ := r
    cases (show T = "str" from ty)
    exact ⟨typeIs_str s z t, fun _ e => nomatch e⟩
  | int i =>
    obtain ⟨t, rfl⟩ := r
    cases (show T = "int" from ty)
    exact ⟨typeIs_int s i t, fun _ e => nomatch e⟩
  | ref p =>
    cases r
    rcases ty with ⟨rfl, xs, hq⟩ | ⟨rfl, o, hk, hc, hd⟩ | ⟨rfl, hk⟩ | ⟨rfl, S, n, hk⟩
    · obtain ⟨its, _, pl, _⟩ := I.list hq
      refine ⟨pl.isList.typeIs, fun a e => ?_⟩
      cases e
      obtain ⟨o, n, e, c, hd, _⟩ := pl
      exact ⟨o, e, hd⟩
    · refine ⟨⟨o, I.kIn p o hk, hc⟩, fun a e => ?_⟩
      cases e
      exact ⟨o, I.kIn _ o hk, hd⟩
    · have z : ∃ o, s.heap.get? p = some o ∧ o.ExactDict := by
        rcases hk with ⟨kvs, hk⟩ | ⟨kvs, hk⟩
        · obtain ⟨_, _, _, _, o, _, _, e, ex, _⟩ := I.hok p _ hk
          exact ⟨o, e, ex⟩
        · obtain ⟨_, _, _, _, o, _, _, e, ex, _⟩ := I.hok p _ hk
          exact ⟨o, e, ex⟩
      obtain ⟨o, e, ex⟩ := z
      refine ⟨⟨o, e, ex.1⟩, fun a e2 => ?_⟩
      cases e2
      exact ⟨o, e, ex.2.1⟩
    · obtain ⟨o, _, _, _, e, ex, _⟩ := I.hok p _ hk
      refine ⟨⟨o, e, ex.1⟩, fun a e2 => ?_⟩
      cases e2
      exact ⟨o, e, ex.2.1⟩
  | _ => exact False.elim ty
def tBM (K : PySem.W.Frag) (T : String) (r : V → List V → Hp → VK → Prop) (to : TE) (t : TA) : TE := fun σ H Q => to σ H fun x H1 => tyV K T x H1 ∧ t σ H1 fun xs H2 => r x xs H2 Q
variable {o e : Expr} {es : List Expr} {to : TE} {t : TA} {name : Str} {apos cpos : Pos} {T id : String} {r : V → List V → Hp → VK → Prop}
theorem pe_bm (pa : PlainAttrs T) (slot : Slot T name id) (hty : typeOf (.builtin id) = pure (.type "method_descriptor")) (hm : MtR X id r) (ho : PE X o to) (ha : PA X (e :: es) t)
    (hbase : attributeBase o name X.env (eval o X.env) = eval o X.env := by rfl)
    (hfew : ((backTo cpos (starEach (e :: es) X.env)).all (fun x => !x.1) && (backToKw cpos (keywordEach [] X.env)).all (fun x => x.1.isSome)
      && decide ((e :: es).length + ([] : List Keyword).length + (if ([] : List Keyword).isEmpty then 0 else 1) < 30)) = true := by rfl)
    (hline : (apos.endLine == cpos.line) = true := by rfl) (hs : starEach (e :: es) X.env = (false, eval e X.env) :: starEach es X.env := by rfl) (hplain : (backTo cpos (starEach es X.env)).any (·.1) = false := by rfl) :
    PE X (.Call (.Attribute o name apos) (e :: es) [] cpos) (tBM X.K T r to t) := by
  intro pins s σ H Q I h
  refine wpAny_Call_method_late hbase hfew hline rfl (thn (ho pins s σ H _ I h) fun v s1 ⟨x, H1, I1, r1, ty, q1⟩ => ?_)
  obtain ⟨h1, h2⟩ := tyV_is I1 r1 ty
  refine ⟨T, id, pa, slot, hty, h1, h2, ?_⟩
  have hA := ha cpos pins s1 σ H1 _ I1 q1
  rw [hs] at hA ⊢
  refine Calls.callWith_builtin (by show (false || (backTo cpos (starEach es X.env)).any (·.1)) = false; rw [hplain] <;> rfl) (Calls.evalArgs_plain ?_)
  exact thn hA fun us s2 ⟨vs, H2, I2, r2, q2⟩ => hm pins s2 σ H2 x vs v us Q I2 r1 r2 q2
/- xs.append(e), list.index on a module's tuple .. are MtR facts of 06m -/
end
end L2
namespace L2
open PySem PySem.Spec PyProof.Rows
def MtM (X : Cx) (id : String) (r : V → List V → Hp → VK → Prop) : Prop :=
  ∀ (pins : List (Addr × Obj)) (s : Shared) (σ : St) (H : Hp) (x : V) (xs : List V) (v : Value) (us : List Value) (Q : VK), Inv X pins σ H s → RelV x v → Vals xs us → r x xs H Q →
    wpAny (model X.prog X.w) X.A (call (.builtin id) (v :: us)) (EP X pins σ Q) X.xe s
theorem Vals.one : ∀ {x : V} {us : List Value}, Vals [x] us → ∃ u, us = [u] ∧ RelV x u
  | _, _, .cons r .nil => ⟨_, rfl, r⟩
theorem Vals.two : ∀ {x y : V} {us : List Value}, Vals [x, y] us → ∃ u v, us = [u, v] ∧ RelV x u ∧ RelV y v
  | _, _, _, .cons r (.cons q .nil) => ⟨_, _, rfl, r, q⟩
section
variable {X : Cx} {pins : List (Addr × Obj)} {σ : St} {H : Hp} {s : Shared} {l b : Addr} {xs ys zs : List V}
theorem Inv.lset {its its' : List Value} {n : Nat} {f : Array Value → Array Value} {t' : Nat} (I : Inv X pins σ H s) (hH : H l = some (.lst xs))
    (e : s.heap.get? l = some { cls := .type "list", data := .seq its.toArray n }) (hf : f its.toArray = its'.toArray) (hv : Vals ys its') (hz : ys.length ≤ sizeLine) :
    Inv X pins σ (upd H l (.lst ys)) { s with heap := s.heap.update l (Obj.mapSeq f), toks := t' } := by
  have q := PySem.IsL.update e f
  rw [hf] at q
  refine I.write (x := l) (e := l) (by rw [hH]; exact trivial) (.inl rfl) (fun b' u hb hu => (Heap.get?_update_other s.heap (Obj.mapSeq f) (Ne.symm hb)).trans hu) ⟨_, q⟩ ?_
  exact ⟨hz, its', _, hv, q⟩
theorem Inv.lnew {its : List Value} {t' : Nat} (I : Inv X pins σ H s) (hv : Vals ys its) (hz : ys.length ≤ sizeLine) :
    Inv X pins σ (upd H s.heap.objs.size (.lst ys)) { s with heap := s.heap.push { cls := .type "list", data := .seq its.toArray }, toks := t' } :=
  I.laid (fun _ _ q => Heap.get?_push_of_some _ q) (Nat.le_refl _) ⟨hz, its, 0, hv, Heap.get?_push_size _ rfl⟩
theorem Inv.fresh (I : Inv X pins σ H s) : H s.heap.objs.size = none := I.hok.fresh (Nat.le_refl _)
theorem Inv.lstM (I : Inv X pins σ H s) (hH : H l = some (.lst xs)) : xs.length ≤ sizeLine ∧ ∃ (its : List Value) (n : Nat), Vals xs its ∧ xs.length = its.length ∧ s.heap.get? l = some { cls := .type "list", data := .seq its.toArray n } := by
  obtain ⟨z, its, n, r, e⟩ := I.hok l _ hH
  exact ⟨z, its, n, r, r.length, e⟩
end
section
variable {X : Cx}
def rAppend : V → List V → Hp → VK → Prop := fun x vs H Q => ∃ l xs y, x = .ref l ∧ vs = [y] ∧ H l = some (.lst xs) ∧ xs.length < sizeLine ∧ Q .non (upd H l (.lst (xs ++ [y])))
theorem mt_append : MtM X "list.append" rAppend := by
  intro pins s σ H x vs v us Q I rx rv h
  obtain ⟨l, xs, y, rfl, rfl, hH, hz, q⟩ := h
  cases rx
  obtain ⟨u, rfl, ru⟩ := rv.one
  obtain ⟨z, its, n, r, hl, e⟩ := I.lstM hH
  refine call_meets F.slot_list_append ⟨_, e, rfl⟩ F.entry_list_append (F.args_list_append_2 _ _) (PySem.list_append l its.toArray n u (by rw [List.size_toArray]; omega)) ⟨e, ?_⟩
  refine ⟨.non, _, I.lset (its' := its ++ [u]) hH e (by simp) (r.append (.cons ru .nil)) ?_, rfl, q⟩
  rw [List.length_append, List.length_singleton]
  omega
def rCat : R2 := fun x y H Q => ∃ l b xs zs, x = .ref l ∧ y = .ref b ∧ H l = some (.lst xs) ∧ H b = some (.lst zs) ∧ xs.length + zs.length ≤ sizeLine ∧ ∀ p, H p = none → Q (.ref p) (upd H p (.lst (xs ++ zs)))
theorem op_cat : OpR X (binaryOp .Add) rCat := by
  intro pins s σ H x y v u Q I rx ry h
  obtain ⟨l, b, xs, zs, rfl, rfl, hH, hB, hz, q⟩ := h
  cases rx
  cases ry
  obtain ⟨z, its, n, r, hl, e⟩ := I.lstM hH
  obtain ⟨z2, its2, n2, r2, hl2, e2⟩ := I.lstM hB
  refine PySem.P.add_list e e2 ?_ (by rw [List.size_toArray, List.size_toArray]; omega)
  have ea : its.toArray ++ its2.toArray = (its ++ its2).toArray := by simp
  rw [ea]
  exact ⟨.ref _, _, I.lnew (t' := s.toks) (r.append r2) (by rw [List.length_append]; omega), rfl, q _ I.fresh⟩
end
section
variable {prog : Program} {w : World} {A : Around} {E : Value → Shared → Prop} {s : Shared}
set_option maxRecDepth 100000 in
end
section
variable {X : Cx}
end
end L2
namespace Att
open PySem PySem.W PySem.Calls PyProof.Rows
theorem ints_of_wellAll {P : Params} {h : Heap} : ∀ (ns : List Int) (vs : List Value), WellAll P h vs (ns.map WData.int) → IntsAre vs ns := by
  intro ns
  induction ns with
  | nil =>
    intro vs w
    rw [List.map_nil] at w
    cases w
    exact .nil
  | cons n ns ih =>
    intro vs w
    rw [List.map_cons] at w
    cases w with
    | cons a b =>
      cases a
      exact .cons _ _ (ih _ b)
theorem script_of {l : OpenLaw} {n : Nat} (hn : l.most = some n) {P : Params} {h : Heap} {args : List WData} {vals : List Value}
    (hpre : l.row.toRowW.claim.pre args = true) (hwl : WellAll P h vals args) :
    ∃ a vs ns, vals = [Value.ref a] ∧ args = [WData.list (ns.map WData.int)] ∧ h.get? a = some { cls := .type "list", data := .seq vs.toArray } ∧ IntsAre vs ns ∧ ns.length ≤ n := by
  have hsh : WShape.hasAll [] args [.list .int] = true := (pre_splitW hpre).1
  have hc : l.pre.holds [] { args := args } = true := (pre_splitW hpre).2
  obtain ⟨d, r, rfl, h1, h2⟩ := hasAllW_cons hsh
  obtain rfl := hasAllW_nil h2
  obtain ⟨xs, rfl, h3⟩ := hasW_list h1
  obtain ⟨ns, rfl⟩ := items_int h3
  have hlen : ns.length ≤ n := by
    unfold OpenLaw.pre at hc
    have h4 : (WTm.not (.lt (.lit (.int (n : Int))) (.len (.arg 0)))).holds [] { args := [.list (ns.map .int)] } = true := by
      have h4 := (holds_andW hc).1
      rw [hn] at h4
      exact h4
    have h5 := condW_of h4 (w_not (w_lt w_lit (w_len_list (w_arg rfl))))
    rw [List.length_map] at h5
    refine Nat.le_of_not_lt fun q => ?_
    have q' : (n : Int) < ((ns.length : Nat) : Int) := by omega
    first
      | (rw [decide_eq_true q'] at h5; exact absurd h5 (by decide))
      | (simp at h5; omega)
  cases hwl with
  | cons w1 w2 =>
    cases w2
    cases w1 with
    | list ho hall => exact ⟨_, _, ns, rfl, rfl, ho, ints_of_wellAll ns _ hall, hlen⟩
theorem post_true (l : OpenLaw) (args : List WData) : l.row.toRowW.claim.post args (.bool true) args = true :=
  postW_of (r := l.row.toRowW) (X := (true == true))
    (show WShape.has [] (.bool true) .bool = true by first | rfl | decide | simp [WShape.has, WShape.arms, WShape.armsAll])
    (show (WTm.eq .res (.lit (.bool true))).value [] { args := args, res := some (.bool true), after := args } = some (.bool (true == true)) from w_eq_bool (w_res rfl) w_lit) rfl
theorem attach_call {l : OpenLaw} {n : Nat} {q : Program} {loose : List Str} {XP : (Str → Option Value) → Heap → Prop} {YP : World → Heap → Prop} {d : DefRec}
    (hn : l.most = some n) (hdf : d.params.defaults = [])
    (call : ∀ (w : World) (s₀ s₁ : Shared) (mg mb : Str → Option Value) (fa : Addr) (o : Obj) (pm cd doc : Value) (a : Addr) (vs : List Value) (ns : List Int),
      Ground q loose [] XP w s₀ mg mb s₁.heap → YP w s₁.heap →
      s₁.heap.get? fa = some o → o.data = .func (docDef d.name d.params d.body d.scope pm cd doc) → s₁.heap.CodeRec cd d.name → mg d.name = some (.ref fa) →
      s₁.heap.get? a = some { cls := .type "list", data := .seq vs.toArray } → IntsAre vs ns → ns.length ≤ n → s₁.gens = #[] →
      codeAny (model l.prog w) callerA (.call (.ref fa) ⟨[.ref a], []⟩) (fun r s' => r = .ok (.ret (.bool true)) ∧ OldK s₁.heap s'.heap ∧ s'.os = s₁.os ∧ AllBare s'.gens) s₁) :
    WalkO q loose XP YP l.row.toRowW d [] (fun f vs => PySem.call f vs) := by
  intro w s₀ s₁ mg mb G Y fa o pm cd doc dV kV ho hd hcd hD hmg hg args vals as hpre hlay hrd hwl hlo
  obtain rfl : dV = .none := Dflts.none hD hdf
  obtain rfl : kV = .none := Dflts.noKw hD
  obtain ⟨a, vs, ns, rfl, rfl, hobj, hints, hlen⟩ := script_of hn hpre hwl
  refine enter_call (codeAny_mono (call w s₀ s₁ mg mb fa o pm cd doc a vs ns G Y ho (fd_plain hd) hcd hmg hobj hints hlen hg) fun r s' hq => ?_)
  obtain ⟨rfl, h2, h3, h4⟩ := hq
  exact ⟨.inl ⟨.bool true, .bool true, [], rfl, fun _ => rfl, .bool true, post_true l _, fun _ => ⟨List.Pairwise.nil, fun _ hm => (nomatch hm)⟩⟩, h2, h3, h4⟩
section
variable {prog : Program} {w : World} {A : Around} {E : Value → Shared → Prop} {s : Shared} {K : Frag}
end
end Att
namespace L2
open PySem PySem.Spec PyProof.Rows
theorem vals_ints : ∀ {vs : List Value} {ns : List Int}, IntsAre vs ns → Vals (ns.map V.int) vs
  | _, _, .nil => .nil
  | _, _, .cons n t h => .cons ⟨t, rfl⟩ (vals_ints h)
def Only (H : Hp) : Prop := ∀ b, H b = none ∨ ∃ o xs, H b = some (.frz o (.lst xs))
theorem law_call {P : Program} {w : World} {K : PySem.W.Frag} {mg mb : Str → Option Value} {CX : CXT} {k : Nat} {fa a : Addr} {fd : FuncData} {x : Str} {sp : Sp} {s₁ : Shared} {vs : List Value} {ns : List Int}
    (KX : K.In s₁.heap) (hns : s₁.heap.Ns mainGlobals mg) (hb : s₁.heap.Ns builtinsNs mb) (hbb : ∀ x : Str, x ≠ "__name__" → mb x = bootBuiltins x) (hlim : s₁.heap.NoLimit) (hg : s₁.gens = #[])
    (ha : s₁.heap.get? a = some { cls := .type "list", data := .seq vs.toArray }) (hi : IntsAre vs ns) (hl : ns.length ≤ sizeLine) (hr : Room k callerA)
    (F : ∀ base : Heap, K.In base → base.Ns mainGlobals mg → FnOk P w K mg base CX k fa fd [x] sp) (hbind : ∀ (s : Shared) (u : Value), BindsTo s fd ⟨[u], []⟩ [(x, u)])
    (hsp : ∀ H : Hp, Only H → SqL K H a (ns.map V.int) → sp [.ref a] H (fun v _ => v = .bl true) fun _ _ _ => False)
    (hCX : ∀ H e s', CX [] H s₁ (fun _ _ _ => False) e s' → False) :
    codeAny (model P w) callerA (.call (.ref fa) ⟨[.ref a], []⟩) (fun r s' => r = .ok (.ret (.bool true)) ∧ OldK s₁.heap s'.heap ∧ s'.os = s₁.os ∧ AllBare s'.gens) s₁ := by
  have rv := vals_ints hi
  have lenV := hi.length
  have core : ∀ H : Hp, Only H → SqL K H a (ns.map V.int) → HOk P w H s₁.heap → (∀ b, H b ≠ none → b = a) → (H a ≠ none → K.lookup a = none) →
      codeAny (model P w) callerA (.call (.ref fa) ⟨[.ref a], []⟩) (fun r s' => r = .ok (.ret (.bool true)) ∧ OldK s₁.heap s'.heap ∧ s'.os = s₁.os ∧ AllBare s'.gens) s₁ := by
    intro H hO hS hok hA hK
    have base_of : ∀ {b : Addr} {o : Obj}, s₁.heap.get? b = some o → H b = none → (hidT s₁.heap H).get? b = some o := fun e n => hidT_get e n
    have noA : ∀ {b : Addr} {o : Obj} {es : Array DictEntry} {ep : Nat}, s₁.heap.get? b = some o → o.data = .dict es ep → H b = none := fun {b o es ep} e d => by
      cases q : H b with
      | none => rfl
      | some u =>
        have e' : b = a := hA b (by rw [q]; simp)
        subst e'
        rw [ha] at e; cases e
        have d' : Data.seq vs.toArray _ = Data.dict es ep := d
        cases d'
    have nsK : ∀ {b : Addr} {m : Str → Option Value}, s₁.heap.Ns b m → (hidT s₁.heap H).Ns b m := fun {b m} ⟨o, es, ep, e, d, r⟩ => ⟨o, es, ep, base_of e (noA e d), d, r⟩
    have hKb : K.In (hidT s₁.heap H) := fun b o e => base_of (KX b o e) (by
      cases q : H b with
      | none => rfl
      | some u =>
        have e' : b = a := hA b (by rw [q]; simp)
        subst e'
        rw [hK (by rw [q]; simp)] at e; cases e)
    have hM : Mod K mg (hidT s₁.heap H) := ⟨hKb, nsK hns, ⟨mb, nsK hb, hbb⟩, let ⟨mc, h1, h2⟩ := hlim; ⟨mc, nsK h1, h2⟩⟩
    have e0 : Env0 P w K mg (hidT s₁.heap H) callerA [] s₁ H := ⟨rfl, hM, fun b o e => of_hidT e, Nat.le_of_eq (hidT_size _ _), trivial, fun b hb => absurd (show b ∈ ([] : List Addr) from hb) (by simp), hok, .of_eq hg⟩
    refine codeAny_mono ((F _ hKb (nsK hns)).run callerA [] s₁ H ⟨[.ref a], []⟩ [.ref a] [.ref a] _ _ hr e0 (hbind s₁ (.ref a)) (.cons rfl .nil) (hsp H hO hS)) fun r s' h => ?_
    cases r with
    | error e => exact (hCX H e s' h).elim
    | ok fl =>
      cases fl with
      | next => exact False.elim h
      | brk => exact False.elim h
      | cont => exact False.elim h
      | ret u =>
        obtain ⟨v, H', os, bare, un, hok', r', q⟩ := h
        have q' : v = .bl true := q
        subst q'
        obtain rfl : u = Value.bool true := r'
        refine ⟨rfl, OldK.of_keep fun b o e => ?_, os, bare⟩
        cases q : H b with
        | none => exact un.keep b o e q (by intro z; exact absurd (show b ∈ ([] : List Addr) from z) (by simp)) (by simp)
        | some u =>
          rcases hO b with z | ⟨ob, xs, z⟩
          · rw [q] at z; cases z
          · have z2 := un.frzs b ob _ z
            obtain ⟨e1, _⟩ := hok b _ z
            obtain ⟨e2, _⟩ := hok' b _ z2
            rw [e] at e1; cases e1
            exact e2
  cases hk : K.lookup a with
  | some o =>
    have e := KX a o hk
    rw [ha] at e
    cases e
    refine core (fun _ => none) (fun _ => .inl rfl) (.inr ⟨_, vs.toArray, _, hk, rfl, rfl, rfl, by rw [List.size_toArray, lenV]; exact hl, by simpa using rv⟩) (fun b u z => by have z' : (none : Option HO) = some u := z; cases z') (fun b z => absurd rfl z) fun z => absurd rfl z
  | none =>
    refine core (fun b => if b = a then some (.frz { cls := .type "list", data := .seq vs.toArray } (.lst (ns.map V.int))) else none) (fun b => ?_) (.inl (.inr ⟨{ cls := .type "list", data := .seq vs.toArray }, if_pos rfl⟩)) (fun b u z => ?_) (fun b z => ?_) fun _ => hk
    · by_cases hb : b = a
      · exact .inr ⟨_, _, if_pos hb⟩
      · exact .inl (if_neg hb)
    · by_cases hb : b = a
      · have z' := (if_pos hb).symm.trans z
        cases z'
        subst hb
        exact ⟨ha, by rw [List.length_map]; exact hl, vs, _, rv, ha⟩
      · have z' := (if_neg hb).symm.trans z
        cases z'
    · by_cases hb : b = a
      · exact hb
      · exact absurd (if_neg hb) z
end L2
namespace L2
open PySem PySem.Spec PyProof.Rows
theorem walk_of {l : PySem.W.OpenLaw} {n k : Nat} {q : Program} {loose : List Str} {XP : (Str → Option Value) → Heap → Prop} {YP : World → Heap → Prop} {d : DefRec} {K : Params → PySem.W.Frag} {CX : World → CXT} {sp : World → Sp} {x : Str}
    (hn : l.most = some n) (hn2 : n ≤ sizeLine) (hdf : d.params.defaults = []) (hr : Room k callerA)
    (hY : ∀ (w : World) (h : Heap), YP w h → (K w.params).In h)
    (F : ∀ (w : World) (mg : Str → Option Value) (fa : Addr) (h : Heap), (K w.params).In h → h.Ns mainGlobals mg → mg d.name = some (.ref fa) →
      ∃ fd : FuncData, (∀ (s : Shared) (u : Value), BindsTo s fd ⟨[u], []⟩ [(x, u)]) ∧
        ∀ base : Heap, (K w.params).In base → base.Ns mainGlobals mg → FnOk l.prog w (K w.params) mg base (CX w) k fa fd [x] (sp w))
    (hsp : ∀ (w : World) (H : Hp) (a : Addr) (ns : List Int), ns.length ≤ n → Only H → SqL (K w.params) H a (ns.map V.int) → sp w [.ref a] H (fun v _ => v = .bl true) fun _ _ _ => False)
    (hCX : ∀ (w : World) (H : Hp) (s : Shared) (e : Value) (s' : Shared), CX w [] H s (fun _ _ _ => False) e s' → False) :
    PySem.W.WalkO q loose XP YP l.row.toRowW d [] (fun f vs => PySem.call f vs) := by
  refine Att.attach_call hn hdf fun w s₀ s₁ mg mb fa o pm cd doc a vs ns G Y ho hd hcd hmg hobj hints hlen hg => ?_
  have KX := hY w _ Y
  obtain ⟨fd, hb, hF⟩ := F w mg fa _ KX G.T.g hmg
  exact law_call KX G.T.g G.T.b G.T.builtins G.T.nolimit hg hobj hints (Nat.le_trans hlen hn2) hr hF hb (fun H hO hS => hsp w H a ns hlen hO hS) fun H e s' => hCX w H s₁ e s'
end L2
/- THE LAST THEOREM (shape; LID, My.* are yours):
   My.Adr: a structure of the addresses that your layer names (classes, functions); My.Txt K t: a structure (Prop) of the equations over K;
   My.txt_mk : {K} {implicit addresses ..} (e1 : nsIn K mainGlobals "law" = some (some (.ref f))) (e2 : K.lookup f = some ⟨oc, od, .func (fnOf "law" "law" params body scope dV kV doc pm an cdv ct), sl⟩) (e3 : codeIn K cdv "law" = true) .. : ∃ t, My.Txt K t
set_option maxRecDepth 100000 in
set_option maxHeartbeats 0 in
theorem PySem.Challenge.cw_LID_holds : PySem.Challenge.rw_LID.Holds := by
  w_on; o_law; k_head; (case hw => w_witness2)
  k_fill
  refine L2.walk_of (l := PySem.Challenge.rw_LID) (n := 63) (k := 40) (x := "script") (CX := fun w => ..) (sp := fun _ => My.sp_law) rfl (by decide) rfl ⟨rfl, by decide, by decide⟩ (fun w h Y => PySem.W.kIn_of Y) ?F ?S ?C
  case F =>
    intro w mg fa h KX G hmg
    have T : ∃ t, My.Txt (L2.KOf KX) t := by
      dsimp only [L2.KOf]                          -- K must stand as «<heap const> w.params» for k_is
      refine' My.txt_mk ?e1 ?e2 ?e3 ..
      (case e1 => PySem.W.k_is)                    -- in the order: a name -> its address -> its object -> its parts
      (case e2 => PySem.W.k_is)
      ..
    obtain ⟨t, T⟩ := T
    have e0 := hmg.symm.trans (PySem.W.mg_of KX G T.law)
    cases e0                                       -- fa is the law's own address
    exact ⟨_, fun s u => .of_eq rfl, fun base kb nb => My.law_fn T kb nb⟩     -- if «.of_eq rfl» comes too early: refine' ⟨_, ?b, fun base kb nb => My.law_fn T kb nb⟩; exact fun s u => .of_eq rfl
  case S => exact fun w H a ns hl hO hS => ..
  case C => exact ..
(the tactic k_is has no namespace: write k_is) -/
namespace L2
open PySem PySem.Spec PyProof.Rows
abbrev CX0 : CXT := fun _ _ _ _ _ _ => False
abbrev E0 : XK := fun _ _ _ => False
theorem pass0 {X : Cx} : Passes CX0 X E0 := fun _ _ _ _ _ _ _ h => h.elim
structure Fun (K : PySem.W.Frag) (x qual : Str) (st : Stmt) (f : Addr) (fd : FuncData) : Prop where
  ex : ∃ (oc : Value) (od : Option Addr) (kV doc pm : Value) (an : Option Addr) (cdv ct : Value) (osl : Array (Option Value)),
    fd = PySem.W.fnOf x qual (defArgs st) (defBody st) (defScope st) .none kV doc pm an cdv ct ∧ K.lookup f = some ⟨oc, od, .func fd, osl⟩ ∧ PySem.W.codeIn K cdv qual = true
  kp : PySem.W.keepIn K (.ref f) = true
section
variable {P : Program} {w : World} {K : PySem.W.Frag} {mg : Str → Option Value} {base : Heap}
theorem Fun.ok {x qual : Str} {st : Stmt} {f : Addr} {fd : FuncData} {N ps : List Str} {k : Nat} {sp : Sp} (F : Fun K x qual st f fd) (S : FnScope N ps (defScope st)) (len : ∀ vs H Q E, sp vs H Q E → vs.length = ps.length)
    (hbody : ∀ (cdv : Value) (A : Around) (outer : List Env) (s : Shared) (H : Hp) (vs : List V) (Q : VK) (E : XK), Room k (A.deeper (envOfC qual (defScope st) s.heap.objs.size f cdv)) → sp vs H Q E →
      ∃ t, PSs (cxOf CX0 P w K mg base N qual (defScope st) f cdv A outer s H E).nox (defBody st) t ∧ t { nx := fun _ H' => Q .non H', rt := Q } (start N vs) H) : FnOk P w K mg base CX0 (k + 1) f fd ps sp := by
  obtain ⟨oc, od, kV, doc, pm, an, cdv, ct, osl, rfl, lk, hcd⟩ := F.ex
  refine fn_of lk hcd S len fun A outer s H vs Q E hr hsp => ?_
  obtain ⟨t, h, q⟩ := hbody cdv A outer s H vs Q E hr hsp
  exact ⟨t, h.nox, q⟩
theorem Fun.binds {x qual : Str} {st : Stmt} {f : Addr} {fd : FuncData} {ps : List Str} (F : Fun K x qual st f fd)
    (h : ∀ (kV doc pm : Value) (an : Option Addr) (cdv ct : Value) (us : List Value), us.length = ps.length → bindArgs (PySem.W.fnOf x qual (defArgs st) (defBody st) (defScope st) .none kV doc pm an cdv ct) ⟨us, []⟩ = pure (ps.zip us)) : Binds K fd ps [] := by
  obtain ⟨oc, od, kV, doc, pm, an, cdv, ct, osl, rfl, lk, hcd⟩ := F.ex
  exact .all (h kV doc pm an cdv ct)
theorem fun_mk {x qual : Str} {st : Stmt} {f : Addr} {oc : Value} {od an : Option Addr} {osl : Array (Option Value)} {kV doc pm cdv ct : Value} (l : K.lookup f = some ⟨oc, od, .func (PySem.W.fnOf x qual (defArgs st) (defBody st) (defScope st) .none kV doc pm an cdv ct), osl⟩)
    (c : PySem.W.codeIn K cdv qual = true) (k : PySem.W.keepIn K (.ref f) = true) : Fun K x qual st f (PySem.W.fnOf x qual (defArgs st) (defBody st) (defScope st) .none kV doc pm an cdv ct) := ⟨⟨oc, od, kV, doc, pm, an, cdv, ct, osl, rfl, l, c⟩, k⟩
end
section
variable {X : Cx}
theorem pv (i : Nat) {x : Str} {pos : Pos} (hN : X.N[i]? = some x := by rfl) (hv : Vis X.env.scope x := by first | exact Or.inl rfl | exact Or.inr (Or.inl rfl) | exact Or.inr (Or.inr rfl)) (hd : (x == ("__debug__" : Str)) = false := by decide)
    (hcd : (x == ("__classdict__" : Str)) = false := by decide) : PE X (.Name x pos) (tVar i) := pe_var hN hv hd hcd
end
theorem iteF {A B : Prop} (h : B) : if false = true then A else B := by
  rw [if_neg Bool.false_ne_true]
  exact h
theorem iteT {A B : Prop} (h : A) : if true = true then A else B := by
  rw [if_pos rfl]
  exact h
theorem ite2 {c A B : Prop} [Decidable c] (h1 : c → A) (h2 : ¬ c → B) : if c then A else B := by
  by_cases h : c
  · rw [if_pos h]
    exact h1 h
  · rw [if_neg h]
    exact h2 h
def Same (H H' : Hp) : Prop := ∀ b o, H b = some o → H' b = some o
theorem Same.refl (H : Hp) : Same H H := fun _ _ h => h
theorem Same.trans {H H1 H2 : Hp} (a : Same H H1) (b : Same H1 H2) : Same H H2 := fun c o h => b c o (a c o h)
theorem Same.free {H H' : Hp} (e : Same H H') {l : Addr} (h : H' l = Option.none) : H l = Option.none := by
  cases q : H l with
  | none => rfl
  | some o =>
    rw [e l o q] at h
    cases h
theorem Same.seq {K : PySem.W.Frag} {H H' : Hp} {a : Addr} {xs : List V} (e : Same H H') (h : SqL K H a xs) : SqL K H' a xs := by
  rcases h with (h | ⟨o, h⟩) | h
  · exact .inl (.inl (e _ _ h))
  · exact .inl (.inr ⟨o, e _ _ h⟩)
  · exact .inr h
end L2
end
section
open PySem PySem.W PyProof.Rows PySem.Calls PySem.Spec
open Builtin Builtin.ObjectAttr Builtin.Getset_descriptor
namespace EX
section
variable {prog : Program} {w : World} {A : Around} {E : Value → Shared → Prop} {s : Shared} {K : Frag} {x C D : Addr}
theorem ty {M : Model} {h : Heap} {ox : Obj} (hx : h.get? x = some ox) (hc : ox.cls = .ref C) : Looks M h (typeOf (.ref x)) (.ref C) := hc ▸ (Looks.ld hx).andThen .now
theorem class_get {R : Result → Shared → Prop} {tp : Value} (X : K.In s.heap) (L0 : Looks (model prog w) s.heap (typeOf (.ref x)) (.ref C)) (hm : mroIn K C (.type "object") = some true)
    (h : R (.ok (.ret (.ref C))) s) : codeAny (model prog w) A (.call (.builtin "getset_descriptor.__get__") ⟨[.builtin "object.__class__", .ref x, tp], []⟩) R s := by
  obtain ⟨hh, g, dr, t, os⟩ := s
  have L1 := looks_mroIn (M := model prog w) X hm
  refine codeAny_call_builtin KF.slot_gs.plain KF.entry_gs (KF.slot_gs.check _ _ _ _ _ _ _ _ KF.type_class (KF.args_gs _ _ _) ?_)
  unfold Builtin.«getset_descriptor.__get__» descrGet
  rw [dga_obj]
  refine wpAny_bind (wpAny_pure ?_)
  unfold descrGetter descrCheckInstance descrNameAndClass isInstance
  simp only [KF.owner_class]
  repeat lk
  refine ⟨Code.quiet_builtin _ (by decide +kernel), codeAny_builtin KF.entry_class ?_⟩
  unfold Builtin.«object.__class__» shownTypeOf
  repeat lk
  exact h
theorem look {M : Model} {h : Heap} {a g : Value} {name : Str} (X : K.In h) (ha : findIn K (.ref C) name = some (some a)) (hn : specialIn K a "__get__" = some (some g)) (htk : takesIn K a = some true) :
    Looks M h (Builtin.ObjectAttr.find (.ref x) (.ref C) name) (.bind g a) :=
  (looks_findIn X ha).andThen ((looks_specialIn X hn).andThen ((show Looks M h (Builtin.ObjectAttr.dataDescriptor? (some a) (some g)) (some (g, a)) from (looks_takesIn X htk).andThen .now).andThen (Looks.tag .now)))
theorem check_ga {M : Model} {nameV : Value} {Q : Unit → Shared → Prop} (X : K.In s.heap) (L0 : Looks M s.heap (typeOf (.ref x)) (.ref C)) (hm : mroIn K C (.type "BaseException") = some true) (hq : Q () s) :
    wpAny M A (checkBuiltinCall "BaseException.__getattribute__" ⟨[.ref x, nameV], []⟩) Q E s := by
  obtain ⟨hh, g, dr, t, os⟩ := s
  have L1 := looks_mroIn (M := M) X hm
  have hk : builtinKind "BaseException.__getattribute__" = some .slot := by decide +kernel
  have hsplit : splitId "BaseException.__getattribute__" = some ("BaseException", "__getattribute__") := by decide +kernel
  have ha := F.args_bexc_ga (.ref x) nameV
  simp only [checkBuiltinCall, hk, hsplit]
  refine wpAny_bind ?_
  unfold isInstance
  repeat (first | lk | wp_step)
  exact hq
theorem ga_entry {g a : Value} {tk : Tok} {name : Str} {Q : Fin → Shared → Prop} (L0 : Looks (model prog w) s.heap (typeOf (.ref x)) (.ref C)) (Lf : Looks (model prog w) s.heap (find (.ref x) (.ref C) name) (.bind g a))
    (h : wpAny (model prog w) A (call g [a, .ref x, .ref C]) (fun v s' => Q (.done (.ret v)) s') E s) :
    wpAny (model prog w) A (Builtin.«object.__getattribute__» ⟨[.ref x, .str name tk], []⟩) Q E s := by
  obtain ⟨hh, gg, dr, t, os⟩ := s
  refine wpAny_bind (wpAny_pure (a := (Value.ref x, [Value.str name tk])) ?_)
  refine wpAny_bind (wpAny_pure (a := name) ?_)
  refine wpAny_bind (L0.at ?_)
  refine wpAny_bind (Lf.at ?_)
  show wpAny _ _ (holding [a] (call g [a, .ref x, .ref C]) >>= ret) _ _ _
  exact wpAny_bind (wpAny_holding (wpAny_mono h (fun v s' z => wpAny_pure z) fun _ _ z => z))
theorem class_attr {Q : Option Value → Shared → Prop} (X : K.In s.heap) (L0 : Looks (model prog w) s.heap (typeOf (.ref x)) (.ref C))
    (hga : findIn K (.ref C) "__getattribute__" = some (some (.builtin "BaseException.__getattribute__"))) (hk : findIn K (.ref C) "__getattr__" = some none)
    (ha : findIn K (.ref C) "__class__" = some (some (.builtin "object.__class__"))) (hn : specialIn K (.builtin "object.__class__") "__get__" = some (some (.builtin "getset_descriptor.__get__")))
    (htk : takesIn K (.builtin "object.__class__") = some true) (hm : mroIn K C (.type "object") = some true) (hb : mroIn K C (.type "BaseException") = some true)
    (h : Q (some (.ref C)) { s with toks := s.toks + 1 }) : wpAny (model prog w) A (getAttr? (.ref x) "__class__") Q E s := by
  obtain ⟨hh, g, d, t, os⟩ := s
  have L1 := looks_findIn (M := model prog w) X hga
  have L2 := looks_findIn (M := model prog w) X hk
  have Lf := look (M := model prog w) (x := x) X ha hn htk
  have hx2 : (Value.builtin "BaseException.__getattribute__" == Value.builtin "object.__getattribute__") = false := by decide +kernel
  unfold getAttr? getAttrBy? getAttrBy
  refine wpAny_bind (wpAny_mkText (wpAny_bind (wpAny_attempt (wpAny_holding (wpAny_bind (L0.at (wpAny_bind (L1.at ?_))))))))
  dsimp only
  rw [if_neg (by rw [hx2, Bool.and_false]; exact Bool.false_ne_true)]
  unfold getAttrByItsOwn hookBefore
  refine wpAny_bind (L2.at ?_)
  refine wpAny_bind (wpAny_attempt (wpAny_holding ?_))
  unfold callGetattribute boundAndCalled
  rw [if_neg (by decide)]
  rw [PySem.F.attr_ValueError.ga.bind (.ref x)]
  refine wpAny_bind (wpAny_pure (wpAny_call ?_))
  refine codeAny_call_builtin PySem.F.attr_ValueError.ga.plain F.entry_bexc_ga (check_ga X L0 hb ?_)
  refine ga_entry L0 Lf ?_
  refine wpAny_call (class_get X L0 hm ?_)
  exact handed_on rfl (wpAny_pure h)
theorem nested {c : Value} {dep : Int} {tk : Tok} {Q : Fin → Shared → Prop} (X : K.In s.heap) (L0 : Looks (model prog w) s.heap (typeOf (.ref x)) (.ref D))
    (hga : findIn K (.ref D) "__getattribute__" = some (some (.builtin "BaseException.__getattribute__"))) (hk : findIn K (.ref D) "__getattr__" = some none)
    (ha : findIn K (.ref D) "__class__" = some (some (.builtin "object.__class__"))) (hn : specialIn K (.builtin "object.__class__") "__get__" = some (some (.builtin "getset_descriptor.__get__")))
    (htk : takesIn K (.builtin "object.__class__") = some true) (hm : mroIn K D (.type "object") = some true) (hb : mroIn K D (.type "BaseException") = some true)
    (hty : Looks (model prog w) s.heap (typeOf c) (.type "type")) (his : Looks (model prog w) s.heap (isType c) true) (hisD : Looks (model prog w) s.heap (isType (.ref D)) true)
    (hne : (Value.ref D == c) = false) (hsub : Looks (model prog w) s.heap (isSubtype (.ref D) c) false) (h : Q (.done (.ret (.bool false))) { s with toks := s.toks + 1 }) :
    wpAny (model prog w) A (Builtin.«isinstance.nested» ⟨[.ref x, c, .int dep tk], []⟩) Q E s := by
  obtain ⟨h0, g, d, tt, os⟩ := s
  have LI : Looks (model prog w) h0 (isInstance (.ref x) c) false := L0.andThen hsub
  unfold Builtin.«isinstance.nested»
  refine wpAny_bind (L0.at ?_)
  rw [if_neg (fun q => by rw [hne] at q; exact Bool.noConfusion q)]
  refine wpAny_bind (hty.at ?_)
  rw [if_pos (by decide)]
  k_delta "plainIsInstance"
  refine wpAny_bind (wpAny_bind (his.at ?_))
  simp only [Bool.not_true, Bool.false_eq_true, if_false]
  refine wpAny_bind (LI.at ?_)
  simp only [Bool.false_eq_true, if_false]
  refine wpAny_bind (class_attr X L0 hga hk ha hn htk hm hb ?_)
  refine wpAny_bind (hisD.at ?_)
  simp only [Bool.not_true, Bool.false_eq_true, if_false]
  refine wpAny_bind (wpAny_rule ?_)
  refine hsub.at ?_
  first
    | exact wpAny_pure h
    | exact wpAny_pure (wpAny_pure h)
    | exact wpAny_bind (wpAny_pure (wpAny_pure h))
theorem isType_of {M : Model} {h : Heap} (X : K.In h) (e : (clsIn K C).isSome = true) : Looks M h (isType (.ref C)) true := by
  obtain ⟨cd, hc⟩ := Option.isSome_iff_exists.mp e
  unfold clsIn at hc
  split at hc
  · rename_i c' d' cd' sl' ho
    intro A' Q' E' s' k q
    unfold isType loadHead
    exact wpAny_bind (wpAny_loadPart (k _ _ (X _ _ ho)) (wpAny_pure q))
  · cases hc
theorem nested_yes {c : Value} {dep : Int} {tk : Tok} {Q : Fin → Shared → Prop} (L0 : Looks (model prog w) s.heap (typeOf (.ref x)) (.ref D))
    (hty : Looks (model prog w) s.heap (typeOf c) (.type "type")) (his : Looks (model prog w) s.heap (isType c) true)
    (hsub : Looks (model prog w) s.heap (isSubtype (.ref D) c) true) (h : Q (.done (.ret (.bool true))) s) :
    wpAny (model prog w) A (Builtin.«isinstance.nested» ⟨[.ref x, c, .int dep tk], []⟩) Q E s := by
  obtain ⟨h0, g, d, tt, os⟩ := s
  have LI : Looks (model prog w) h0 (isInstance (.ref x) c) true := L0.andThen hsub
  unfold Builtin.«isinstance.nested»
  refine wpAny_bind (L0.at ?_)
  by_cases hq : (Value.ref D == c) = true
  · rw [if_pos hq]
    exact wpAny_bind (wpAny_rule (wpAny_bind (wpAny_pure (wpAny_pure h))))
  · rw [if_neg hq]
    refine wpAny_bind (hty.at ?_)
    rw [if_pos (by decide)]
    k_delta "plainIsInstance"
    refine wpAny_bind (wpAny_bind (his.at ?_))
    simp only [Bool.not_true, Bool.false_eq_true, if_false]
    refine wpAny_bind (LI.at ?_)
    simp only [if_true]
    first
      | exact wpAny_pure (wpAny_bind (wpAny_pure (wpAny_pure h)))
      | exact wpAny_pure (wpAny_pure h)
      | exact wpAny_bind (wpAny_pure (wpAny_pure h))
structure Cls (K : Frag) (D : Addr) : Prop where
  ga : findIn K (.ref D) "__getattribute__" = some (some (.builtin "BaseException.__getattribute__"))
  noHook : findIn K (.ref D) "__getattr__" = some none
  kind : findIn K (.ref D) "__class__" = some (some (.builtin "object.__class__"))
  get : specialIn K (.builtin "object.__class__") "__get__" = some (some (.builtin "getset_descriptor.__get__"))
  takes : takesIn K (.builtin "object.__class__") = some true
  obj : mroIn K D (.type "object") = some true
  exc : mroIn K D (.type "BaseException") = some true
theorem Cls.isCls (c : Cls K D) : (clsIn K D).isSome = true := by
  obtain ⟨cd, e, _⟩ := Option.bind_eq_some_iff.mp c.obj
  rw [e]; rfl
variable {ox : Obj} {Q : Value → Shared → Prop} {h₀ : Heap} {L : Addr} {news : List (Addr × Obj)} {T : String}
theorem call_not (X : K.In s.heap) (hx : s.heap.get? x = some ox) (hc : ox.cls = .ref D) (k : Cls K D) (e : kin_not K D C = true) (h : Q (.bool false) { s with toks := s.toks + 1 }) :
    wpAny (model prog w) A (call (.builtin "isinstance") [.ref x, .ref C]) Q E s := by
  unfold kin_not at e
  simp only [Bool.and_eq_true, beq_iff_eq, decide_eq_true_eq] at e
  obtain ⟨⟨⟨e9, e10⟩, e11⟩, e12⟩ := e
  exact call_isinstance (S := fun _ R s => (K.In s.heap ∧ s.heap.get? x = some ox) ∧ R (.ok (.ret (.bool false))) { s with toks := s.toks + 1 })
    (fun _ _ _ _ _ hs => isinstance_outer (nested hs.1.1 (ty hs.1.2 hc) k.ga k.noHook k.kind k.get k.takes k.obj k.exc (looks_typeIn hs.1.1 e11) (isType_of hs.1.1 e10) (isType_of hs.1.1 k.isCls)
      (Bool.eq_false_iff.mpr fun q => e9 (Value.ref.inj (beq_iff_eq.mp q))) (looks_subIn hs.1.1 e12) hs.2) (by intro q; cases q)) ⟨⟨X, hx⟩, h⟩
theorem call_yes (X : K.In s.heap) (hx : s.heap.get? x = some ox) (hc : ox.cls = .ref D) (_k : Cls K D) (e1 : typeIn K (.ref C) = some (.type "type")) (e2 : mroIn K C (.type "object") = some true)
    (e3 : subIn K (.ref D) (.ref C) = some true) (h : Q (.bool true) s) : wpAny (model prog w) A (call (.builtin "isinstance") [.ref x, .ref C]) Q E s :=
  call_isinstance (S := fun _ R s => (K.In s.heap ∧ s.heap.get? x = some ox) ∧ R (.ok (.ret (.bool true))) s)
    (fun _ _ _ _ _ hs => isinstance_outer (nested_yes (ty hs.1.2 hc) (looks_typeIn hs.1.1 e1) (isType_of hs.1.1 (by obtain ⟨cd, e, _⟩ := Option.bind_eq_some_iff.mp e2; rw [e]; rfl)) (looks_subIn hs.1.1 e3) hs.2)
      (by intro q; cases q)) ⟨⟨X, hx⟩, h⟩
theorem call_yesT (X : K.In s.heap) (hx : s.heap.get? x = some ox) (hc : ox.cls = .ref D) (_k : Cls K D) (e1 : typeOf (.type T) = pure (.type "type"))
    (e3 : subIn K (.ref D) (.type T) = some true) (h : Q (.bool true) s) : wpAny (model prog w) A (call (.builtin "isinstance") [.ref x, .type T]) Q E s :=
  call_isinstance (S := fun _ R s => (K.In s.heap ∧ s.heap.get? x = some ox) ∧ R (.ok (.ret (.bool true))) s)
    (fun _ _ _ _ _ hs => isinstance_outer (nested_yes (ty hs.1.2 hc) (Looks.of_pure e1) (Looks.of_pure rfl) (looks_subIn hs.1.1 e3) hs.2)
      (by intro q; cases q)) ⟨⟨X, hx⟩, h⟩
end
end EX
end
section
namespace L2
open PySem
abbrev xo (C t : Addr) (od : Option Addr) : Obj := { cls := .ref C, dict := od, data := .fields #[.ref t, .none, .none, .none, .bool false, .none] }
section
variable {prog : Program} {w : World} {A : Around} {E : Value → Shared → Prop} {h : Heap} {g : Array GenState} {d : Drawn} {tk : Nat} {os : OsState}
variable {nm q : Str} {C N fI : Addr} {bs bm bmB : List Value} {hdct : Bool} {sn : List Str} {sub : List Value} {ab : Bool} {col : Option Bool} {dd : Option Addr} {k0 k1 k2 k3 k5 : Option Value} {B newId initId : String}
  {mN : Str → Option Value} {rest : List Value} {oI : Obj}
theorem tcall_init (F : ExcBaseFacts B newId initId bmB) (T : OwnTail h bmB bm) {Q : Fin → Shared → Prop}
    (hC : h.get? C = some (excClassObj nm q C N bs bm hdct sn sub ab col dd k0 k1 k2 k3 k5 newId))
    (hn : h.Ns N mN) (hi : mN "__init__" = some (.ref fI)) (hfI : h.get? fI = some oI) (hfc : oI.cls = .type "function")
    (hq : ∀ h' e, Heap.MadeExcOf h h' e (.ref C) rest → wpAny (model prog w) A (call (.ref fI) (.ref e :: rest)) (fun r s' => r = .none ∧ Q (.done (.ret (.ref e))) s') E ⟨h', g, d, tk, os⟩)
    (hrest : rest.length ≤ sizeLine) : wpAny (model prog w) A (Builtin.«type.__call__» ⟨.ref C :: rest, []⟩) Q E ⟨h, g, d, tk, os⟩ := by
  repeat (first
    | with_reducible refine wpAny_loadPart_at hC ?_
    | with_reducible refine wpAny_madeBy_exc hC ?_
    | wp_step)
  refine codeAny_call_builtin_code (Code.quiet_builtin _ F.quiet) (wpAny_check_new_subT F T hC (codeAny_exc_new_subT F T hC ?_ hrest))
  show wpAny _ _ _ _ _ _
  let tu : Obj := { cls := .type "tuple", data := .seq rest.toArray }
  let h2 : Heap := (h.push tu).push (xo C h.objs.size none)
  have up : ∀ b o, h.get? b = some o → h2.get? b = some o := fun b o z => Heap.get?_push_of_some _ (Heap.get?_push_of_some _ z)
  have hget : h2.get? (h.objs.size + 1) = some (xo C h.objs.size none) := by heap_get
  have hC2 := up _ _ hC
  have hn2 : h2.Ns N mN := by
    obtain ⟨o, es, ep, z, r⟩ := hn
    exact ⟨o, es, ep, up _ _ z, r⟩
  have T2 := T.keeps (h' := h2) up
  have hcC : (Value.ref C :: bm).contains (.ref C) = true := by simp
  show wpAny _ _ _ _ _ ⟨h2, g, d, tk, os⟩
  unfold isInstance
  repeat (first
    | with_reducible refine wpAny_loadPart_at hget ?_
    | (with_reducible refine wpAny_isSubtype_exc hC2 ?_; rw [hcC])
    | wp_step)
  show wpAny _ _ (typeLookup (.ref C) _) _ _ _
  refine wpAny_typeLookup_tail hC2 hn2 T2 F.mroIs F.init.lookup ?_
  rw [hi]
  refine wpAny_holding (wpAny_bind ?_)
  unfold bindSpecial
  refine wpAny_bind (wpAny_typeOf (T := "function") ⟨_, up _ _ hfI, hfc⟩ ?_)
  rw [if_pos (by decide)]
  have M : Heap.MadeExcOf h h2 (h.objs.size + 1) (.ref C) rest := by
    refine ⟨up, Heap.get?_none_of_le (Nat.le_succ _), h.objs.size, hget, Heap.get?_none_of_le (Nat.le_refl _), ?_⟩
    exact Heap.get?_push_of_some _ (Heap.get?_push_at rfl rfl)
  refine wpAny_pure (wpAny_bind (wpAny_mono (hq _ _ M) (fun r s' hr => ?_) fun _ _ z => z))
  obtain ⟨rfl, hQ⟩ := hr
  wp_walk
  exact hQ
theorem call_init (F : ExcBaseFacts B newId initId bmB) (T : OwnTail h bmB bm) {Q : Value → Shared → Prop}
    (hC : h.get? C = some (excClassObj nm q C N bs bm hdct sn sub ab col dd k0 k1 k2 k3 k5 newId))
    (hn : h.Ns N mN) (hi : mN "__init__" = some (.ref fI)) (hfI : h.get? fI = some oI) (hfc : oI.cls = .type "function")
    (hq : ∀ h' e, Heap.MadeExcOf h h' e (.ref C) rest →
      wpAny (model prog w) (A.under (.builtin "type.__call__" ⟨.ref C :: rest, []⟩)) (call (.ref fI) (.ref e :: rest)) (fun r s' => r = .none ∧ Q (.ref e) s') E ⟨h', g, d, tk, os⟩)
    (hrest : rest.length ≤ sizeLine) : wpAny (model prog w) A (call (.ref C) rest) Q E ⟨h, g, d, tk, os⟩ := by
  have e1 := tc_lookup
  have e2 := tc_bind (.ref C)
  have e3 : (⟨h, g, d, tk, os⟩ : Shared).TypeIs (.ref C) "type" := ⟨_, hC, rfl⟩
  refine wpAny_call (codeAny_of_tree ?_)
  show wpAny _ _ (callAny (.ref C) _) _ _ _
  repeat (any_goals (first
    | assumption
    | with_reducible refine wpAny_loadPart_at hC ?_
    | wp_step))
  refine ⟨rfl, codeAny_call_builtin_at (Code.quiet_builtin _ (by decide +kernel)) entry_typeCall (wpAny_check_type_call_sub hC ?_)⟩
  exact tcall_init F T hC hn hi hfI hfc (fun h' e hm => hq h' e hm) hrest
end
section
variable {prog : Program} {w : World} {M : Model} {A : Around} {E : Value → Shared → Prop} {s : Shared} {env : Env}
variable {nm q : Str} {C N fI : Addr} {bs bm bmB : List Value} {hdct : Bool} {sn : List Str} {sub : List Value} {ab : Bool} {col : Option Bool} {dd : Option Addr} {k0 k1 k2 k3 k5 : Option Value} {B newId initId : String}
theorem raiseStmt_of {x : Sem Value} {Q : Flow → Shared → Prop} (hbase : bm.contains (.type "BaseException") = true) (hh : A.handled = none)
    (h : wpAny M A x (fun v s₁ => ∃ e t od, v = .ref e ∧ s₁.heap.get? C = some (excClassObj nm q C N bs bm hdct sn sub ab col dd k0 k1 k2 k3 k5 newId) ∧ s₁.heap.get? e = some (xo C t od) ∧ E (.ref e) s₁) E s) :
    wpAny M A (raiseStmt env (some x) none) Q E s := by
  have hcB : (Value.ref C :: bm).contains (.type "BaseException") = true := by rw [List.contains_cons, hbase, Bool.or_true]
  unfold raiseStmt
  refine wpAny_bind (wpAny_mono h (fun v s₁ h₁ => ?_) fun _ _ z => z)
  obtain ⟨e, t, od, rfl, hC, he, hE⟩ := h₁
  obtain ⟨hp, g, d, tk, os⟩ := s₁
  repeat (first
    | with_reducible refine wpAny_loadPart_at he ?_
    | with_reducible refine wpAny_loadPart_at hC ?_
    | (with_reducible refine wpAny_isSubtype_exc hC ?_; rw [hcB])
    | wp_step)
  exact wpAny_raiseNew_none hh hE
theorem Raise_init (F : ExcBaseFacts B newId initId bmB) {mN : Str → Option Value} {x : Str} {np cpos pos : Pos} {args : List Expr} {Q : Flow → Shared → Prop}
    (hbase : bm.contains (.type "BaseException") = true) (hh : A.handled = none) (hplain : (backTo cpos (starEach args env)).any (·.1) = false) (hi : mN "__init__" = some (.ref fI))
    (h : wpAny (model prog w) A (eval (.Name x np) env) (fun f s₁ => f = .ref C ∧ wpAny (model prog w) A (evalArgs (.ref C) true (backTo cpos (starEach args env)) [])
      (fun a s₂ => a.kw = [] ∧ a.pos.length ≤ sizeLine ∧ s₂.heap.get? C = some (excClassObj nm q C N bs bm hdct sn sub ab col dd k0 k1 k2 k3 k5 newId) ∧ s₂.heap.Ns N mN ∧ OwnTail s₂.heap bmB bm ∧ (∃ oI, s₂.heap.get? fI = some oI ∧ oI.cls = .type "function") ∧
        ∀ h' e, Heap.MadeExcOf s₂.heap h' e (.ref C) a.pos → wpAny (model prog w) (A.under (.builtin "type.__call__" ⟨.ref C :: a.pos, []⟩)) (call (.ref fI) (.ref e :: a.pos))
          (fun r s' => r = .none ∧ s'.heap.get? C = some (excClassObj nm q C N bs bm hdct sn sub ab col dd k0 k1 k2 k3 k5 newId) ∧ (∃ t od, s'.heap.get? e = some (xo C t od)) ∧ E (.ref e) s') E { s₂ with heap := h' }) E s₁) E s) :
    wpAny (model prog w) A (exec (.Raise (some (.Call (.Name x np) args [] cpos)) none pos) env) Q E s := by
  rw [arm_exec_Raise]
  simp only [evalOpt, Option.map]
  refine wpAny_bind (wpAny_standAt (raiseStmt_of (C := C) (nm := nm) (q := q) (N := N) (bs := bs) (bm := bm) (hdct := hdct) (sn := sn) (sub := sub) (ab := ab) (col := col) (dd := dd) (k0 := k0) (k1 := k1) (k2 := k2) (k3 := k3) (k5 := k5) (newId := newId) hbase hh ?_))
  refine wpAny_bind (wpAny_mono (wpAny_Call_ofName (wpAny_mono h (fun f s₁ h₁ => ?_) fun _ _ z => z)) (fun v s₃ h₃ => wpAny_bind (wpAny_standAt (wpAny_pure h₃))) fun _ _ z => z)
  obtain ⟨rfl, h₁⟩ := h₁
  unfold callWith
  refine wpAny_bind (wpAny_holding (wpAny_mono h₁ (fun a s₂ h₂ => wpAny_bind (wpAny_standAt ?_)) fun _ _ z => z))
  obtain ⟨apos, akw⟩ := a
  obtain ⟨hkw, hlen, hC, hn, T, ⟨oI, hfI, hfc⟩, h₂⟩ := h₂
  obtain rfl : akw = [] := hkw
  obtain ⟨hp, g, d, tk, os⟩ := s₂
  simp only [hplain]
  refine wpAny_bind (wpAny_keeperOf_exc hC ?_)
  refine wpAny_bind (call_init F T hC hn hi hfI hfc (fun h' e hm => wpAny_mono (h₂ h' e hm) (fun r s' z => ⟨z.1, ?_⟩) fun _ _ z => z) hlen)
  obtain ⟨_, zC, ⟨t, od, ze⟩, zE⟩ := z
  exact wpAny_bind (wpAny_holding (wpAny_point (wpAny_pure ⟨e, t, od, rfl, zC, ze, zE⟩)))
end
end L2
end
section
namespace L2
open PySem
section
variable {M : Model} {A : Around} {E : Value → Shared → Prop} {s : Shared} {base : Heap} {env : Env} {outer l : List Env} {L e : Addr} {cls a0 fl : Value} {od : Option Addr}
def Dc (h : Heap) (e : Addr) (od : Option Addr) : Prop := ∃ o, h.get? e = some o ∧ o.dict = od
theorem dict_mapFields (o : Obj) (f : Array Value → Array Value) : (Obj.mapFields f o).dict = o.dict := by
  unfold Obj.mapFields
  split <;> rfl
theorem upd_other {h : Heap} {T b : Addr} {f : Obj → Obj} (n : b ≠ T) : (h.update T f).get? b = h.get? b := Heap.get?_update_other _ _ (Ne.symm n)
theorem Dc.upd {h : Heap} {T : Addr} {oT : Obj} {ts : Array Value} {f : Array Value → Array Value} (x : Dc h e od) (hT : h.get? T = some oT) (hd : oT.data = .fields ts) : Dc (h.update T (Obj.mapFields f)) e od := by
  obtain ⟨o, ho, hod⟩ := x
  by_cases n : e = T
  · subst n
    rw [hT] at ho
    cases ho
    exact ⟨_, Heap.get?_update_self _ hT (Obj.isFreed_of_fields (Obj.data_mapFields hd f)), (dict_mapFields _ _).trans hod⟩
  · exact ⟨o, (upd_other n).trans ho, hod⟩
theorem entryD {oe : Obj} {vs : Array Value} {head : Value} {hadNext : Bool} {Q : Unit → Shared → Prop} (hfr : A.frames = some (env :: outer)) (hl : s.heap.FunFrames base (env :: outer)) (hf : env.frame = some L)
    (he : s.heap.get? e = some oe) (hkb : base.StaysIn s.heap) (hen : base.get? e = none) (hd : oe.data = .fields vs) (hsz : 1 < vs.size) (h0 : vs[0]? = some a0)
    (k : ∀ h', Heap.NotedW base (env :: outer) e oe.cls a0 (rawInt L) s.heap h' → Dc h' e oe.dict → Q () { s with heap := h' }) :
    wpAny M A (do
      let a ← frameOf env
      let pl ← entryPlaceOf L hadNext
      let b ← EntryCells.newEntry head a .none (rawInt L) .none pl
      setField (.ref e) 1 b) Q E s := by
  have nin : e ∉ (env :: outer).filterMap (·.frame) := fun hm => by
    obtain ⟨_, o, ho, hnf⟩ := hl.mem hm
    rw [he] at ho
    cases ho
    exact hnf vs hd
  refine wpAny_bind (wpAny_frameOf_fun hfr hl hf fun h1 hs1 => wpAny_bind (wpAny_entryPlaceOf fun pl hpl => ?_))
  unfold EntryCells.newEntry newFields
  refine wpAny_bind (wpAny_newObj_type ?_ (hpl.sizeOk5 _ _ _ _ _))
  generalize htb : ([head, .ref L, .none, rawInt L, .none] ++ (if pl.isEmpty then List.replicate 6 Value.none else pl)) = tb
  have h3 : tb.toArray[3]? = some (rawInt L) := by rw [← htb]; simp
  have e1 : h1.get? e = some oe := (hs1.2.1 e nin).trans he
  have b1 : base.StaysIn h1 := fun b o z => (hs1.2.1 b fun hm => by rw [(hl.mem hm).1] at z; cases z).trans (hkb b o z)
  have pu : ∀ b o, h1.get? b = some o → (h1.push { cls := .type "traceback", dict := none, data := .fields tb.toArray }).get? b = some o := fun b o z => Heap.get?_push_of_some _ z
  have hT : (h1.push { cls := .type "traceback", dict := none, data := .fields tb.toArray }).get? h1.objs.size = some { cls := .type "traceback", dict := none, data := .fields tb.toArray } := Heap.get?_push_size h1 rfl
  have fr : base.get? h1.objs.size = none := b1.fresh
  have nT : h1.objs.size ≠ e := Nat.ne_of_gt (Heap.lt_size e1)
  have lt : ∀ b o, h1.get? b = some o → b ≠ h1.objs.size := fun b o z => Nat.ne_of_lt (Heap.lt_size z)
  refine wpAny_setField (pu _ _ e1) hd hsz ?_
  have e2 := pu _ _ e1
  generalize h1.push { cls := .type "traceback", dict := none, data := .fields tb.toArray } = h2 at *
  generalize h1.objs.size = T at *
  have d3 := Obj.data_mapFields hd (·.setIfInBounds 1 (Value.ref T))
  have e3 := Heap.get?_update_self (Obj.mapFields (·.setIfInBounds 1 (Value.ref T))) e2 (Obj.isFreed_of_fields d3)
  have noR : ∀ b o, s.heap.get? b = some o → (∀ ws, o.data ≠ .fields ws) → b ≠ e := fun b o z hnf y => by
    rw [y, he] at z
    cases z
    exact hnf vs hd
  refine k _ ⟨fun b o z => ?_, hl.of_keeps fun b o z hnf => ?_, ?_, fun b o z hnf => ?_⟩ ⟨_, e3, dict_mapFields _ _⟩
  · rw [upd_other (fun y => by rw [y, hen] at z; cases z)]
    exact pu _ _ (b1 b o z)
  · obtain ⟨sl, y⟩ := hs1.2.2 b o z
    exact ⟨_, (upd_other (noR b o z hnf)).trans (pu _ _ y), rfl⟩
  · exact ⟨_, _, T, _, _, e3, ⟨Obj.cls_mapFields _ _, by rw [Array.getElem?_setIfInBounds_ne (by decide)]; exact h0⟩, d3, by simp [hsz], fr, nT, (upd_other nT).trans hT, rfl, h3⟩
  · obtain ⟨sl, y⟩ := hs1.2.2 b o z
    exact ⟨sl, (upd_other (noR b o z hnf)).trans (pu _ _ y)⟩
theorem landD {Q : Unit → Shared → Prop} (hkb : base.StaysIn s.heap) (hl : s.heap.FunFrames base l) (ht : s.heap.TracedAtW base e cls a0 fl) (hc : Dc s.heap e od)
    (k : ∀ h', base.StaysIn h' → h'.FunFrames base l → h'.TracedW base e cls a0 → s.heap.UpToSlots h' → Dc h' e od → Q () { s with heap := h' }) : wpAny M A (setFlight (.ref e) none) Q E s := by
  obtain ⟨oe, vs, T, oT, ts, he, hcls, hd, h1, hnT, hTe, hT, hdT, h3⟩ := ht
  have z3 : 3 < ts.size := (Array.getElem?_eq_some_iff.mp h3).1
  have noR : ∀ b o, s.heap.get? b = some o → (∀ ws, o.data ≠ .fields ws) → b ≠ T := fun b o z hnf y => by
    rw [y, hT] at z
    cases z
    exact hnf ts hdT
  unfold setFlight
  refine wpAny_bind (wpAny_field he hd h1 ?_)
  rw [if_pos (show (Value.ref T != Value.none) = true from by simp)]
  refine wpAny_setField hT hdT z3 (k _ (fun b o z => ?_) (hl.of_keeps fun b o z hnf => ⟨o, (upd_other (noR b o z hnf)).trans z, rfl⟩) ?_ (fun b o z hnf => ⟨o.slots, (upd_other (noR b o z hnf)).trans z⟩) (hc.upd hT hdT))
  · rw [upd_other (fun y => by rw [y, hnT] at z; cases z)]
    exact hkb b o z
  · exact ⟨oe, vs, T, _, _, (upd_other (Ne.symm hTe)).trans he, hcls, hd, h1, hnT, hTe, Heap.get?_update_self _ hT (Obj.isFreed_of_fields (Obj.data_mapFields hdT _)), Obj.data_mapFields hdT _, by simp [z3]⟩
theorem noteD {Q : Unit → Shared → Prop} (hfr : A.frames = some (env :: outer)) (hf : env.frame = some L) (x : Heap.FlyingW base (env :: outer) e cls a0 s.heap) (hc : Dc s.heap e od)
    (k : ∀ h', Heap.HeldW base (env :: outer) e cls a0 L h' → s.heap.UpToSlots h' → Dc h' e od → Q () { s with heap := h' }) : wpAny M A (noteFrame (.ref e) env) Q E s := by
  obtain ⟨hkb, hen, hl, oe, vs, T, oT, ts, he, ⟨hcls, h0⟩, hd, h1, hnT, hTe, hT, hdT, h3⟩ := x
  subst hcls
  unfold noteFrame
  simp only [hf]
  refine wpAny_bind (wpAny_field he hd h1 ?_)
  rw [if_pos (show (Value.ref T != Value.none) = true from by simp)]
  refine wpAny_bind (wpAny_field hT hdT h3 ?_)
  rw [if_neg (show ¬ ((Value.none == rawInt L) = true) from by simp [rawInt])]
  have noR : ∀ b o, s.heap.get? b = some o → (∀ ws, o.data ≠ .fields ws) → b ≠ T := fun b o z hnf y => by
    rw [y, hT] at z
    cases z
    exact hnf ts hdT
  have hod : oe.dict = od := by
    obtain ⟨o, ho, q⟩ := hc
    rw [he] at ho
    cases ho
    exact q
  refine wpAny_bind (wpAny_setField hT hdT (Array.getElem?_eq_some_iff.mp h3).1 ?_)
  refine entryD hfr (hl.of_keeps fun b o z hnf => ⟨o, (upd_other (noR b o z hnf)).trans z, rfl⟩) hf ((upd_other (Ne.symm hTe)).trans he) (fun b o z => ?_) hen hd (Array.getElem?_eq_some_iff.mp h1).1 h0 fun h' N D => ?_
  · rw [upd_other (fun y => by rw [y, hnT] at z; cases z)]
    exact hkb b o z
  · obtain ⟨x1, x2, x3, x4⟩ := N
    exact k h' ⟨x1, hen, x2, x3⟩ (fun b o z hnf => x4 b o ((upd_other (noR b o z hnf)).trans z) hnf) (hod ▸ D)
theorem landsD {Q : Unit → Shared → Prop} (x : Heap.HeldW base l e cls a0 L s.heap) (hc : Dc s.heap e od)
    (k : ∀ h', Heap.FlyingW base l e cls a0 h' → s.heap.UpToSlots h' → Dc h' e od → Q () { s with heap := h' }) : wpAny M A (setFlight (.ref e) none) Q E s := by
  obtain ⟨f1, f2, f3, f4⟩ := x
  exact landD f1 f3 f4 hc fun h' k1 k2 k3 k4 k5 => k h' ⟨k1, f2, k2, k3⟩ k4 k5
theorem againD {Q : Unit → Shared → Prop} (x : Heap.FlyingW base l e cls a0 s.heap) (hc : Dc s.heap e od)
    (k : ∀ h', Heap.FlyingW base l e cls a0 h' → s.heap.UpToSlots h' → Dc h' e od → Q () { s with heap := h' }) : wpAny M A (setFlight (.ref e) none) Q E s := by
  obtain ⟨f1, f2, f3, f4⟩ := x
  exact landD f1 f3 f4.at hc fun h' k1 k2 k3 k4 k5 => k h' ⟨k1, f2, k2, k3⟩ k4 k5
theorem leavesD {Q : Unit → Shared → Prop} (hfr : A.frames = some (env :: outer)) (hf : env.frame = some L) (x : Heap.FlyingW base (env :: outer) e cls a0 s.heap) (hc : Dc s.heap e od)
    (k : ∀ h', Heap.FlyingW base outer e cls a0 h' → s.heap.UpToSlots h' → Dc h' e od → Q () { s with heap := h' }) : wpAny M A (leaving env (.ref e)) Q E s := by
  unfold leaving
  refine wpAny_bind (noteD hfr hf x hc fun h1 H1 u1 c1 => landsD (s := { s with heap := h1 }) H1 c1 fun h2 F2 u2 c2 => ?_)
  obtain ⟨g1, g2, ⟨_, _, g3⟩, g4⟩ := F2
  exact k h2 ⟨g1, g2, g3, g4⟩ (u1.trans u2) c2
theorem firstD {C t : Addr} {Q : Unit → Shared → Prop} (hfr : A.frames = some (env :: outer)) (hf : env.frame = some L) (hkb : base.StaysIn s.heap) (hen : base.get? e = none) (hl : s.heap.FunFrames base (env :: outer)) (he : s.heap.get? e = some (xo C t od))
    (k : ∀ h', Heap.FlyingW base outer e (.ref C) (.ref t) h' → s.heap.UpToSlots h' → Dc h' e od → Q () { s with heap := h' }) : wpAny M A (leaving env (.ref e)) Q E s := by
  unfold leaving noteFrame
  simp only [hf]
  refine wpAny_bind (wpAny_bind (wpAny_field he rfl (x := .none) rfl ?_))
  rw [if_neg (by decide)]
  refine entryD (a0 := .ref t) hfr hl hf he hkb hen rfl (by show (1 : Nat) < 6; decide) rfl fun h1 N D => ?_
  obtain ⟨x1, x2, x3, x4⟩ := N
  refine landD (s := { s with heap := h1 }) x1 x2 x3 D fun h2 k1 k2 k3 k4 k5 => ?_
  obtain ⟨_, _, k2⟩ := k2
  exact k h2 ⟨k1, hen, k2, k3⟩ (Heap.UpToSlots.trans x4 k4) k5
end
end L2
end
section
namespace L2
open PySem PySem.Spec PyProof.Rows
def VB : List Value := [.type "ValueError", .type "Exception", .type "BaseException", .type "object"]
def nsPlain (K : PySem.W.Frag) (N : Addr) : Bool := match K.lookup N with
  | some ⟨_, _, .dict es _, _⟩ => es.toList.all fun e => match e.key with | .str _ _ => true | _ => false
  | _ => false
def noInit (K : PySem.W.Frag) (N : Addr) : Bool := nsPlain K N && (match PySem.W.nsIn K N "__init__" with | some none => true | _ => false)
theorem noInit_ns {K : PySem.W.Frag} {N : Addr} {h₀ : Heap} (X₀ : K.In h₀) (e : noInit K N = true) : ∃ mN : Str → Option Value, mN "__init__" = none ∧ ∀ h : Heap, K.In h → h.Ns N mN := by
  unfold noInit at e
  simp only [Bool.and_eq_true] at e
  obtain ⟨e1, e2⟩ := e
  unfold nsPlain at e1
  split at e1
  · rename_i c d es ep sl hl
    have sk : StrKeys es := fun en hen => by
      have q := (List.all_eq_true.mp e1) en (by simpa using hen)
      split at q
      · rename_i n t hk
        exact ⟨n, t, hk⟩
      · cases q
    have hN : ∀ h : Heap, K.In h → h.Ns N (nsFind es) := fun h X => ⟨_, es, ep, X _ _ hl, rfl, sk, fun _ => rfl⟩
    refine ⟨nsFind es, ?_, hN⟩
    split at e2
    · rename_i q
      exact PySem.W.ns_none_of X₀ (hN h₀ X₀) q
    · cases e2
  · cases e1
def tailOk (K : PySem.W.Frag) : List Value → Bool
  | [] => false
  | v :: tl => match v with
    | .ref A => (match K.lookup A with | some ⟨_, _, .cls cd, _⟩ => noInit K cd.ns | _ => false) && tailOk K tl
    | _ => (v :: tl) == VB
theorem tail_own {K : PySem.W.Frag} {h₀ : Heap} (X₀ : K.In h₀) : ∀ {l : List Value}, tailOk K l = true → ∀ h : Heap, K.In h → OwnTail h VB l
  | [], e, _, _ => by cases e
  | v :: tl, e, h, X => by
    unfold tailOk at e
    split at e
    · rename_i A
      simp only [Bool.and_eq_true] at e
      obtain ⟨e1, e2⟩ := e
      split at e1
      · rename_i c0 dd cd sl hl
        obtain ⟨mN, hi, hN⟩ := noInit_ns X₀ e1
        exact .own (X _ _ hl) (hN h X) hi (tail_own X₀ e2 h X)
      · cases e1
    · rw [beq_iff_eq.mp e]
      exact .base
def excIn (K : PySem.W.Frag) (C : Addr) : Bool := match K.lookup C with
  | some ⟨.type "type", _, .cls cd, sl⟩ => (match cd.mro, sl.toList with
    | .ref C' :: bm, [_, _, _, _, some (.builtin n), _] => C' == C && !cd.hasDel && n == "ValueError.__new__" && noInit K cd.ns && tailOk K bm
    | _, _ => false)
  | _ => false
theorem excIn_obj {K : PySem.W.Frag} {h₀ : Heap} {C : Addr} (X₀ : K.In h₀) (q : excIn K C = true) : ∃ bm N nm qn bs hdct sn sub ab col dd k0 k1 k2 k3 k5 mN, mN "__init__" = none ∧
    ∀ h : Heap, K.In h → h.get? C = some (excClassObj nm qn C N bs bm hdct sn sub ab col dd k0 k1 k2 k3 k5 "ValueError.__new__") ∧ h.Ns N mN ∧ OwnTail h VB bm := by
  unfold excIn at q
  split at q
  · rename_i dd cd sl ho
    split at q
    · rename_i C' bm k0 k1 k2 k3 n k5 hm hs
      simp only [Bool.and_eq_true, beq_iff_eq, Bool.not_eq_true'] at q
      obtain ⟨⟨⟨⟨rfl, hdel⟩, rfl⟩, hi⟩, ht⟩ := q
      obtain ⟨nm, bs, mro, ns, qn, hd, sn, sub, ab, col, del⟩ := cd
      dsimp only at hm hdel hi
      subst hm hdel
      have hsl : sl = #[k0, k1, k2, k3, some (.builtin "ValueError.__new__"), k5] := by
        obtain ⟨l⟩ := sl
        simp only at hs
        rw [hs]
      subst hsl
      obtain ⟨mN, hi, hN⟩ := noInit_ns X₀ hi
      exact ⟨bm, ns, nm, qn, bs, hd, sn, sub, ab, col, dd, k0, k1, k2, k3, k5, mN, hi, fun h X => ⟨X _ _ ho, hN h X, tail_own X₀ ht h X⟩⟩
    · cases q
  · cases q
theorem ObjOk.is {P : Program} {w : World} {H : Hp} {h : Heap} {a : Addr} {o : HO} (x : ObjOk P w H h a o) : ∃ ob, h.get? a = some ob := by
  cases o with
  | lst xs => obtain ⟨_, _, _, _, e⟩ := x; exact ⟨_, e⟩
  | tup xs => obtain ⟨_, _, _, ob, e, _⟩ := x; exact ⟨_, e⟩
  | dK kvs => obtain ⟨_, _, _, _, o, _, _, e, _⟩ := x; exact ⟨_, e⟩
  | dT kvs => obtain ⟨_, _, _, _, o, _, _, e, _⟩ := x; exact ⟨_, e⟩
  | set S n => obtain ⟨o, _, _, _, e, _⟩ := x; exact ⟨_, e⟩
  | ins C dx fs => obtain ⟨_, _, _, e, _⟩ := x; exact ⟨_, e⟩
  | own y => obtain ⟨_, e⟩ := x; exact ⟨_, e⟩
  | xd fs => obtain ⟨_, ⟨_, _, _, e, _⟩, _⟩ := x; exact ⟨_, e⟩
  | rng lo hi => obtain ⟨_, _, _, e⟩ := x; exact ⟨_, e⟩
  | frz ob u => obtain ⟨e, _⟩ := x; exact ⟨_, e⟩
  | tbl ps => exact ⟨_, (show h.get? a = some _ from x)⟩
  | met f y => exact ⟨_, (show h.get? a = some _ from x)⟩
  | ext φ => obtain ⟨_, ⟨_, e⟩, _⟩ := x; exact ⟨_, e⟩
def CXr (P : Program) (w : World) : CXT := fun outer H s E x s' => ∃ (e : Addr) (C a0 : Value) (H' : Hp) (B : Heap), x = .ref e ∧ s'.os = s.os ∧ AllBare s'.gens ∧ Un (frs outer) [] H H' s.heap s'.heap ∧ HOk P w H' s'.heap ∧
  Heap.FlyingW B outer e C a0 s'.heap ∧ (∀ b u, H' b = some u → ∃ o, B.get? b = some o) ∧ (∀ b o, s.heap.get? b = some o → b ∉ frs outer → ∃ o', B.get? b = some o' ∧ (H b = none → o' = o)) ∧ ∃ od, Dc s'.heap e od ∧ E C od H'
def Raises (X : Cx) (E : XK) : Prop := ∀ (pins : List (Addr × Obj)) (σ : St) (H : Hp) (s : Shared) (e C : Addr) (vs : List Value) (h' : Heap), Inv X pins σ H s → Heap.MadeExcOf s.heap h' e (.ref C) vs → E (.ref C) none H →
  X.xe (.ref e) { s with heap := h' }
section
variable {P : Program} {w : World} {K : PySem.W.Frag} {mg : Str → Option Value} {base : Heap} {N : List Str} {qual : Str} {scope : Scope} {f : Addr} {cd : Value} {A : Around} {outer : List Env} {s₀ : Shared} {H₀ : Hp} {E : XK}
abbrev cxR (P : Program) (w : World) (K : PySem.W.Frag) (mg : Str → Option Value) (base : Heap) (N : List Str) (qual : Str) (scope : Scope) (f : Addr) (cd : Value) (A : Around) (outer : List Env) (s : Shared) (H : Hp) (E : XK) : Cx :=
  cxOf (CXr P w) P w K mg base N qual scope f cd A outer s H E
theorem passesOwnR : PassesOwn (model P w) (cxR P w K mg base N qual scope f cd A outer s₀ H₀ E).A (cxR P w K mg base N qual scope f cd A outer s₀ H₀ E).env (cxR P w K mg base N qual scope f cd A outer s₀ H₀ E).xe := PassesOwn.leaving
theorem hok_stays {H : Hp} {h h' B : Heap} (ok : HOk P w H h) (k : ∀ b u, H b = some u → ∃ o, B.get? b = some o) (s1 : ∀ b o, B.get? b = some o → h.get? b = some o) (s2 : ∀ b o, B.get? b = some o → h'.get? b = some o) : HOk P w H h' := fun a u e =>
  (ok a u e).stay (fun b v hb q => by
    obtain ⟨o, z⟩ : ∃ o, B.get? b = some o := by
      rcases hb with rfl | hb
      · exact k _ _ e
      · exact k _ _ hb
    have z1 := s1 b o z
    rw [q] at z1
    cases z1
    exact s2 b _ z) (fun _ q => q) fun _ _ q => q
theorem raisesG {pins : List (Addr × Obj)} {σ : St} {H : Hp} {s : Shared} {e C t : Addr} {od : Option Addr} (I : Inv (cxR P w K mg base N qual scope f cd A outer s₀ H₀ E) pins σ H s) (he : s.heap.get? e = some (xo C t od)) (hn : s₀.heap.get? e = none) (hH : H e = none) (q : E (.ref C) od H) : (cxR P w K mg base N qual scope f cd A outer s₀ H₀ E).xe (.ref e) s := by
  have noA : ∀ b : Addr, b ∉ (cxR P w K mg base N qual scope f cd A outer s₀ H₀ E).ex := fun b z => absurd (show b ∈ ([] : List Addr) from z) (by simp)
  have lt0 : ∀ b o, s₀.heap.get? b = some o → b ≠ (cxR P w K mg base N qual scope f cd A outer s₀ H₀ E).env.locals := fun b o z => Nat.ne_of_lt (Nat.lt_of_lt_of_le (Heap.lt_size z) I.ok.above)
  have hin : ∀ env ∈ (cxR P w K mg base N qual scope f cd A outer s₀ H₀ E).stack, ∀ b, env.frame = some b → b ∈ e :: frs (cxR P w K mg base N qual scope f cd A outer s₀ H₀ E).stack := fun env he b hb => List.mem_cons_of_mem _ (List.mem_filterMap.mpr ⟨env, he, hb⟩)
  have nin : ∀ b o, s₀.heap.get? b = some o → b ∉ frs outer → b ∉ e :: frs (cxR P w K mg base N qual scope f cd A outer s₀ H₀ E).stack := fun b o z h1 y => by
    rcases List.mem_cons.mp y with y | y
    · rw [y, hn] at z; cases z
    · rcases List.mem_cons.mp (I.stkSub b y) with y | y
      · exact lt0 b o z y
      · exact h1 y
  show wpAny (model P w) (A.deeper (envOfC qual scope s₀.heap.objs.size f cd)) (leaving (envOfC qual scope s₀.heap.objs.size f cd) (.ref e)) _ _ _
  refine firstD (base := PySem.W.hideAll s.heap (e :: frs (cxR P w K mg base N qual scope f cd A outer s₀ H₀ E).stack)) (L := s₀.heap.objs.size) I.ok.frames rfl (fun b o z => PySem.W.of_hideAll _ z) (PySem.W.hideAll_none _ (List.mem_cons_self ..)) (PySem.W.funFrames_hide I.stack hin) he fun h'' x1 x4 x5 => ?_
  have st : ∀ b o, s.heap.get? b = some o → b ∉ e :: frs (cxR P w K mg base N qual scope f cd A outer s₀ H₀ E).stack → (PySem.W.hideAll s.heap (e :: frs (cxR P w K mg base N qual scope f cd A outer s₀ H₀ E).stack)).get? b = some o := fun b o z n => PySem.W.hideAll_get _ z n
  have c1 : ∀ b u, H b = some u → ∃ o, (PySem.W.hideAll s.heap (e :: frs (cxR P w K mg base N qual scope f cd A outer s₀ H₀ E).stack)).get? b = some o := fun b u z => by
    obtain ⟨ob, zb⟩ := (I.hok b u z).is
    refine ⟨ob, st b ob zb fun m => ?_⟩
    rcases List.mem_cons.mp m with m | m
    · rw [m, hH] at z; cases z
    · rw [I.stkFree b m] at z; cases z
  refine ⟨e, .ref C, .ref t, H, _, rfl, I.os, I.bare, ⟨fun b o z n hb _ => ?_, fun b o z n hb _ => ?_, fun b o z n _ => I.base.free b o z n (noA b), fun b o z _ => ?_, I.base.tups, I.base.frzs, I.base.tbls⟩, ?_, x1, c1, fun b o z hb => ?_, od, x5, q⟩
  · exact x1.1 b o (st b o (I.base.keep b o z n hb (noA b)) (nin b o z hb))
  · obtain ⟨sl, e1⟩ := I.base.slot b o z n hb (noA b)
    obtain ⟨o2, ho2, hd2⟩ := (I.ok.funs.mem hb).2
    have z2 : s₀.heap.get? b = some o2 := ho2
    rw [z] at z2
    cases z2
    obtain ⟨sl', e2⟩ := x4 b _ e1 hd2
    exact ⟨sl', e2⟩
  · by_cases hb : b ∈ frs outer
    · obtain ⟨sl, e1⟩ := I.base.slot b o z (I.ok.frf b hb) hb (noA b)
      obtain ⟨o2, ho2, hd2⟩ := (I.ok.funs.mem hb).2
      have z2 : s₀.heap.get? b = some o2 := ho2
      rw [z] at z2
      cases z2
      obtain ⟨sl', e2⟩ := x4 b _ e1 hd2
      exact ⟨_, e2⟩
    · obtain ⟨o1, e1⟩ := I.base.there b o z (noA b)
      exact ⟨o1, x1.1 b o1 (st b o1 e1 (nin b o z hb))⟩
  · exact hok_stays I.hok c1 (fun b o z => PySem.W.of_hideAll _ z) x1.1
  · obtain ⟨o1, e1⟩ := I.base.there b o z (noA b)
    refine ⟨o1, st b o1 e1 (nin b o z hb), fun n => ?_⟩
    have e2 := I.base.keep b o z n hb (noA b)
    rw [e1] at e2
    exact Option.some.inj e2
theorem raisesR : Raises (cxR P w K mg base N qual scope f cd A outer s₀ H₀ E) E := by
  intro pins σ H s e C vs h' I M q
  obtain ⟨t, he, _, _⟩ := M.there
  refine raisesG (t := t) (od := none) (I.kept (t' := s.toks) M.keeps) he ?_ ?_ q
  · cases z : s₀.heap.get? e with
    | none => rfl
    | some o =>
      obtain ⟨o1, e1⟩ := I.base.there e o z (fun y => absurd (show e ∈ ([] : List Addr) from y) (by simp))
      rw [M.new] at e1
      cases e1
  · cases z : H e with
    | none => rfl
    | some u =>
      obtain ⟨ob, zb⟩ := (I.hok e u z).is
      rw [M.new] at zb
      cases zb
theorem passR : Passes (CXr P w) (cxR P w K mg base N qual scope f cd A outer s₀ H₀ E) E := by
  intro pins σ H s x s' I hx
  obtain ⟨e, C, a0, H', B, rfl, os, bare, un, hok, fl, c1, c2, od, hdc, q⟩ := hx
  have noA : ∀ b : Addr, b ∉ (cxR P w K mg base N qual scope f cd A outer s₀ H₀ E).ex := fun b z => absurd (show b ∈ ([] : List Addr) from z) (by simp)
  have lt0 : ∀ b o, s₀.heap.get? b = some o → b ≠ (cxR P w K mg base N qual scope f cd A outer s₀ H₀ E).env.locals := fun b o z => Nat.ne_of_lt (Nat.lt_of_lt_of_le (Heap.lt_size z) I.ok.above)
  have nin : ∀ b, b ∉ frs outer → b ≠ (cxR P w K mg base N qual scope f cd A outer s₀ H₀ E).env.locals → b ∉ frs (cxR P w K mg base N qual scope f cd A outer s₀ H₀ E).stack := fun b h1 h2 z => by
    rcases List.mem_cons.mp (I.stkSub b z) with z | z
    · exact h2 z
    · exact h1 z
  have J : Inv (cxR P w K mg base N qual scope f cd A outer s₀ H₀ E) pins σ H' s' := I.call' os un hok bare (ch := []) (fun b z => absurd z (by simp))
  show wpAny (model P w) (A.deeper (envOfC qual scope s₀.heap.objs.size f cd)) (leaving (envOfC qual scope s₀.heap.objs.size f cd) (.ref e)) _ _ _
  refine leavesD (L := s₀.heap.objs.size) I.ok.frames rfl fl hdc fun h'' fl' sm hdc2 => ?_
  refine ⟨e, C, a0, H', B, rfl, os.trans I.os, bare, ⟨fun b o z n hb _ => ?_, fun b o z n hb _ => ?_, fun b o z n _ => J.base.free b o z n (noA b), fun b o z _ => ?_, J.base.tups, J.base.frzs, J.base.tbls⟩, hok_stays hok c1 fl.1 fl'.1, fl', c1, fun b o z hb => ?_, od, hdc2, q⟩
  · obtain ⟨o', z1, z2⟩ := c2 b o (I.base.keep b o z n hb (noA b)) (nin b hb (lt0 b o z))
    rw [z2 (I.base.free b o z n (noA b))] at z1
    exact fl'.1 b o z1
  · obtain ⟨sl, e1⟩ := J.base.slot b o z n hb (noA b)
    obtain ⟨o2, ho2, hd2⟩ := (I.ok.funs.mem hb).2
    have z2 : s₀.heap.get? b = some o2 := ho2
    rw [z] at z2
    cases z2
    obtain ⟨sl', e2⟩ := sm b _ e1 hd2
    exact ⟨sl', e2⟩
  · by_cases hb : b ∈ frs outer
    · obtain ⟨sl, e1⟩ := J.base.slot b o z (I.ok.frf b hb) hb (noA b)
      obtain ⟨o2, ho2, hd2⟩ := (I.ok.funs.mem hb).2
      have z2 : s₀.heap.get? b = some o2 := ho2
      rw [z] at z2
      cases z2
      obtain ⟨sl', e2⟩ := sm b _ e1 hd2
      exact ⟨_, e2⟩
    · obtain ⟨o1, e1⟩ := I.base.there b o z (noA b)
      obtain ⟨o', z1, _⟩ := c2 b o1 e1 (nin b hb (lt0 b o z))
      exact ⟨o', fl'.1 b o' z1⟩
  · obtain ⟨o1, e1⟩ := I.base.there b o z (noA b)
    obtain ⟨o', z1, z2⟩ := c2 b o1 e1 (nin b hb (lt0 b o z))
    refine ⟨o', z1, fun n => ?_⟩
    rw [z2 (I.base.free b o z n (noA b))]
    have e2 := I.base.keep b o z n hb (noA b)
    rw [e1] at e2
    exact Option.some.inj e2
theorem Fun.okR {x : Str} {st : Stmt} {fd : FuncData} {ps : List Str} {k : Nat} {sp : Sp} (F : Fun K x qual st f fd) (S : FnScope N ps (defScope st)) (len : ∀ vs H Q E, sp vs H Q E → vs.length = ps.length)
    (hbody : ∀ (cdv : Value) (A : Around) (outer : List Env) (s : Shared) (H : Hp) (vs : List V) (Q : VK) (E : XK), Room k (A.deeper (envOfC qual (defScope st) s.heap.objs.size f cdv)) → sp vs H Q E →
      ∃ t, PSs (cxR P w K mg base N qual (defScope st) f cdv A outer s H E) (defBody st) t ∧ t { nx := fun _ H' => Q .non H', rt := Q } (start N vs) H) : FnOk P w K mg base (CXr P w) (k + 1) f fd ps sp := by
  obtain ⟨oc, od, kV, doc, pm, an, cdv, ct, osl, rfl, lk, hcd⟩ := F.ex
  exact fn_of lk hcd S len fun A outer s H vs Q E hr hsp => hbody cdv A outer s H vs Q E hr hsp
end
section
variable {X : Cx} {x : Str} {C : Addr} {E : XK} {e₀ : Expr} {rest : List Expr} {t : TA} {np cpos pos : Pos}
def tRaise (C : Addr) (E : XK) (t : TA) : TS := fun _ σ H => t σ H fun vs H1 => vs.length ≤ sizeLine ∧ E (.ref C) none H1
theorem ps_raise (hK : excIn X.K C = true) (hm : X.mg x = some (.ref C)) (hR : Raises X E) (hA : X.calm = true) (ha : PA X (e₀ :: rest) t) (hg : Gl X x := by rfl) (hd : (x == ("__debug__" : Str)) = false := by decide)
    (he : starEach (e₀ :: rest) X.env = (false, eval e₀ X.env) :: starEach rest X.env := by rfl) (hpl : (backTo cpos (starEach rest X.env)).any (·.1) = false := by rfl) :
    PS X (.Raise (some (.Call (.Name x np) (e₀ :: rest) [] cpos)) none pos) (tRaise C E t) := by
  intro pins s σ H D I h
  obtain ⟨bm, N, nm, q, bs, hdct, sn, sub, ab, col, dd, k0, k1, k2, k3, k5, mN, hni, hK⟩ := excIn_obj I.kIn hK
  obtain ⟨_, _, T₀⟩ := hK _ I.kIn
  refine wpAny_Raise_call_subT (C := C) (nm := nm) (q := q) (N := N) (bs := bs) (bm := bm) (hdct := hdct) (sn := sn) (sub := sub) (ab := ab) (col := col) (dd := dd) (k0 := k0) (k1 := k1) (k2 := k2) (k3 := k3) (k5 := k5)
    PySem.F.excBase_ValueError (mN := mN) (T₀.hasType PySem.F.excBase_ValueError.hasBase) (I.ok.hd hA) (by rw [he]; show (false || (backTo cpos (starEach rest X.env)).any (·.1)) = false; rw [hpl]; rfl) hni (ld_glob I hg hm ⟨rfl, ?_⟩ hd)
  have h1 := ha cpos pins s σ H _ I h
  rw [he] at h1 ⊢
  refine Calls.evalArgs_plain (wpAny_mono h1 (fun us s₂ h₂ => ?_) fun _ _ y => y)
  obtain ⟨vs, H1, I1, r, z, q⟩ := h₂
  obtain ⟨g1, g2, g3⟩ := hK _ I1.kIn
  exact ⟨rfl, by rw [← r.length]; exact z, g1, g2, g3, fun h' e M => hR pins σ H1 s₂ e C us h' I1 M q⟩
end
end L2
end
section
namespace L2
open PySem PySem.Spec PyProof.Rows
def xob (e : Addr) (C : Value) (od : Option Addr) : HO := .ext fun h => ∃ oe, h.get? e = some oe ∧ oe.cls = C ∧ oe.dict = od ∧ PySem.W.notCls oe = true
section
variable {X : Cx} {pins : List (Addr × Obj)} {σ : St} {H H' : Hp} {s s' : Shared} {e : Addr} {C a0 : Value} {B h : Heap}
theorem Inv.flown {tk : Nat} {od : Option Addr} (I : Inv X pins σ H s) (os : s'.os = s.os) (bare : AllBare s'.gens) (un : Un (frs X.stack) [] H H' s.heap s'.heap) (hok : HOk X.prog X.w H' s'.heap) (fl : Heap.FlyingW B X.stack e C a0 s'.heap)
    (c1 : ∀ b u, H' b = some u → ∃ o, B.get? b = some o) (c2 : ∀ b o, s.heap.get? b = some o → b ∉ frs X.stack → ∃ o', B.get? b = some o' ∧ (H b = none → o' = o))
    (fl' : Heap.FlyingW B X.stack e C a0 h) (sm : s'.heap.UpToSlots h) (hdc : Dc h e od) : H' e = none ∧ Inv X pins σ (upd H' e (xob e C od)) { s' with heap := h, toks := tk } := by
  have he : H' e = none := by
    cases q : H' e with
    | none => rfl
    | some u =>
      obtain ⟨o, z⟩ := c1 e u q
      rw [fl.2.1] at z
      cases z
  obtain ⟨oe, ws, hoe, hoec, hoed, _⟩ := fl'.first
  have ne : ∀ b o, s.heap.get? b = some o → b ≠ e := fun b o z q => by
    subst q
    by_cases hb : b ∈ frs X.stack
    · obtain ⟨_, o2, ho2, hd2⟩ := fl'.2.2.1.mem hb
      rw [hoe] at ho2
      cases ho2
      exact hd2 _ hoed
    · obtain ⟨o', z1, _⟩ := c2 b o z hb
      rw [fl.2.1] at z1
      cases z1
  have ne' : ∀ b u, H' b = some u → b ≠ e := fun b u z q => by
    subst q
    rw [he] at z
    cases z
  refine ⟨he, ?_⟩
  refine I.call' (s' := { s' with heap := h, toks := tk }) (H' := upd H' e (xob e C od)) (ch := []) os ⟨fun b o z n hb _ => ?_, fun b o z n hb _ => ?_, fun b o z n _ => ?_, fun b o z _ => ?_, fun b xs z => ?_, fun b o u z => ?_, fun b ps z => ?_⟩ (fun a u q => ?_) bare (fun b z => absurd z (by simp))
  · obtain ⟨o', z1, z2⟩ := c2 b o z hb
    rw [z2 n] at z1
    exact fl'.1 b o z1
  · obtain ⟨sl, e1⟩ := un.slot b o z n hb (by simp)
    obtain ⟨_, o2, ho2, hd2⟩ := fl.2.2.1.mem hb
    rw [e1] at ho2
    cases ho2
    obtain ⟨sl', e2⟩ := sm b _ e1 hd2
    exact ⟨sl', e2⟩
  · rw [upd_ne (ne b o z)]
    exact un.free b o z n (by simp)
  · by_cases hb : b ∈ frs X.stack
    · obtain ⟨_, o2, ho2, _⟩ := fl'.2.2.1.mem hb
      exact ⟨o2, ho2⟩
    · obtain ⟨o', z1, _⟩ := c2 b o z hb
      exact ⟨o', fl'.1 b o' z1⟩
  · have z1 := un.tups b xs z
    rw [upd_ne (ne' b _ z1)]
    exact z1
  · have z1 := un.frzs b o u z
    rw [upd_ne (ne' b _ z1)]
    exact z1
  · obtain ⟨more, z1⟩ := un.tbls b ps z
    exact ⟨more, by rw [upd_ne (ne' b _ z1)]; exact z1⟩
  · by_cases ha : a = e
    · subst ha
      rw [upd_same] at q
      cases q
      obtain ⟨o3, ho3, hd3⟩ := hdc
      rw [hoe] at ho3
      cases ho3
      exact ⟨⟨oe, hoe, hoec, hd3, by unfold PySem.W.notCls; rw [hoed]⟩, ⟨oe, hoe⟩, fun h1 h2 ⟨o1, g1, g2⟩ k => ⟨o1, k o1 g1, g2⟩⟩
    · rw [upd_ne ha] at q
      refine (hok a u q).stay (fun b v hb z => ?_) (fun b z => by rw [upd_ne (ne' b _ z)]; exact z) fun b xs z => by rw [upd_ne (ne' b _ z)]; exact z
      obtain ⟨o, z0⟩ : ∃ o, B.get? b = some o := by
        rcases hb with rfl | hb
        · exact c1 _ _ q
        · exact c1 _ _ hb
      have z1 := fl.1 b o z0
      rw [z] at z1
      cases z1
      exact fl'.1 b _ z0
end
abbrev Cx.hand (X : Cx) (e : Addr) : Cx := { X with A := X.A.mark (some (.ref e)), calm := false, xe := fun _ _ => False }
theorem Cx.Ok.hand {X : Cx} (ok : X.Ok) (e : Addr) : (X.hand e).Ok :=
  ⟨ok.mod, ok.kind, ok.glob, ok.blt, ok.above, ok.inj, ok.has, ok.cab, (fun z => nomatch z), ok.frames, ok.stk, ok.exf, ok.bs, ok.bsz, ok.noex, ok.exfs, ok.funs, ok.frf⟩
section
variable {X : Cx} {pins : List (Addr × Obj)} {σ : St} {H : Hp} {s : Shared} {e : Addr}
theorem Inv.hand (I : Inv X pins σ H s) (e : Addr) : Inv (X.hand e) pins σ H s := ⟨I.ok.hand e, I.os, I.bare, I.base, I.loc, I.cell, I.free, I.freeC, I.pin, I.hok, I.len⟩
theorem Inv.unhand (ok : X.Ok) (I : Inv (X.hand e) pins σ H s) : Inv X pins σ H s := ⟨ok, I.os, I.bare, I.base, I.loc, I.cell, I.free, I.freeC, I.pin, I.hok, I.len⟩
theorem unbind_ok {M : Model} {A : Around} {E : Value → Shared → Prop} {i : Nat} {x : Str} {v : V} {Q : Unit → Shared → Prop} (I : Inv X pins σ H s) (hN : X.N.Nodup) (hi : X.N[i]? = some x) (hk : X.env.scope.names.lookup x = some .local) (hv : σ[i]? = some (some v))
    (h : ∀ s', Inv X pins (σ.set i none) H s' → Q () s') : wpAny M A (unbindName X.env x) Q E s := by
  obtain ⟨m, hn, hl⟩ := id I.loc
  have hcls : (X.env.scope.kind == .class || (X.env.scope.kind == .module && X.env.locals != X.env.globals)) = false := by rw [I.ok.kind]; rfl
  have hiσ : i < σ.length := by rw [I.len]; exact (List.getElem?_eq_some_iff.mp hi).1
  have cne := I.cne
  obtain ⟨u, _, l⟩ := hl i x v hi hv (.inl hk)
  have hm : m x = some u := by
    rcases l with ⟨_, z⟩ | ⟨z, _⟩
    · exact z
    · have z' : X.env.scope.names.lookup x = some .cell ∨ X.env.scope.names.lookup x = some .free := z
      rw [hk] at z'
      rcases z' with z' | z' <;> cases z'
  have tracked : ∀ {a : Addr} {h' : Heap}, (∃ o, s.heap.get? a = some o ∧ H a = none) → Heap.SameBut a s.heap h' → HOk X.prog X.w H h' := fun {a h'} ha hs b ob e => by
    obtain ⟨_, _, hfree⟩ := ha
    refine (I.hok b ob e).stay (fun c w' hc q => (hs.2 c ?_).trans q) (fun _ q => q) fun _ _ q => q
    rintro rfl
    rcases hc with rfl | hc
    · rw [hfree] at e; cases e
    · rw [hfree] at hc; cases hc
  refine wpAny_unbindName_local hk hn hm hcls fun h' u' hn' hs => ?_
  obtain ⟨oL, _, _, hoL, _⟩ := id hn
  refine h _ ⟨I.ok, I.os, I.bare, ⟨fun b o e n hb hx => ?_, fun b o e n hb hx => ?_, I.base.free, fun b o e hx => ?_, I.base.tups, I.base.frzs, I.base.tbls⟩, ⟨_, hn', fun j y v' e1 e2 e3 => ?_⟩, fun y c e => ?_, I.free, I.freeC, fun p hp => ?_, tracked ⟨oL, hoL, I.free⟩ hs, by simpa using I.len⟩
  · exact (hs.2 b (Nat.ne_of_lt (Nat.lt_of_lt_of_le (Heap.lt_size e) I.ok.above))).trans (I.base.keep b o e n hb hx)
  · obtain ⟨sl, e1⟩ := I.base.slot b o e n hb hx
    exact ⟨sl, (hs.2 b (Nat.ne_of_lt (Nat.lt_of_lt_of_le (Heap.lt_size e) I.ok.above))).trans e1⟩
  · obtain ⟨o', e1⟩ := I.base.there b o e hx
    exact ⟨o', (hs.2 b (Nat.ne_of_lt (Nat.lt_of_lt_of_le (Heap.lt_size e) I.ok.above))).trans e1⟩
  · by_cases hj : j = i
    · subst hj
      rw [List.getElem?_set_self hiσ] at e2
      cases e2
    · rw [List.getElem?_set_ne (Ne.symm hj)] at e2
      obtain ⟨u', r', q⟩ := hl j y v' e1 e2 e3
      refine ⟨u', r', ?_⟩
      rcases q with ⟨k, e⟩ | ⟨k, c, e, z⟩
      · refine .inl ⟨k, ?_⟩
        have : y ≠ x := fun e => hj (nodup_ix hN e1 (e ▸ hi))
        simp [this, e]
      · exact .inr ⟨k, c, e, z.sameBut hs (cne y c e)⟩
  · obtain ⟨w', z⟩ := I.cell y c e
    exact ⟨w', z.sameBut hs (cne y c e)⟩
  · obtain ⟨e, n, ne, nf, d⟩ := I.pin p hp
    exact ⟨(hs.2 p.1 ne).trans e, n, ne, nf, d⟩
end
def XE (X : Cx) (pins : List (Addr × Obj)) (σ : St) (E : XK) (x : Value) (s' : Shared) : Prop := ∃ H1 s1, Inv X pins σ H1 s1 ∧ CXr X.prog X.w X.stack H1 s1 E x s'
def XP (X : Cx) (pins : List (Addr × Obj)) (E : St → XK) (x : Value) (s' : Shared) : Prop := ∃ σ', XE X pins σ' (E σ') x s'
abbrev TSX := Ends → (St → XK) → St → Hp → Prop
abbrev TEX := St → Hp → VK → XK → Prop
def PSX (X : Cx) (sts : List Stmt) (t : TSX) : Prop :=
  ∀ (pins : List (Addr × Obj)) (s : Shared) (σ : St) (H : Hp) (D : Ends) (E : St → XK), Inv X pins σ H s → t D E σ H → wpAny (model X.prog X.w) X.A (execs sts X.env) (SP X pins D) (XP X pins E) s
def PEX (X : Cx) (e : Expr) (t : TEX) : Prop :=
  ∀ (pins : List (Addr × Obj)) (s : Shared) (σ : St) (H : Hp) (Q : VK) (E : XK), Inv X pins σ H s → t σ H Q E → wpAny (model X.prog X.w) X.A (eval e X.env) (EP X pins σ Q) (XE X pins σ E) s
section
variable {X : Cx} {e : Expr} {te : TEX} {pos : Pos} {a b : List Stmt} {t u : TSX}
end
section
variable {X : Cx} {k : Nat} {f C : Addr} {fd : FuncData} {ps : List Str} {sp : Sp} {dvs : List V} {ds : List Value} {x m : Str} {p pos apos : Pos} {e o : Expr} {es : List Expr} {ta : TE} {t : TA}
theorem run_fnX {pins : List (Addr × Obj)} {σ : St} {H : Hp} {s : Shared} {Q : VK} {E : XK} {us : List Value} {vs : List V} (F : FnOk X.prog X.w X.K X.mg X.base (CXr X.prog X.w) k f fd ps sp) (hr : Room k X.A) (hb : Binds X.K fd ps ds) (hd : Vals dvs ds)
    (I : Inv X pins σ H s) (r : Vals vs us) (h : sp (vs ++ dvs) H Q E) : wpAny (model X.prog X.w) X.A (call (.ref f) us) (EP X pins σ Q) (XE X pins σ E) s := by
  have r2 : Vals (vs ++ dvs) (us ++ ds) := r.append hd
  have hl : (us ++ ds).length = ps.length := by rw [← r2.length]; exact F.len _ _ _ _ h
  refine wpAny_call (codeAny_mono (F.run X.A X.stack s H ⟨us, []⟩ (us ++ ds) (vs ++ dvs) Q E hr I.env0 (hb s us I.kIn hl) r2 h) fun r s' hq => ?_)
  cases r with
  | error e => exact ⟨H, s, I, hq⟩
  | ok fl =>
    cases fl with
    | ret u => exact I.after hq
    | next => exact False.elim hq
    | brk => exact False.elim hq
    | cont => exact False.elim hq
def tCallX (sp : Sp) (dvs : List V) (t : TA) : TEX := fun σ H Q E => t σ H fun vs H1 => sp (vs ++ dvs) H1 Q E
theorem pex_call (F : FnOk X.prog X.w X.K X.mg X.base (CXr X.prog X.w) k f fd ps sp) (hr : Room k X.A) (hg : Gl X x) (hm : X.mg x = some (.ref f)) (hk : PySem.W.keepIn X.K (.ref f) = true) (hb : Binds X.K fd ps ds) (hd : Vals dvs ds)
    (ha : PA X.nox (e :: es) t) (hdb : (x == ("__debug__" : Str)) = false := by decide) (he : starEach (e :: es) X.env = (false, eval e X.env) :: starEach es X.env := by rfl) (hpl : (backTo pos (starEach es X.env)).any (·.1) = false := by rfl) :
    PEX X (.Call (.Name x p) (e :: es) [] pos) (tCallX sp dvs t) := by
  intro pins s σ H Q E I h
  refine wpAny_Call_Name_kw (ld_glob I hg hm ?_ hdb)
  refine PySem.W.callWith_K (h₀ := X.base) I.ok.mod.kin hk (wpAny_mono (ha pos pins s σ H _ (I.wish _) h) (fun us s1 q => ?_) fun _ _ z => z.elim) he hpl
  obtain ⟨vs, H1, I1, r, q⟩ := q
  exact ⟨I1.kIn, run_fnX F hr hb hd I1.unwish r q⟩
end
section
variable {X : Cx} {x n : Str} {HC : Addr} {i : Nat} {body suite : List Stmt} {b₀ : Stmt} {tb : TSX} {ts : TS} {np hpos pos : Pos}
def tTry (K : PySem.W.Frag) (HC : Addr) (i : Nat) (tb : TSX) (ts : TS) : TS := fun D σ H => tb D (fun σ' C od H1 => PySem.W.exmOne K C (.ref HC) = some true ∧
  ∀ e, H1 e = none → ts { nx := fun σ2 H2 => D.nx (σ2.set i none) H2, rt := D.rt, bk := fun σ2 H2 => D.bk (σ2.set i none) H2, ct := fun σ2 H2 => D.ct (σ2.set i none) H2 } (σ'.set i (some (.ref e))) (upd H1 e (xob e C od))) σ H
theorem ps_try (hN : X.N.Nodup) (hi : X.N[i]? = some n) (hn : X.env.scope.names.lookup n = some .local) (hst : X.stack = X.env :: X.outer) (hf : X.env.frame = some X.env.locals) (hm : X.mg x = some (.ref HC)) (hb : PSX X body tb)
    (hs : ∀ e, PSs (X.hand e) (b₀ :: suite) ts) (hg : Gl X x := by rfl) (hd : (x == ("__debug__" : Str)) = false := by decide) :
    PS X (.Try body [.ExceptHandler (some (.Name x np)) (some n) (b₀ :: suite) hpos] [] [] pos) (tTry X.K HC i tb ts) := by
  intro pins s σ H D I h
  have hfr : X.A.frames = some (X.env :: X.outer) := by rw [← hst]; exact I.ok.frames
  refine wpAny_Try_except (wpAny_mono (hb pins s σ H D _ I h) (fun f s1 q => ?_) fun xv s1 hx => ?_)
  · cases f with
    | next => exact wpAny_execs_nil q
    | ret v => exact q
    | brk => exact q
    | cont => exact q
  · obtain ⟨σ', H1, s0, I1, e, C, a0, H', B, rfl, os, bare, un, hok, fl, c1, c2, od, hdc, hex, hq⟩ := hx
    have fl1 : Heap.FlyingW B (X.env :: X.outer) e C a0 s1.heap := by rw [← hst]; exact fl
    refine noteD hfr hf fl1 hdc fun h₄ held₄ sm₄ dc₄ => ?_
    refine landsD (s := { s1 with heap := h₄ }) held₄ dc₄ fun h₅ fl₅ sm₅ dc₅ => ?_
    have fl₅' : Heap.FlyingW B X.stack e C a0 h₅ := by rw [hst]; exact fl₅
    obtain ⟨_, I₅⟩ := I1.flown (tk := s1.toks) os bare un hok fl c1 c2 fl₅' (sm₄.trans sm₅) dc₅
    refine wpAny_handleBy_cons (codeAny_handlers_test ?_) (by intro q; cases q)
    refine ld_glob (X := X.hand e) (I₅.hand e) hg hm ?_ hd
    obtain ⟨ob, hob, hobc⟩ := fl₅.there
    have LT : PySem.W.Looks (model X.prog X.w) h₅ (typeOf (.ref e)) C := by
      subst hobc
      exact (PySem.W.Looks.ld hob).andThen .now
    refine (PySem.W.exm_one I₅.kIn LT hex).here ?_
    refine codeAny_handlers_suite_as ?_
    refine againD fl₅ dc₅ fun h₆ fl₆ sm₆ dc₆ => ?_
    have fl₆' : Heap.FlyingW B X.stack e C a0 h₆ := by rw [hst]; exact fl₆
    obtain ⟨he, I₆⟩ := I1.flown (tk := s1.toks) os bare un hok fl c1 c2 fl₆' ((sm₄.trans sm₅).trans sm₆) dc₆
    refine store_ok (X := X.hand e) (I₆.hand e) hN hi (.inl hn) (show RelV (.ref e) (.ref e) from rfl) (fun s₇ I₇ => ?_) (.inr hn)
    refine wpAny_mono (hs e pins s₇ _ _ _ I₇ (hq e he)) (fun f s₈ q => ?_) fun _ _ z => z.elim
    have back : ∀ (f : Flow) (σ2 : St) (H2 : Hp) (s₈ : Shared), Inv (X.hand e) pins σ2 H2 s₈ → (∀ s10, Inv X pins (σ2.set i none) H2 s10 → SP X pins D f s10) →
        wpAny (model X.prog X.w) X.A (do bindName X.env n .none; unbindBehindTheSuite X.env n hpos) (fun _ s₃ => SP X pins D f s₃) X.xe s₈ := fun f σ2 H2 s₈ I2 k => by
      have I2 := I2.unhand I.ok
      refine wpAny_bind (wpAny_bindName (store_ok I2 hN hi (.inl hn) (show RelV .non .none from rfl) (fun s9 I9 => ?_) (.inr hn)))
      unfold unbindBehindTheSuite
      refine wpAny_onRaise (unbind_ok (v := .non) I9 hN hi hn ?_ fun s10 I10 => ?_)
      · rw [List.getElem?_set_self (by rw [I2.len]; exact (List.getElem?_eq_some_iff.mp hi).1)]
      · rw [List.set_set] at I10
        exact k s10 I10
    cases f with
    | next =>
      obtain ⟨σ2, H2, I2, q2⟩ := q
      exact back .next σ2 H2 s₈ I2 fun s10 I10 => ⟨_, _, I10, q2⟩
    | ret v =>
      obtain ⟨v', σ2, H2, I2, r2, q2⟩ := q
      exact back (.ret v) σ2 H2 s₈ I2 fun s10 I10 => ⟨v', _, _, I10, r2, q2⟩
    | brk =>
      obtain ⟨σ2, H2, I2, q2⟩ := q
      exact back .brk σ2 H2 s₈ I2 fun s10 I10 => ⟨_, _, I10, q2⟩
    | cont =>
      obtain ⟨σ2, H2, I2, q2⟩ := q
      exact back .cont σ2 H2 s₈ I2 fun s10 I10 => ⟨_, _, I10, q2⟩
end
structure RoomQ (k : Nat) (A : Around) : Prop where
  dp : A.depth + 3 * k + 5 < recursionLimit
  un : A.units + 16 * k + 200 < cLine
structure FnOkQ (P : Program) (w : World) (K : PySem.W.Frag) (mg : Str → Option Value) (base : Heap) (k : Nat) (f : Addr) (fd : FuncData) (ps : List Str) (sp : Sp) : Prop where
  len : ∀ vs H Q, sp vs H Q E0 → vs.length = ps.length
  run : ∀ (A : Around) (outer : List Env) (s : Shared) (H : Hp) (args : Args) (us : List Value) (vs : List V) (Q : VK), RoomQ k A → Env0 P w K mg base A outer s H → BindsTo s fd args (ps.zip us) → Vals vs us → sp vs H Q E0 →
    codeAny (model P w) A (.call (.ref f) args) (CR CX0 outer P w H s Q E0) s
section
variable {P : Program} {w : World} {K : PySem.W.Frag} {mg : Str → Option Value} {base : Heap} {N ps : List Str} {qual : Str} {f : Addr} {k : Nat} {sp : Sp}
end
section
variable {X : Cx} {k : Nat} {f : Addr} {fd : FuncData} {ps : List Str} {sp : Sp} {x : Str} {p pos : Pos} {e : Expr} {es : List Expr} {t : TA}
end
end L2
end
section
namespace L2
open PySem PySem.Spec PyProof.Rows PySem.SeqAt
inductive Th (H : Hp) : V → Prop where
  | non : Th H .non
  | bl (b : Bool) : Th H (.bl b)
  | int (i : Int) : Th H (.int i)
  | str (x : Str) : Th H (.str x)
  | lst {a : Addr} {xs : List V} (e : H a = some (.lst xs)) : Th H (.ref a)
  | frz {a : Addr} {o : Obj} {xs : List V} (e : H a = some (.frz o (.lst xs))) : Th H (.ref a)
  | tup {a : Addr} {xs : List V} (e : H a = some (.tup xs)) : Th H (.ref a)
  | dic {a : Addr} {kvs : List (Key × V)} (e : H a = some (.dK kvs)) : Th H (.ref a)
def isI : V → Bool
  | .int _ => true
  | _ => false
def isB : V → Bool
  | .bl _ => true
  | _ => false
section
variable {K : PySem.W.Frag}
theorem kit_int_non : PySem.W.kitOne K (.type "NoneType") (.type "int") = some false := by kernel_rfl
theorem kit_int_bl : PySem.W.kitOne K (.type "bool") (.type "int") = some true := by kernel_rfl
theorem kit_int_int : PySem.W.kitOne K (.type "int") (.type "int") = some true := by kernel_rfl
theorem kit_int_str : PySem.W.kitOne K (.type "str") (.type "int") = some false := by kernel_rfl
theorem kit_int_lst : PySem.W.kitOne K (.type "list") (.type "int") = some false := by kernel_rfl
theorem kit_int_tup : PySem.W.kitOne K (.type "tuple") (.type "int") = some false := by kernel_rfl
theorem kit_int_dic : PySem.W.kitOne K (.type "dict") (.type "int") = some false := by kernel_rfl
theorem kit_bool_non : PySem.W.kitOne K (.type "NoneType") (.type "bool") = some false := by kernel_rfl
theorem kit_bool_bl : PySem.W.kitOne K (.type "bool") (.type "bool") = some true := by kernel_rfl
theorem kit_bool_int : PySem.W.kitOne K (.type "int") (.type "bool") = some false := by kernel_rfl
theorem kit_bool_str : PySem.W.kitOne K (.type "str") (.type "bool") = some false := by kernel_rfl
theorem kit_bool_lst : PySem.W.kitOne K (.type "list") (.type "bool") = some false := by kernel_rfl
theorem kit_bool_tup : PySem.W.kitOne K (.type "tuple") (.type "bool") = some false := by kernel_rfl
theorem kit_bool_dic : PySem.W.kitOne K (.type "dict") (.type "bool") = some false := by kernel_rfl
theorem kit_tup_tup : PySem.W.kitOne K (.type "tuple") (.type "tuple") = some true := by kernel_rfl
theorem kit_lst_lst : PySem.W.kitOne K (.type "list") (.type "list") = some true := by kernel_rfl
theorem kit_lst_non : PySem.W.kitOne K (.type "NoneType") (.type "list") = some false := by kernel_rfl
theorem kit_lst_bl : PySem.W.kitOne K (.type "bool") (.type "list") = some false := by kernel_rfl
theorem kit_lst_int : PySem.W.kitOne K (.type "int") (.type "list") = some false := by kernel_rfl
theorem kit_lst_str : PySem.W.kitOne K (.type "str") (.type "list") = some false := by kernel_rfl
theorem kit_lst_tup : PySem.W.kitOne K (.type "tuple") (.type "list") = some false := by kernel_rfl
theorem kit_lst_dic : PySem.W.kitOne K (.type "dict") (.type "list") = some false := by kernel_rfl
end
section
variable {X : Cx}
theorem call_isint : CallR X (.builtin "isinstance") (fun xs H Q => ∃ x, xs = [x, .ty "int"] ∧ Th H x ∧ Q (.bl (isI x || isB x)) H) := by
  intro pins s σ H xs us Q I r h
  obtain ⟨x, rfl, th, q⟩ := h
  obtain ⟨u, v, rfl, rx, rt⟩ := r.two
  obtain rfl : v = Value.type "int" := rt
  cases th with
  | non => exact isinst_ok I rx .non kit_int_non fun tk => ⟨.bl _, H, I.tok tk, rfl, q⟩
  | bl b => exact isinst_ok I rx (.bl b) kit_int_bl fun tk => ⟨.bl _, H, I.tok tk, rfl, q⟩
  | int i => exact isinst_ok I rx (.int i) kit_int_int fun tk => ⟨.bl _, H, I.tok tk, rfl, q⟩
  | str z => exact isinst_ok I rx (.str z) kit_int_str fun tk => ⟨.bl _, H, I.tok tk, rfl, q⟩
  | lst e => exact isinst_ok I rx (.lst e) kit_int_lst fun tk => ⟨.bl _, H, I.tok tk, rfl, q⟩
  | frz e => exact isinst_ok I rx (.frz e) kit_int_lst fun tk => ⟨.bl _, H, I.tok tk, rfl, q⟩
  | tup e => exact isinst_ok I rx (.tup e) kit_int_tup fun tk => ⟨.bl _, H, I.tok tk, rfl, q⟩
  | dic e => exact isinst_ok I rx (.dK e) kit_int_dic fun tk => ⟨.bl _, H, I.tok tk, rfl, q⟩
theorem call_isbool : CallR X (.builtin "isinstance") (fun xs H Q => ∃ x, xs = [x, .ty "bool"] ∧ Th H x ∧ Q (.bl (isB x)) H) := by
  intro pins s σ H xs us Q I r h
  obtain ⟨x, rfl, th, q⟩ := h
  obtain ⟨u, v, rfl, rx, rt⟩ := r.two
  obtain rfl : v = Value.type "bool" := rt
  cases th with
  | non => exact isinst_ok I rx .non kit_bool_non fun tk => ⟨.bl _, H, I.tok tk, rfl, q⟩
  | bl b => exact isinst_ok I rx (.bl b) kit_bool_bl fun tk => ⟨.bl _, H, I.tok tk, rfl, q⟩
  | int i => exact isinst_ok I rx (.int i) kit_bool_int fun tk => ⟨.bl _, H, I.tok tk, rfl, q⟩
  | str z => exact isinst_ok I rx (.str z) kit_bool_str fun tk => ⟨.bl _, H, I.tok tk, rfl, q⟩
  | lst e => exact isinst_ok I rx (.lst e) kit_bool_lst fun tk => ⟨.bl _, H, I.tok tk, rfl, q⟩
  | frz e => exact isinst_ok I rx (.frz e) kit_bool_lst fun tk => ⟨.bl _, H, I.tok tk, rfl, q⟩
  | tup e => exact isinst_ok I rx (.tup e) kit_bool_tup fun tk => ⟨.bl _, H, I.tok tk, rfl, q⟩
  | dic e => exact isinst_ok I rx (.dK e) kit_bool_dic fun tk => ⟨.bl _, H, I.tok tk, rfl, q⟩
def isLst (H : Hp) : V → Bool
  | .ref a => match H a with | some (.lst _) => true | some (.frz _ (.lst _)) => true | _ => false
  | _ => false
theorem call_islist : CallR X (.builtin "isinstance") (fun xs H Q => ∃ x, xs = [x, .ty "list"] ∧ Th H x ∧ Q (.bl (isLst H x)) H) := by
  intro pins s σ H xs us Q I r h
  obtain ⟨x, rfl, th, q⟩ := h
  obtain ⟨u, v, rfl, rx, rt⟩ := r.two
  obtain rfl : v = Value.type "list" := rt
  cases th with
  | non => exact isinst_ok I rx .non kit_lst_non fun tk => ⟨.bl _, H, I.tok tk, rfl, q⟩
  | bl b => exact isinst_ok I rx (.bl b) kit_lst_bl fun tk => ⟨.bl _, H, I.tok tk, rfl, q⟩
  | int i => exact isinst_ok I rx (.int i) kit_lst_int fun tk => ⟨.bl _, H, I.tok tk, rfl, q⟩
  | str z => exact isinst_ok I rx (.str z) kit_lst_str fun tk => ⟨.bl _, H, I.tok tk, rfl, q⟩
  | lst e => exact isinst_ok I rx (.lst e) kit_lst_lst fun tk => ⟨.bl _, H, I.tok tk, rfl, by simp only [isLst, e] at q; exact q⟩
  | frz e => exact isinst_ok I rx (.frz e) kit_lst_lst fun tk => ⟨.bl _, H, I.tok tk, rfl, by simp only [isLst, e] at q; exact q⟩
  | tup e => exact isinst_ok I rx (.tup e) kit_lst_tup fun tk => ⟨.bl _, H, I.tok tk, rfl, by simp only [isLst, e] at q; exact q⟩
  | dic e => exact isinst_ok I rx (.dK e) kit_lst_dic fun tk => ⟨.bl _, H, I.tok tk, rfl, by simp only [isLst, e] at q; exact q⟩
def IsC (K : PySem.W.Frag) (D : Addr) (c : V) (b : Bool) : Prop := EX.Cls K D ∧ ((∃ C, c = .ref C ∧ b = false ∧ PySem.W.kin_not K D C = true) ∨
  (∃ C, c = .ref C ∧ b = true ∧ PySem.W.typeIn K (.ref C) = some (.type "type") ∧ PySem.W.mroIn K C (.type "object") = some true ∧ PySem.W.subIn K (.ref D) (.ref C) = some true) ∨
  (∃ T, c = .ty T ∧ b = true ∧ typeOf (.type T) = pure (.type "type") ∧ PySem.W.subIn K (.ref D) (.type T) = some true))
theorem call_isexc {D : Addr} {c : V} {b : Bool} (hc : IsC X.K D c b) : CallR X (.builtin "isinstance") (fun xs H Q => ∃ e od, xs = [.ref e, c] ∧ H e = some (xob e (.ref D) od) ∧ Q (.bl b) H) := by
  intro pins s σ H xs us Q I r h
  obtain ⟨e, od, rfl, he, q⟩ := h
  obtain ⟨u, v, rfl, rx, rt⟩ := r.two
  obtain rfl : u = Value.ref e := rx
  obtain ⟨⟨oe, h1, h2, _⟩, _, _⟩ := (show ObjOk X.prog X.w H s.heap e (xob e (.ref D) od) from I.hok e _ he)
  obtain ⟨k, hc⟩ := hc
  rcases hc with ⟨C, rfl, rfl, e1⟩ | ⟨C, rfl, rfl, e1, e2, e3⟩ | ⟨T, rfl, rfl, e1, e3⟩
  · obtain rfl : v = Value.ref C := rt
    exact EX.call_not I.kIn h1 h2 k e1 ⟨.bl _, H, I.tok _, rfl, q⟩
  · obtain rfl : v = Value.ref C := rt
    exact EX.call_yes I.kIn h1 h2 k e1 e2 e3 ⟨.bl _, H, I, rfl, q⟩
  · obtain rfl : v = Value.type T := rt
    exact EX.call_yesT I.kIn h1 h2 k e1 e3 ⟨.bl _, H, I, rfl, q⟩
end
mutual
inductive DatR (K : PySem.W.Frag) (H : Hp) : V → PyData → Prop
  | non : DatR K H .non .none
  | bl (b : Bool) : DatR K H (.bl b) (.bool b)
  | int (i : Int) : DatR K H (.int i) (.int i)
  | str (x : Str) : DatR K H (.str x) (.str x)
  | lst {a : Addr} {xs : List V} {ds : List PyData} : SqL K H a xs → DatsR K H xs ds → DatR K H (.ref a) (.list ds)
  | tup {a : Addr} {xs : List V} {ds : List PyData} : SqT K H a xs → DatsR K H xs ds → DatR K H (.ref a) (.tuple ds)
inductive DatsR (K : PySem.W.Frag) (H : Hp) : List V → List PyData → Prop
  | nil : DatsR K H [] []
  | cons {x : V} {d : PyData} {xs : List V} {ds : List PyData} : DatR K H x d → DatsR K H xs ds → DatsR K H (x :: xs) (d :: ds)
end
section
variable {X : Cx} {pins : List (Addr × Obj)} {σ : St} {H : Hp} {s : Shared}
mutual
theorem DatR.reads (I : Inv X pins σ H s) : ∀ {v : V} {d : PyData} {u : Value}, DatR X.K H v d → RelV v u → ∃ as, Reads s.heap u d as
  | _, _, _, .non, r => ⟨[], by cases (show _ = Value.none from r); exact .none⟩
  | _, _, _, .bl b, r => ⟨[], by cases (show _ = Value.bool b from r); exact .bool b⟩
  | _, _, _, .int i, r => ⟨[], by obtain ⟨t, rfl⟩ := r; exact .int i t⟩
  | _, _, _, .str x, r => ⟨[], by obtain ⟨t, rfl⟩ := r; exact .str x t⟩
  | _, _, _, .lst (a := a) sq ds, r => by
    cases (show _ = Value.ref a from r)
    obtain ⟨its, rv, ⟨o, n, e, hc, _, hd⟩, _⟩ := I.list sq
    obtain ⟨as, ra⟩ := DatsR.reads I ds rv
    exact ⟨_, .list e hc hd (by simpa using ra)⟩
  | _, _, _, .tup (a := a) sq ds, r => by
    cases (show _ = Value.ref a from r)
    obtain ⟨its, rv, ⟨o, e, hc, n, hd⟩, _⟩ := I.tuple sq
    obtain ⟨as, ra⟩ := DatsR.reads I ds rv
    exact ⟨_, .tuple e hc hd (by simpa using ra)⟩
theorem DatsR.reads (I : Inv X pins σ H s) : ∀ {vs : List V} {ds : List PyData} {us : List Value}, DatsR X.K H vs ds → Vals vs us → ∃ as, ReadsAll s.heap us ds as
  | _, _, _, .nil, .nil => ⟨[], .nil⟩
  | _, _, _, .cons d ds, .cons r rs => by
    obtain ⟨as, ra⟩ := DatR.reads I d r
    obtain ⟨bs, rb⟩ := DatsR.reads I ds rs
    exact ⟨_, .cons ra rb⟩
end
end
section
variable {X : Cx}
def rEqD (K : PySem.W.Frag) : R2 := fun x y H Q => ∃ da db, DatR K H x da ∧ DatR K H y db ∧ shaped da = true ∧ shaped db = true ∧ Q (.bl (PyData.eqv da db)) H
theorem op_eqD (hu : X.A.units + 64 < cLine) : OpR X (compareOp .Eq) (rEqD X.K) := by
  intro pins s σ H x y v u Q I rx ry h
  obtain ⟨da, db, ra, rb, ha, hb, q⟩ := h
  obtain ⟨as, r1⟩ := ra.reads I rx
  obtain ⟨bs, r2⟩ := rb.reads I ry
  exact eq_dataH r1 r2 ha hb hu ⟨.bl _, H, I, rfl, q⟩
end
end L2
end
section
namespace L2
open PySem PySem.Spec PyProof.Rows
def compN (x : Str) (N : List Str) : List Str := x :: N.map fun y => if y = x then ("" : Str) else y
def CapOk (X : Cx) (x : Str) (cl : List (Str × Addr)) : List (Str × NameKind) → Prop
  | [] => True
  | (n, k) :: r => (((n = x ∨ n = ".0") ∧ k = .local) ∨ (k ≠ .local ∧ k ≠ .cell ∧ k ≠ .free) ∨ (k = .cell ∧ n ≠ x ∧ n ≠ "" ∧ X.env.scope.names.lookup n = some .cell ∧ cl.lookup n = X.env.cells.lookup n)) ∧ CapOk X x cl r
def ClOk (X : Cx) : List (Str × Addr) → Prop
  | [] => True
  | (n, c) :: r => X.env.cells.lookup n = some c ∧ ClOk X r
theorem CapOk.at {X : Cx} {x : Str} {cl : List (Str × Addr)} {y : Str} {k : NameKind} : ∀ {l : List (Str × NameKind)}, CapOk X x cl l → l.lookup y = some k →
    ((y = x ∨ y = ".0") ∧ k = .local) ∨ (k ≠ .local ∧ k ≠ .cell ∧ k ≠ .free) ∨ (k = .cell ∧ y ≠ x ∧ y ≠ "" ∧ X.env.scope.names.lookup y = some .cell ∧ cl.lookup y = X.env.cells.lookup y)
  | [], _, h => by simp at h
  | (n, k') :: r, ⟨h1, h2⟩, h => by
    rw [List.lookup_cons] at h
    split at h
    · rename_i e
      cases h
      rw [beq_iff_eq.mp e]
      exact h1
    · exact CapOk.at h2 h
theorem ClOk.at {X : Cx} {y : Str} {c : Addr} : ∀ {l : List (Str × Addr)}, ClOk X l → l.lookup y = some c → X.env.cells.lookup y = some c
  | [], _, h => by simp at h
  | (n, k') :: r, ⟨h1, h2⟩, h => by
    rw [List.lookup_cons] at h
    split at h
    · rename_i e
      cases h
      rw [beq_iff_eq.mp e]
      exact h1
    · exact ClOk.at h2 h
abbrev cxC (X : Cx) (x : Str) (scope : Scope) (cl : List (Str × Addr)) (C : Addr) (s₂ : Shared) (H₂ : Hp) (fp : List Addr) : Cx :=
  { X with N := compN x X.N, s₀ := s₂, H₀ := H₂, env := compEnvC scope cl C X.env, outer := X.stack, ex := fp, fn := fun _ => false, pn := [], xe := fun _ _ => False }
section
variable {X : Cx} {pins : List (Addr × Obj)} {σ : St} {H₂ : Hp} {s₂ : Shared} {fp : List Addr} {x : Str} {scope : Scope} {cl : List (Str × Addr)} {C : Addr}
theorem okC (I : Inv X pins σ H₂ s₂) (hf : ∀ b ∈ fp, FpOk X pins H₂ b) (ho : ∀ b ∈ fp, ∃ o, s₂.heap.get? b = some o) (hkind : scope.kind = .function) (hc : CapOk X x cl (relabel scope X.env).names) (hcl : ClOk X cl) (hC : s₂.heap.objs.size ≤ C) :
    (cxC X x scope cl C s₂ H₂ fp).Ok where
  mod := I.ok.mod
  kind := hkind
  glob := I.ok.glob
  blt := I.ok.blt
  above := hC
  inj := fun y z c h1 h2 => I.ok.inj y z c (hcl.at h1) (hcl.at h2)
  has := fun y hy => by
    have hy' : (relabel scope X.env).names.lookup y = some .cell ∨ (relabel scope X.env).names.lookup y = some .free := hy
    rcases hy' with h | h
    · rcases hc.at h with ⟨_, z⟩ | ⟨_, z, _⟩ | ⟨_, _, _, z1, z2⟩
      · cases z
      · exact absurd rfl z
      · obtain ⟨c, e⟩ := I.ok.has y (.inl z1)
        exact ⟨c, z2.trans e⟩
    · rcases hc.at h with ⟨_, z⟩ | ⟨_, _, z⟩ | ⟨z, _⟩
      · cases z
      · exact absurd rfl z
      · cases z
  cab := fun y c h _ => absurd (show false = true from h) Bool.false_ne_true
  hd := I.ok.hd
  frames := I.ok.frames
  stk := .inl rfl
  exf := fun b hb => by
    obtain ⟨o, e⟩ := ho b hb
    exact ⟨Nat.ne_of_lt (Nat.lt_of_lt_of_le (Heap.lt_size e) hC), fun y c h => (hf b hb).2.2.2.2.1 y c (hcl.at h)⟩
  bs := I.bs
  bsz := Nat.le_trans I.ok.bsz I.sz
  noex := fun b o e hb => by
    rcases (hf b hb).2.2.2.1 with z | z
    · exact I.ok.noex b o e z
    · exact absurd (Nat.lt_of_lt_of_le (Heap.lt_size (I.ok.bs b o e).1) z) (Nat.lt_irrefl _)
  exfs := fun b hb z => by
    rcases List.mem_cons.mp (I.stkSub b z) with q | q
    · exact (hf b hb).2.1 q
    · exact (hf b hb).2.2.1 q
  funs := I.stack
  frf := I.stkFree
theorem invC {h₁ : Heap} {tk : Nat} (I : Inv X pins σ H₂ s₂) (hf : ∀ b ∈ fp, FpOk X pins H₂ b) (ho : ∀ b ∈ fp, ∃ o, s₂.heap.get? b = some o) (hkind : scope.kind = .function) (hc : CapOk X x cl (relabel scope X.env).names) (hcl : ClOk X cl) (hx0 : x ≠ "") (hdot : (".0" : Str) ∉ X.N)
    (hC : C = s₂.heap.objs.size + 1) (hns : h₁.Ns C fun _ => none) (old : ∀ b o, s₂.heap.get? b = some o → h₁.get? b = some o) (hD : ∃ n, h₁.get? s₂.heap.objs.size = some { cls := .type "list", data := .seq #[] n }) :
    Inv (cxC X x scope cl C s₂ H₂ fp) [] (none :: σ) (upd H₂ s₂.heap.objs.size (.lst [])) { s₂ with heap := h₁, toks := tk } := by
  have hn : H₂ s₂.heap.objs.size = none := I.hok.fresh (Nat.le_refl _)
  refine ⟨okC I hf ho hkind hc hcl (by rw [hC]; exact Nat.le_succ _), rfl, I.bare, Un.laid old (Nat.le_refl _) hn, ⟨_, hns, fun i y v h1 h2 h3 => ?_⟩, fun y c e => ?_, ?_, fun y c e => ?_, fun p hp => absurd (show p ∈ ([] : List (Addr × Obj)) from hp) (by simp), ?_, ?_⟩
  · cases i with
    | zero =>
      have h2' : some (none : Option V) = some (some v) := h2
      cases h2'
    | succ i =>
      have h1' : (X.N.map fun y => if y = x then ("" : Str) else y)[i]? = some y := h1
      have h2' : σ[i]? = some (some v) := h2
      rw [List.getElem?_map] at h1'
      cases e : X.N[i]? with
      | none => rw [e] at h1'; cases h1'
      | some z =>
        rw [e] at h1'
        have h1'' : (if z = x then ("" : Str) else z) = y := Option.some.inj h1'
        have cap : ∀ k, (relabel scope X.env).names.lookup y = some k → k = .local ∨ k = .cell ∨ k = .free → X.env.scope.names.lookup y = some .cell ∧ cl.lookup y = X.env.cells.lookup y ∧ k = .cell ∧ z = y := fun k hk hv => by
          rcases hc.at hk with ⟨q, _⟩ | ⟨q1, q2, q3⟩ | ⟨q0, q1, q2, q3, q4⟩
          · exfalso
            rcases q with q | q
            · subst q
              by_cases hz : z = y
              · rw [if_pos hz] at h1''
                exact hx0 h1''.symm
              · rw [if_neg hz] at h1''
                exact hz h1''
            · subst q
              by_cases hz : z = x
              · rw [if_pos hz] at h1''
                exact absurd h1'' (by decide +kernel)
              · rw [if_neg hz] at h1''
                subst h1''
                exact hdot (List.mem_of_getElem? e)
          · rcases hv with q | q | q
            · exact absurd q q1
            · exact absurd q q2
            · exact absurd q q3
          · refine ⟨q3, q4, q0, ?_⟩
            by_cases hz : z = x
            · rw [if_pos hz] at h1''
              exact absurd h1''.symm q2
            · rw [if_neg hz] at h1''
              exact h1''
        have h3' : (relabel scope X.env).names.lookup y = some .local ∨ (relabel scope X.env).names.lookup y = some .cell ∨ (relabel scope X.env).names.lookup y = some .free := h3
        obtain ⟨k, hk, hv⟩ : ∃ k, (relabel scope X.env).names.lookup y = some k ∧ (k = .local ∨ k = .cell ∨ k = .free) := by
          rcases h3' with q | q | q
          · exact ⟨_, q, .inl rfl⟩
          · exact ⟨_, q, .inr (.inl rfl)⟩
          · exact ⟨_, q, .inr (.inr rfl)⟩
        obtain ⟨c1, c2, c3, rfl⟩ := cap k hk hv
        subst c3
        obtain ⟨m, _, hl⟩ := I.loc
        obtain ⟨u, r, l⟩ := hl i z v e h2' (.inr (.inl c1))
        refine ⟨u, r, ?_⟩
        rcases l with ⟨q, _⟩ | ⟨_, c, q1, q2⟩
        · have q' : X.env.scope.names.lookup z = some .local := q
          rw [c1] at q'
          cases q'
        · refine .inr ⟨.inl hk, c, c2.trans q1, ?_⟩
          obtain ⟨oc, g1, g2⟩ := q2
          exact ⟨oc, old _ _ g1, g2⟩
  · obtain ⟨v, oc, g1, g2⟩ := I.cell y c (hcl.at e)
    exact ⟨v, oc, old _ _ g1, g2⟩
  · show (upd H₂ s₂.heap.objs.size (.lst [])) C = none
    rw [upd_ne (by rw [hC]; exact Nat.ne_of_gt (Nat.lt_succ_self _))]
    exact I.hok.fresh (by rw [hC]; exact Nat.le_succ _)
  · obtain ⟨v, oc, g1, g2⟩ := I.cell y c (hcl.at e)
    rw [upd_ne (Nat.ne_of_lt (Heap.lt_size g1))]
    exact I.freeC y c (hcl.at e)
  · obtain ⟨n, e⟩ := hD
    exact I.hok.laid old (Nat.le_refl _) ⟨Nat.zero_le _, [], n, .nil, e⟩
  · show (none :: σ).length = (compN x X.N).length
    simp [compN, I.len]
theorem fpC (I : Inv X pins σ H₂ s₂) (hf : ∀ b ∈ fp, FpOk X pins H₂ b) (ho : ∀ b ∈ fp, ∃ o, s₂.heap.get? b = some o) (hcl : ClOk X cl) (hC : s₂.heap.objs.size ≤ C) {H : Hp} (hn : ∀ b ∈ fp, H b = none) : ∀ b ∈ fp, FpOk (cxC X x scope cl C s₂ H₂ fp) [] H b := fun b hb => by
  obtain ⟨o, e⟩ := ho b hb
  refine ⟨hn b hb, Nat.ne_of_lt (Nat.lt_of_lt_of_le (Heap.lt_size e) hC), fun z => ?_, .inl hb, fun y c h => (hf b hb).2.2.2.2.1 y c (hcl.at h), fun p hp => absurd (show p ∈ ([] : List (Addr × Obj)) from hp) (by simp)⟩
  rcases List.mem_cons.mp (I.stkSub b z) with q | q
  · exact (hf b hb).2.1 q
  · exact (hf b hb).2.2.1 q
end
theorem compLoop_go {prog : Program} {w : World} {A : Around} {R : Result → Shared → Prop} {s : Shared} {elt target iter : Expr} {ifs : List Expr} {scope : Scope} {pos : Pos} {it acc : Value} {env : Env} (I : Nat → Shared → Prop)
    (turn : ∀ n s, I n s → wpAny (model prog w) A (pyNext it) (fun r s₁ => match r with
      | none => R (.ok .next) s₁
      | some v => wpAny (model prog w) A (letOwnedTupleGo target it v) (fun _ s₀ => wpAny (model prog w) A (assign target env v) (fun _ s₂ =>
          wpAny (model prog w) A (forIn ifs true fun c r => if r = true then do let ok ← isTrue c env (eval c env); pure (ForInStep.yield ok) else pure (ForInStep.yield r)) (fun ok s₃ =>
            if ok = true then wpAny (model prog w) A (eval elt env) (fun x s₄ =>
              wpAny (model prog w) A (call (.builtin "list.append") [acc, x]) (fun _ s₅ => ∃ m, m < n ∧ I m s₅) (fun _ _ => False) s₄) (fun _ _ => False) s₃
            else ∃ m, m < n ∧ I m s₃) (fun _ _ => False) s₂) (fun _ _ => False) s₀) (fun _ _ => False) s₁) (fun _ _ => False) s)
    (n : Nat) (h : I n s) :
    codeAny (model prog w) A (.compLoop (.ListComp elt [⟨target, iter, ifs, 0⟩] scope pos) 0 it acc env) R s := by
  refine codeAny_loop rfl I (fun n s hI => ?_) n h
  show wpAny _ A ((compTurn (.ListComp elt [⟨target, iter, ifs, 0⟩] scope pos) 0 it acc env).onRaise (fun x => do noteFrame x env; theTreesLotGoes x)) _ _ s
  refine wpAny_noted ?_
  refine wpAny_noRaise ?_
  rw [compTurn_list]
  refine wpAny_bind (wpAny_standAt (wpAny_bind (wpAny_mono (turn n s hI) (fun r s₁ h₁ => ?_) fun _ _ h' => h')))
  cases r with
  | none => exact wpAny_pure h₁
  | some v =>
    refine wpAny_bind (wpAny_mono h₁ (fun _ s₀ h₀ => wpAny_bind (wpAny_mono h₀ (fun _ s₂ h₂ => wpAny_bind (wpAny_mono h₂ (fun ok s₃ h₃ => ?_) fun _ _ h' => h')) fun _ _ h' => h')) fun _ _ h' => h')
    cases ok with
    | false => exact wpAny_pure ⟨rfl, h₃⟩
    | true =>
      exact wpAny_bind (wpAny_bind (wpAny_mono h₃ (fun x s₄ h₄ => wpAny_bind (wpAny_mono h₄ (fun _ s₅ h₅ => wpAny_pure (wpAny_pure ⟨rfl, h₅⟩)) fun _ _ h' => h')) fun _ _ h' => h'))
inductive Ifs (PTc : Expr → TT → Prop) : List Expr → TT → Prop
  | nil : Ifs PTc [] (fun _ H Q => Q true H)
  | one {c : Expr} {t : TT} : PTc c t → Ifs PTc [c] t
def tComp (wi : TI) (tc : TT) (te : TE) : TE := fun σ H Q => wi σ H fun J H1 => ∀ D, H1 D = none → ∃ W : Nat → Nat → List V → Hp → Prop, (∃ m, W 0 m [] (upd H1 D (.lst []))) ∧ ∀ i m ys H, W i m ys H → H D = some (.lst ys) ∧
  ((J.stop i H ∧ Q (.ref D) H) ∨ (J.go i H ∧ ∃ N : List V → Hp → Prop, (∀ zs H', N zs H' → ∃ m', m' < m ∧ W (i + 1) m' zs H') ∧ ∀ x H', J.yld i H x H' → tc (some x :: σ) H' fun b H2 => if b = true then te (some x :: σ) H2 fun y H3 => H3 D = some (.lst ys) ∧ ys.length < sizeLine ∧ N (ys ++ [y]) (upd H3 D (.lst (ys ++ [y])))
    else N ys H2))
section
variable {X : Cx} {x : Str} {px pos : Pos} {scope : Scope} {cl : List (Str × Addr)} {elt iter : Expr} {ifs : List Expr} {wi : TI} {tc : TT} {te : TE}
theorem comp_block (hcalm : X.calm = true) (hkind : scope.kind = .function) (hnc : ∀ y ∈ scope.names, y.2 ≠ .cell) (hc : CapOk X x cl (relabel scope X.env).names) (hcl : ClOk X cl) (hx0 : x ≠ "") (hdot : (".0" : Str) ∉ X.N) (hxl : scope.names.lookup x = some .local) (hN : (compN x X.N).Nodup)
    (ht : ∀ C s₂ H₂ fp, Ifs (PT (cxC X x scope cl C s₂ H₂ fp)) ifs tc) (he : ∀ C s₂ H₂ fp, PE (cxC X x scope cl C s₂ H₂ fp) elt te)
    {pins : List (Addr × Obj)} {σ : St} {H₂ : Hp} {s₂ : Shared} {Q : VK} {it : Addr} {fp : List Addr} {tn : Nat → Heap → Prop} {J : It} {RR : Value → Addr → Result → Shared → Prop} {E : Value → Shared → Prop} (I : Inv X pins σ H₂ s₂) (T : Turn X.prog X.w X.K (.Name x px) J fp it tn) (st : tn 0 s₂.heap)
    (hf : ∀ b ∈ fp, FpOk X pins H₂ b)
    (hq : ∀ D, H₂ D = none → ∃ W : Nat → Nat → List V → Hp → Prop, (∃ m, W 0 m [] (upd H₂ D (.lst []))) ∧ ∀ i m ys H, W i m ys H → H D = some (.lst ys) ∧
      ((J.stop i H ∧ Q (.ref D) H) ∨ (J.go i H ∧ ∃ N : List V → Hp → Prop, (∀ zs H', N zs H' → ∃ m', m' < m ∧ W (i + 1) m' zs H') ∧ ∀ x H', J.yld i H x H' → tc (some x :: σ) H' fun b H2 => if b = true then te (some x :: σ) H2 fun y H3 => H3 D = some (.lst ys) ∧ ys.length < sizeLine ∧ N (ys ++ [y]) (upd H3 D (.lst (ys ++ [y])))
        else N ys H2)))
    (hRR : ∀ D C s' H', Inv X pins σ H' s' → Q (.ref D) H' → H' C = none → C ≠ X.env.locals → X.s₀.heap.objs.size ≤ C → (∀ y c, X.env.cells.lookup y = some c → c ≠ C) → (∀ p ∈ X.pn ++ pins, p.1 ≠ C) → (∃ m, s'.heap.Ns C m) → RR (.ref D) C (.ok .next) s') :
    wpAny (model X.prog X.w) X.A (newList []) (fun acc s₃ => wpAny (model X.prog X.w) X.A (newFunctionEnv scope X.env.globals cl [] X.env.qual none .none (some X.env)) (fun cenv s₄ =>
      codeAny (model X.prog X.w) X.A (.compStart (.ListComp elt [⟨.Name x px, iter, ifs, 0⟩] scope pos) 0 (.ref it) acc { cenv with scope := relabel scope X.env }) (RR acc cenv.locals) s₄) E s₃) E s₂ := by
  refine wpAny_newObj_type (wpAny_newFunctionEnv hnc (by intro y hy; simp at hy) (fun h₁ hns₁ hsb₁ => ?_) hkind)
  dsimp only at hns₁ hsb₁ ⊢
  have ho : ∀ b ∈ fp, ∃ o, s₂.heap.get? b = some o := fun b hb => let ⟨o, e, _⟩ := T.obj 0 _ st b hb; ⟨o, e⟩
  generalize hH2 : s₂.heap.push { cls := .type "list", dict := none, data := .seq ([] : List Value).toArray } = P2 at hns₁ hsb₁ ⊢
  have hC : P2.objs.size = s₂.heap.objs.size + 1 := by rw [← hH2, Heap.size_push]
  have old : ∀ b o, s₂.heap.get? b = some o → h₁.get? b = some o := fun b o e => hsb₁.extBut b o (by rw [hC]; exact Nat.ne_of_lt (Nat.lt_succ_of_lt (Heap.lt_size e))) (Heap.get?_push_of_some _ (hH2 ▸ Heap.get?_push_of_some _ e))
  have hD : ∃ n, h₁.get? s₂.heap.objs.size = some { cls := .type "list", data := .seq #[] n } := ⟨_, hsb₁.extBut _ _ (by rw [hC]; exact Nat.ne_of_lt (Nat.lt_succ_self _)) (Heap.get?_push_of_some _ (hH2 ▸ Heap.get?_push_size _ rfl))⟩
  have hns' : h₁.Ns P2.objs.size fun _ => none := by
    have e : (fun x : Str => ([] : List (Str × Value)).reverse.lookup x) = fun _ => none := by funext y; rfl
    rw [← e]
    exact hns₁
  have I0 := invC (tk := s₂.toks + ([] : List (Str × Value)).length) I hf ho hkind hc hcl hx0 hdot hC hns' old hD
  obtain ⟨W, ⟨m0, w0⟩, turn⟩ := hq _ (I.hok.fresh (Nat.le_refl _))
  have hCs : X.s₀.heap.objs.size ≤ P2.objs.size := by rw [hC]; exact Nat.le_succ_of_le I.sz
  have loop : ∀ s₃ : Shared, s₃ = { s₂ with heap := h₁, toks := s₂.toks + ([] : List (Str × Value)).length } →
      codeAny (model X.prog X.w) X.A (.compLoop (.ListComp elt [⟨.Name x px, iter, ifs, 0⟩] scope pos) 0 (.ref it) (.ref s₂.heap.objs.size) (compEnvC scope cl P2.objs.size X.env)) (RR (.ref s₂.heap.objs.size) P2.objs.size) s₃ := by
    rintro s₃ rfl
    refine compLoop_go (fun n s' => ∃ i ys v H, Inv (cxC X x scope cl P2.objs.size s₂ H₂ fp) [] (v :: σ) H s' ∧ tn i s'.heap ∧ (∀ b ∈ fp, H b = none) ∧ W i n ys H) ?_ m0
      ⟨0, [], none, _, I0, T.keep _ _ _ st fun b _ o e => old b o e, fun b hb => by rw [upd_ne (by obtain ⟨o, e⟩ := ho b hb; exact Nat.ne_of_lt (Heap.lt_size e))]; exact (hf b hb).1, w0⟩
    rintro n s' ⟨i, ys, v, H, I', st', fr', w'⟩
    have fpn : ∀ {H : Hp}, (∀ b ∈ fp, H b = none) → ∀ b ∈ fp, FpOk (cxC X x scope cl P2.objs.size s₂ H₂ fp) [] H b := fun hn => fpC I hf ho hcl (by rw [hC]; exact Nat.le_succ _) hn
    obtain ⟨hDl, go⟩ := turn i n ys H w'
    rcases go with ⟨stop, qn⟩ | ⟨go, Nx, hNx, step⟩
    · refine wpAny_mono (T.done (cxC X x scope cl P2.objs.size s₂ H₂ fp) rfl rfl rfl hcalm i [] s' (v :: σ) H (fun _ _ => False) I' (fpn fr') st' stop) (fun r s4 z => ?_) fun _ _ z => z
      obtain ⟨hr, I4⟩ := z
      subst hr
      obtain ⟨m4, hm4, _⟩ := I4.loc
      refine hRR _ _ s4 H (I.call' I4.os I4.base I4.hok I4.bare fun b hb => ?_) qn I4.free ?_ hCs (fun y c e z => ?_) (fun p hp z => ?_) ⟨m4, hm4⟩
      · obtain ⟨f0, f1, f2, f3, f4, f5⟩ := hf b hb
        exact ⟨f3, f1, f4, f5⟩
      · rw [hC]
        exact Nat.ne_of_gt (Nat.lt_succ_of_lt I.lt)
      · obtain ⟨v', oc, g1, _⟩ := I.cell y c e
        have := Heap.lt_size g1
        rw [z, hC] at this
        exact absurd (Nat.lt_of_succ_lt this) (Nat.lt_irrefl _)
      · have := Heap.lt_size (I.pin p hp).1
        rw [z, hC] at this
        exact absurd (Nat.lt_of_succ_lt this) (Nat.lt_irrefl _)
    · refine wpAny_mono (T.item (cxC X x scope cl P2.objs.size s₂ H₂ fp) rfl rfl rfl hcalm i [] s' (v :: σ) H (fun _ _ => False) I' (fpn fr') st' go) (fun r s4 z => ?_) fun _ _ z => z
      obtain ⟨u, hr, h4⟩ := z
      subst hr
      refine wpAny_mono h4 (fun _ s5 z => ?_) fun _ _ z => z
      obtain ⟨y, H5, I5, r5, y5, st5, fr5⟩ := z
      have I5' := I5.pinned (fpn fr5) (T.obj _ _ st5)
      have hxl' : (relabel scope X.env).names.lookup x = some .local := lookup_relabel_local hxl
      have hs := step y H5 y5
      refine wpAny_mono (pg_name (X := cxC X x scope cl P2.objs.size s₂ H₂ fp) (i := 0) (pos := px) hN rfl (.inl hxl') (.inr hxl') _ s5 (v :: σ) H5 y u (fun σ6 H6 => σ6 = some y :: σ ∧ H6 = H5) I5' r5 ⟨rfl, rfl⟩) (fun _ s6 z => ?_) fun _ _ z => z
      obtain ⟨σ6, H6, I6, rfl, rfl⟩ := z
      have again : ∀ {H7 : Hp} {s7 : Shared} {zs : List V}, Inv (cxC X x scope cl P2.objs.size s₂ H₂ fp) ([] ++ pinsAt fp s5.heap) (some y :: σ) H7 s7 → Nx zs H7 →
          ∃ m, m < n ∧ ∃ i ys v H, Inv (cxC X x scope cl P2.objs.size s₂ H₂ fp) [] (v :: σ) H s7 ∧ tn i s7.heap ∧ (∀ b ∈ fp, H b = none) ∧ W i m ys H := fun {H7 s7 zs} I7 w7 => by
        obtain ⟨m', hm, w7⟩ := hNx _ _ w7
        refine ⟨m', hm, i + 1, zs, some y, H7, I7.unpinned, T.keep _ _ _ st5 fun b hb o e => (I7.pin (b, o) (List.mem_append_right _ (List.mem_append_right _ (mem_pinsAt hb e)))).1, fun b hb => ?_, w7⟩
        obtain ⟨o, e, d⟩ := T.obj _ _ st5 b hb
        exact (I7.pin (b, o) (List.mem_append_right _ (List.mem_append_right _ (mem_pinsAt hb e)))).2.1
      have elts : ∀ {H7 : Hp} {s7 : Shared}, Inv (cxC X x scope cl P2.objs.size s₂ H₂ fp) ([] ++ pinsAt fp s5.heap) (some y :: σ) H7 s7 →
          (te (some y :: σ) H7 fun y' H3 => H3 s₂.heap.objs.size = some (.lst ys) ∧ ys.length < sizeLine ∧ Nx (ys ++ [y']) (upd H3 s₂.heap.objs.size (.lst (ys ++ [y'])))) →
          wpAny (model X.prog X.w) X.A (eval elt (compEnvC scope cl P2.objs.size X.env)) (fun xv s₄ =>
              wpAny (model X.prog X.w) X.A (call (.builtin "list.append") [.ref s₂.heap.objs.size, xv]) (fun _ s₅ => ∃ m, m < n ∧ ∃ i ys v H, Inv (cxC X x scope cl P2.objs.size s₂ H₂ fp) [] (v :: σ) H s₅ ∧ tn i s₅.heap ∧ (∀ b ∈ fp, H b = none) ∧ W i m ys H) (fun _ _ => False) s₄) (fun _ _ => False) s7 := fun {H7 s7} I7 q7 => by
        refine wpAny_mono (he P2.objs.size s₂ H₂ fp _ s7 (some y :: σ) H7 _ I7 q7) (fun u8 s8 z => ?_) fun _ _ z => z
        obtain ⟨y', H8, I8, r8, hD8, hz8, w8⟩ := z
        refine wpAny_mono (mt_append (X := cxC X x scope cl P2.objs.size s₂ H₂ fp) _ s8 (some y :: σ) H8 (.ref s₂.heap.objs.size) [y'] (.ref s₂.heap.objs.size) [u8] (fun _ H9 => H9 = upd H8 s₂.heap.objs.size (.lst (ys ++ [y']))) I8 rfl (.cons r8 .nil) ⟨_, ys, y', rfl, rfl, hD8, hz8, rfl⟩) (fun _ s9 z => ?_) fun _ _ z => z
        obtain ⟨_, H9, I9, _, rfl⟩ := z
        exact again I9 w8
      cases ht P2.objs.size s₂ H₂ fp with
      | nil => exact wpAny_tests_nil (elts I6 hs)
      | one hc1 =>
        refine wpAny_tests_one (wpAny_mono (hc1 _ s6 (some y :: σ) _ _ I6 hs) (fun b s7 z => ?_) fun _ _ z => z)
        obtain ⟨H7, I7, q7⟩ := z
        cases b with
        | true => exact elts I7 q7
        | false => exact again I7 q7
  exact codeAny_compStart_list (loop _ rfl) (T.self _ 0 _ _ _ (T.keep _ _ _ st fun b _ o e => old b o e) (loop _ rfl))
theorem pe_comp (hcalm : X.calm = true) (hi : PI X (.Name x px) iter wi) (hclos : closureFor scope X.env = pure cl) (hc : CapOk X x cl (relabel scope X.env).names) (hcl : ClOk X cl)
    (ht : ∀ C s₂ H₂ fp, Ifs (PT (cxC X x scope cl C s₂ H₂ fp)) ifs tc) (he : ∀ C s₂ H₂ fp, PE (cxC X x scope cl C s₂ H₂ fp) elt te) (hN : (compN x X.N).Nodup)
    (hkind : scope.kind = .function := by rfl) (hnc : ∀ y ∈ scope.names, y.2 ≠ .cell := by decide +kernel) (hnm : ∀ y ∈ scope.names, y.2 = .local → scope.names.lookup y.1 = some .local := by decide +kernel) (hx0 : x ≠ "" := by decide +kernel) (hdot : (".0" : Str) ∉ X.N := by decide +kernel) (hxl : scope.names.lookup x = some .local := by rfl)
    (hs : ∀ x, foldedSetIterable iter X.env x = pure x := by intro _; rfl) : PE X (.ListComp elt [⟨.Name x px, iter, ifs, 0⟩] scope pos) (tComp wi tc te) := by
  intro pins s σ H Q I h
  rw [eval_ListComp]
  refine wpAny_comprehension_free (use := none) rfl hs hclos hkind hnm (wpAny_mono (hi pins s σ H _ I h) (fun xv s₁ h₁ => wpAny_mono h₁ (fun itv s₂ h₂ => ?_) fun _ _ e => e) fun _ _ e => e)
  obtain ⟨it, fp, tn, J, H2, e, I2, T, st2, f2, hq⟩ := h₂
  subst e
  refine comp_block (RR := fun acc C => compPost (model X.prog X.w) X.A X.xe none (EP X pins σ Q) acc C) hcalm hkind hnc hc hcl hx0 hdot hxl hN ht he I2 T st2 f2 hq fun D C s' H' I' q' n1 n2 n3 n4 n5 n6 => ?_
  obtain ⟨m, hm⟩ := n6
  refine ⟨m, hm, fun h' hs' => ?_⟩
  exact ⟨.ref D, H', I'.turned (t' := s'.toks) (fun b o hb e => (hs'.2 b hb).trans e) n1 n2 (.inr n3) n4 n5, rfl, q'⟩
theorem ps_setC {i : Nat} {y : Str} {py spos : Pos} (hN0 : X.N.Nodup) (hy : X.N[i]? = some y) (hyl : X.env.scope.names.lookup y = some .local) (hsw : swapsWith (.ListComp elt [⟨.Name x px, iter, ifs, 0⟩] scope pos) (some (.Name y py)) spos.line X.env = pure true) (hcalm : X.calm = true) (hi : PI X (.Name x px) iter wi) (hclos : closureFor scope X.env = pure cl) (hc : CapOk X x cl (relabel scope X.env).names) (hcl : ClOk X cl)
    (ht : ∀ C s₂ H₂ fp, Ifs (PT (cxC X x scope cl C s₂ H₂ fp)) ifs tc) (he : ∀ C s₂ H₂ fp, PE (cxC X x scope cl C s₂ H₂ fp) elt te) (hN : (compN x X.N).Nodup)
    (hkind : scope.kind = .function := by rfl) (hnc : ∀ y ∈ scope.names, y.2 ≠ .cell := by decide +kernel) (hnm : ∀ y ∈ scope.names, y.2 = .local → scope.names.lookup y.1 = some .local := by decide +kernel) (hx0 : x ≠ "" := by decide +kernel) (hdot : (".0" : Str) ∉ X.N := by decide +kernel) (hxl : scope.names.lookup x = some .local := by rfl)
    (hs : ∀ x, foldedSetIterable iter X.env x = pure x := by intro _; rfl) : PS X (.Assign [.Name y py] (.ListComp elt [⟨.Name x px, iter, ifs, 0⟩] scope pos) spos) (tAsg (tComp wi tc te) (gName i)) := by
  intro pins s σ H D I h
  rw [exec_Assign_Name_used _ _ _ _ hsw]
  refine wpAny_bind (wpAny_standAt (wpAny_bind ?_))
  show wpAny _ _ (do let _ ← comprehension (.ListComp elt [⟨.Name x px, iter, ifs, 0⟩] scope pos) scope X.env _ (newList []) false (eval iter X.env) (some (assign (.Name y py) X.env))) _ _ s
  refine wpAny_bind (wpAny_mono (wpAny_comprehension_free (use := some (assign (.Name y py) X.env)) (Q := fun _ s' => SP X pins D .next s') rfl hs hclos hkind hnm
    (wpAny_mono (hi pins s σ H _ I h) (fun xv s₁ h₁ => wpAny_mono h₁ (fun itv s₂ h₂ => ?_) fun _ _ e => e) fun _ _ e => e)) (fun _ s' hq => wpAny_pure (wpAny_pure hq)) fun _ _ e => e)
  obtain ⟨it, fp, tn, J, H2, e, I2, T, st2, f2, hq⟩ := h₂
  subst e
  refine comp_block (Q := fun x H1 => gName i x σ H1 D.nx) (RR := fun acc C => compPost (model X.prog X.w) X.A X.xe (some (assign (.Name y py) X.env)) (fun _ s' => SP X pins D .next s') acc C) hcalm hkind hnc hc hcl hx0 hdot hxl hN ht he I2 T st2 f2 hq fun D' C s' H' I' q' n1 n2 n3 n4 n5 n6 => ?_
  obtain ⟨m, hm⟩ := n6
  show wpAny _ _ (assign (.Name y py) X.env (.ref D')) _ _ _
  refine wpAny_assign_Name (store_ok2 I' hN0 hy (.inl hyl) (show RelV (.ref D') (.ref D') from rfl) (fun s7 I7 z => ?_) (.inr hyl))
  obtain ⟨a, sb, ha⟩ := z
  have hCa : C ≠ a := by
    rcases ha with rfl | ha
    · exact n2
    · exact (n4 y a ha).symm
  refine ⟨m, hm.sameBut sb hCa, fun h' hs' => ?_⟩
  exact ⟨_, H', I7.turned (t' := s7.toks) (fun b o hb e => (hs'.2 b hb).trans e) n1 n2 (.inr n3) n4 n5, q'⟩
end
abbrev tYes : TT := fun _ H Q => Q true H
theorem comp_list {K : PySem.W.Frag} {a : Addr} {xs : List V} {tc : TT} {te : TE} {σ : St} {H1 : Hp} {Q : Addr → Hp → Prop} (Pv : Addr → Nat → List V → Hp → Prop) (h0 : ∀ D, H1 D = none → Pv D 0 [] (upd H1 D (.lst []))) (hl : ∀ D i ys H, i ≤ xs.length → Pv D i ys H → SqL K H a xs ∧ H D = some (.lst ys))
    (hs : ∀ D i x ys H, xs[i]? = some x → Pv D i ys H → tc (some x :: σ) H fun b H2 => if b = true then te (some x :: σ) H2 fun y H3 => H3 D = some (.lst ys) ∧ ys.length < sizeLine ∧ Pv D (i + 1) (ys ++ [y]) (upd H3 D (.lst (ys ++ [y]))) else Pv D (i + 1) ys H2)
    (hd : ∀ D ys H, Pv D xs.length ys H → Q D H) :
    ∀ D, H1 D = none → ∃ W : Nat → Nat → List V → Hp → Prop, (∃ m, W 0 m [] (upd H1 D (.lst []))) ∧ ∀ i m ys H, W i m ys H → H D = some (.lst ys) ∧
      (((Itl K a).stop i H ∧ Q D H) ∨ ((Itl K a).go i H ∧ ∃ N : List V → Hp → Prop, (∀ zs H', N zs H' → ∃ m', m' < m ∧ W (i + 1) m' zs H') ∧ ∀ x H', (Itl K a).yld i H x H' → tc (some x :: σ) H' fun b H2 => if b = true then te (some x :: σ) H2 fun y H3 => H3 D = some (.lst ys) ∧ ys.length < sizeLine ∧ N (ys ++ [y]) (upd H3 D (.lst (ys ++ [y])))
        else N ys H2)) := fun D hD => by
  refine ⟨fun i m ys H => m = xs.length - i ∧ i ≤ xs.length ∧ Pv D i ys H, ⟨xs.length, by simp, Nat.zero_le _, h0 D hD⟩, ?_⟩
  rintro i m ys H ⟨rfl, hi, p⟩
  obtain ⟨q, qd⟩ := hl D i ys H hi p
  refine ⟨qd, ?_⟩
  by_cases hlt : i < xs.length
  · refine .inr ⟨⟨xs, xs[i], q, by simp [hlt]⟩, Pv D (i + 1), fun zs H' p' => ⟨xs.length - (i + 1), by omega, rfl, hlt, p'⟩, fun x H' y => ?_⟩
    obtain ⟨e, y⟩ := y
    subst e
    exact hs D i x ys _ (y xs q) p
  · have e : i = xs.length := by omega
    subst e
    exact .inl ⟨⟨xs, q, Nat.le_refl _⟩, hd D ys H p⟩
theorem comp_range {lo : Int} {n : Nat} {tc : TT} {te : TE} {σ : St} {H1 : Hp} {Q : Addr → Hp → Prop} (Pv : Addr → Nat → List V → Hp → Prop) (h0 : ∀ D, H1 D = none → Pv D 0 [] (upd H1 D (.lst []))) (hl : ∀ D i ys H, i ≤ n → Pv D i ys H → H D = some (.lst ys))
    (hs : ∀ D i ys H, i < n → Pv D i ys H → tc (some (.int (lo + i)) :: σ) H fun b H2 => if b = true then te (some (.int (lo + i)) :: σ) H2 fun y H3 => H3 D = some (.lst ys) ∧ ys.length < sizeLine ∧ Pv D (i + 1) (ys ++ [y]) (upd H3 D (.lst (ys ++ [y]))) else Pv D (i + 1) ys H2)
    (hd : ∀ D ys H, Pv D n ys H → Q D H) :
    ∀ D, H1 D = none → ∃ W : Nat → Nat → List V → Hp → Prop, (∃ m, W 0 m [] (upd H1 D (.lst []))) ∧ ∀ i m ys H, W i m ys H → H D = some (.lst ys) ∧
      (((Itr lo n).stop i H ∧ Q D H) ∨ ((Itr lo n).go i H ∧ ∃ N : List V → Hp → Prop, (∀ zs H', N zs H' → ∃ m', m' < m ∧ W (i + 1) m' zs H') ∧ ∀ x H', (Itr lo n).yld i H x H' → tc (some x :: σ) H' fun b H2 => if b = true then te (some x :: σ) H2 fun y H3 => H3 D = some (.lst ys) ∧ ys.length < sizeLine ∧ N (ys ++ [y]) (upd H3 D (.lst (ys ++ [y])))
        else N ys H2)) := fun D hD => by
  refine ⟨fun i m ys H => m = n - i ∧ i ≤ n ∧ Pv D i ys H, ⟨n, by simp, Nat.zero_le _, h0 D hD⟩, ?_⟩
  rintro i m ys H ⟨rfl, hi, p⟩
  refine ⟨hl D i ys H hi p, ?_⟩
  by_cases hlt : i < n
  · refine .inr ⟨hlt, Pv D (i + 1), fun zs H' p' => ⟨n - (i + 1), by omega, rfl, hlt, p'⟩, fun x H' y => ?_⟩
    obtain ⟨e, y⟩ := y
    subst e y
    exact hs D i ys _ hlt p
  · have e : i = n := by omega
    subst e
    exact .inl ⟨Nat.le_refl _, hd D ys H p⟩
end L2
end
section
namespace L2
open PySem PySem.Spec PyProof.Rows
theorem iteTS {c : Bool} {A B : Prop} (hc : c = true) (h : A) : if c = true then A else B := by
  rw [if_pos hc]
  exact h
theorem iteFS {c : Bool} {A B : Prop} (hc : c = false) (h : B) : if c = true then A else B := by
  rw [hc]
  exact iteF h
theorem call_allB {X : Cx} (hc : X.calm = true) : CallR X (.builtin "all") (fun xs H Q => ∃ (l : Addr) (bs : List Bool), xs = [.ref l] ∧ H l = some (.lst (bs.map V.bl)) ∧ Q (.bl (bs.all id)) H) := by
  intro pins s σ H xs us Q I r h
  obtain ⟨l, bs, rfl, hl, q⟩ := h
  obtain ⟨u, rfl, ru⟩ := r.one
  obtain rfl : u = Value.ref l := ru
  obtain ⟨its, rv, p, hz⟩ := I.list (SqL.of hl)
  have hlt : l < s.heap.objs.size := by obtain ⟨_, _, e, _⟩ := p; exact Heap.lt_size e
  refine call_all_walk (wpAny_pyIter_list p.isList ?_)
  refine ⟨s.heap.objs.size, [s.heap.objs.size, l], [s.heap.objs.size], its.toArray.size, _, _, fun i => (bs[i]?).getD true, rfl, Walks.list (A := X.A.in1) (I.ok.hd hc) _ l (Nat.ne_of_lt hlt) its.toArray,
    ⟨⟨_, Heap.get?_push_size _ rfl, rfl, rfl⟩, p.isList.push _⟩, fun i v s' Q' E' hP hQ => ?_, fun h' tk hk => ?_⟩
  · have hi : its[i]? = some v := by simpa using hP
    have hlen := rv.length
    have hib : i < its.length := (List.getElem?_eq_some_iff.mp hi).1
    obtain ⟨u, e1, e2⟩ := rv.get (i := i) (x := V.bl ((bs[i]?).getD true)) (by
      rw [List.getElem?_map, List.getElem?_eq_getElem (by rw [List.length_map] at hlen; omega)]
      rfl)
    rw [hi] at e1
    cases e1
    cases e2
    exact wpAny_truthy_bool hQ
  · have e : ((List.range its.toArray.size).all fun i => (bs[i]?).getD true) = bs.all id := by
      have hlen := rv.length
      rw [List.length_map] at hlen
      rw [List.size_toArray, ← hlen]
      exact PyProof.Rows.LSm.range_all bs
    rw [e]
    exact ⟨.bl _, H, I.kept (t' := tk) fun b o z => hk b o (by have := Heap.lt_size z; intro q; rw [List.mem_singleton] at q; rw [q] at this; exact Nat.lt_irrefl _ this) (Heap.get?_push_of_some _ z), rfl, q⟩
theorem isLst_of {H : Hp} {p : Addr} {xs : List V} (h : H p = some (.lst xs)) : isLst H (.ref p) = true := by
  unfold isLst
  dsimp only
  rw [h]
abbrev Pgs := List (Option (Addr × List Int))
def pgV : Option (Addr × List Int) → V
  | none => .non
  | some (p, _) => .ref p
def cont (ps : Pgs) : List (Option (List Int)) := ps.map (Option.map (·.2))
structure Pg (H : Hp) (a : Addr) (ps : Pgs) : Prop where
  top : H a = some (.lst (ps.map pgV))
  each : ∀ (i : Nat) (p : Addr) (ws : List Int), ps[i]? = some (some (p, ws)) → H p = some (.lst (ws.map V.int)) ∧ p ≠ a
  nd : ∀ (i j : Nat) (p : Addr) (ws ws' : List Int), ps[i]? = some (some (p, ws)) → ps[j]? = some (some (p, ws')) → i = j
def At (a : Addr) (ps : Pgs) (b : Addr) : Prop := b = a ∨ ∃ (i : Nat) (ws : List Int), ps[i]? = some (some (b, ws))
theorem Pg.same {H H' : Hp} {a : Addr} {ps : Pgs} (g : Pg H a ps) (s : Same H H') : Pg H' a ps := ⟨s _ _ g.top, fun i p ws e => ⟨s _ _ (g.each i p ws e).1, (g.each i p ws e).2⟩, g.nd⟩
theorem Pg.keep {H H' : Hp} {a : Addr} {ps : Pgs} (g : Pg H a ps) (s : ∀ b, At a ps b → H' b = H b) : Pg H' a ps :=
  ⟨(s a (.inl rfl)).trans g.top, fun i p ws e => ⟨(s p (.inr ⟨i, ws, e⟩)).trans (g.each i p ws e).1, (g.each i p ws e).2⟩, g.nd⟩
theorem atI_pg {ps : Pgs} {i : Nat} (h : i < ps.length) : ∃ o, ps[i]? = some o ∧ atI (ps.map pgV) (i : Int) = some (pgV o) := by
  refine ⟨ps[i], List.getElem?_eq_getElem h, atI_nat ?_⟩
  rw [List.getElem?_map, List.getElem?_eq_getElem h]
  rfl
theorem atI_word {ws : List Int} {j : Nat} (h : j < ws.length) : atI (ws.map V.int) (j : Int) = some (.int (ws.getD j 0)) := by
  refine atI_nat ?_
  rw [List.getElem?_map, List.getElem?_eq_getElem h, List.getD_eq_getElem?_getD, List.getElem?_eq_getElem h]
  rfl
theorem cont_len {ps qs : Pgs} (h : cont ps = cont qs) : ps.length = qs.length := by
  have := congrArg List.length h
  unfold cont at this
  rw [List.length_map, List.length_map] at this
  exact this
theorem cont_at {ps qs : Pgs} (h : cont ps = cont qs) (i : Nat) : (ps[i]?).map (Option.map (·.2)) = (qs[i]?).map (Option.map (·.2)) := by
  have := congrArg (fun l => l[i]?) h
  unfold cont at this
  simpa using this
theorem cont_some {ps qs : Pgs} (h : cont ps = cont qs) {i : Nat} {p : Addr} {ws : List Int} (e : ps[i]? = some (some (p, ws))) : ∃ q, qs[i]? = some (some (q, ws)) := by
  have z := cont_at h i
  rw [e] at z
  cases f : qs[i]? with
  | none => rw [f] at z; cases z
  | some o =>
    rw [f] at z
    cases o with
    | none => cases z
    | some x =>
      obtain ⟨q, vs⟩ := x
      have z' : ws = vs := by simpa using z
      subst z'
      exact ⟨q, rfl⟩
theorem same_new {H : Hp} {p : Addr} {o : HO} (h : H p = none) : Same H (upd H p o) := fun b u e => by
  rw [upd_ne (ne_of_none e h)]
  exact e
theorem Same.set {H H' : Hp} {t : Addr} {o : HO} (s : Same H H') (h : H t = none) : Same H (upd H' t o) := fun b u e => by
  rw [upd_ne (ne_of_none e h)]
  exact s b u e
def Good (ps : Pgs) : Prop := ∀ (i : Nat) (p : Addr) (ws : List Int), ps[i]? = some (some (p, ws)) → ws.length = 8 ∧ ∀ w ∈ ws, 0 ≤ w ∧ w < 281474976710656
def tCopy (K : PySem.W.Frag) : TE := tIf (tTest (tOp (fun x y H Q => y = .non ∧ Q (.bl (decide (x = .non))) H) (tVar 0) (tC .non))) (tC .non) (tCB (fun xs H Q => ∃ p ys, xs = [.ref p] ∧ (SqL K H p ys ∨ SqT K H p ys) ∧ ∀ l, H l = none → Q (.ref l) (upd H l (.lst ys))) (tCons (tVar 0) tNil))
theorem copy_pages {K : PySem.W.Frag} {a : Addr} {ps : Pgs} {σ : St} {H : Hp} {Q : Addr → Hp → Prop} (g : Pg H a ps) (hl : ps.length ≤ 1000)
    (q : ∀ D H' qs, Same H H' → Pg H' D qs → cont qs = cont ps → (∀ b, At D qs b → H b = none) → Q D H') :
    ∀ D, H D = none → ∃ W : Nat → Nat → List V → Hp → Prop, (∃ m, W 0 m [] (upd H D (.lst []))) ∧ ∀ i m ys H, W i m ys H → H D = some (.lst ys) ∧
      (((Itl K a).stop i H ∧ Q D H) ∨ ((Itl K a).go i H ∧ ∃ N : List V → Hp → Prop, (∀ zs H', N zs H' → ∃ m', m' < m ∧ W (i + 1) m' zs H') ∧ ∀ x H', (Itl K a).yld i H x H' → tYes (some x :: σ) H' fun b H2 => if b = true then tCopy K (some x :: σ) H2 fun y H3 => H3 D = some (.lst ys) ∧ ys.length < sizeLine ∧ N (ys ++ [y]) (upd H3 D (.lst (ys ++ [y])))
        else N ys H2)) := by
  refine comp_list (xs := ps.map pgV) (fun D i ys H' => ∃ qs : Pgs, H D = none ∧ Same H H' ∧ Pg H' D qs ∧ ys = qs.map pgV ∧ qs.length = i ∧ cont qs = cont (ps.take i) ∧ ∀ b, At D qs b → H b = none) ?_ ?_ ?_ ?_
  · intro D hD
    refine ⟨[], hD, same_new hD, ⟨upd_same, fun i p ws e => by simp at e, fun i j p ws ws' e => by simp at e⟩, rfl, rfl, rfl, fun b h => ?_⟩
    rcases h with rfl | ⟨i, ws, e⟩
    · exact hD
    · simp at e
  · rintro D i ys H' _ ⟨qs, _, ss, g', rfl, _, _, _⟩
    exact ⟨SqL.of (ss _ _ g.top), g'.top⟩
  · rintro D i x ys H' hi ⟨qs, hD, ss, g', rfl, hq, hc, hfr⟩
    rw [List.getElem?_map] at hi
    cases e : ps[i]? with
    | none => rw [e] at hi; cases hi
    | some o =>
      rw [e] at hi
      have hi' : pgV o = x := Option.some.inj hi
      subst hi'
      have hil : i < ps.length := (List.getElem?_eq_some_iff.mp e).1
      have hlen : (qs.map pgV).length < sizeLine := by
        rw [List.length_map, hq]
        exact Nat.lt_of_lt_of_le (by omega : i < 1001) (by decide)
      have htake : ps.take (i + 1) = ps.take i ++ [o] := by
        rw [List.take_add_one, e]
        rfl
      refine iteT ?_
      have more : ∀ (o' : Option (Addr × List Int)) (H2 : Hp), o'.map (·.2) = o.map (·.2) → Same H' H2 → (∀ p ws, o' = some (p, ws) → H2 p = some (.lst (ws.map V.int)) ∧ H' p = none) →
          H2 D = some (.lst (qs.map pgV)) ∧ (qs.map pgV).length < sizeLine ∧ ∃ qs' : Pgs, H D = none ∧ Same H (upd H2 D (.lst (qs.map pgV ++ [pgV o']))) ∧ Pg (upd H2 D (.lst (qs.map pgV ++ [pgV o']))) D qs' ∧ qs.map pgV ++ [pgV o'] = qs'.map pgV ∧ qs'.length = i + 1 ∧ cont qs' = cont (ps.take (i + 1)) ∧ ∀ b, At D qs' b → H b = none := fun o' H2 ho s2 hn => by
        refine ⟨s2 _ _ g'.top, hlen, qs ++ [o'], hD, Same.set (ss.trans s2) hD, ⟨by rw [upd_same, List.map_append]; rfl, fun k p ws z => ?_, fun k l p ws ws' z1 z2 => ?_⟩, by rw [List.map_append]; rfl, by rw [List.length_append, hq]; rfl, ?_, fun b hb => ?_⟩
        · rcases Nat.lt_or_ge k qs.length with hk | hk
          · rw [List.getElem?_append_left hk] at z
            have := g'.each k p ws z
            refine ⟨?_, this.2⟩
            rw [upd_ne this.2]
            exact s2 _ _ this.1
          · rw [List.getElem?_append_right hk] at z
            have hk' : k - qs.length = 0 := by
              rcases Nat.eq_zero_or_pos (k - qs.length) with h | h
              · exact h
              · rw [List.getElem?_eq_none (by simp; omega)] at z
                cases z
            rw [hk'] at z
            obtain ⟨z1, z2⟩ := hn p ws (Option.some.inj z)
            have ne : p ≠ D := fun q => by rw [q, g'.top] at z2; cases z2
            refine ⟨?_, ne⟩
            rw [upd_ne ne]
            exact z1
        · have split : ∀ (k : Nat) (vs : List Int), (qs ++ [o'])[k]? = some (some (p, vs)) → (k < qs.length ∧ qs[k]? = some (some (p, vs))) ∨ (k = qs.length ∧ o' = some (p, vs)) := fun k vs z => by
            rcases Nat.lt_or_ge k qs.length with hk | hk
            · rw [List.getElem?_append_left hk] at z
              exact .inl ⟨hk, z⟩
            · rw [List.getElem?_append_right hk] at z
              have hk' : k - qs.length = 0 := by
                rcases Nat.eq_zero_or_pos (k - qs.length) with h | h
                · exact h
                · rw [List.getElem?_eq_none (by simp; omega)] at z
                  cases z
              rw [hk'] at z
              exact .inr ⟨by omega, Option.some.inj z⟩
          have old : ∀ (k : Nat) (vs vs' : List Int), qs[k]? = some (some (p, vs)) → o' = some (p, vs') → False := fun k vs vs' z1 z2 => by
            have h1 := (g'.each k p vs z1).1
            rw [(hn p vs' z2).2] at h1
            cases h1
          rcases split k ws z1 with ⟨_, a1⟩ | ⟨rfl, a1⟩ <;> rcases split l ws' z2 with ⟨_, a2⟩ | ⟨rfl, a2⟩
          · exact g'.nd k l p ws ws' a1 a2
          · exact (old _ _ _ a1 a2).elim
          · exact (old _ _ _ a2 a1).elim
          · rfl
        · rw [htake]
          unfold cont at hc ⊢
          rw [List.map_append, List.map_append, hc]
          congr 1
          simp [ho]
        · rcases hb with rfl | ⟨k, ws, z⟩
          · exact hD
          · rcases Nat.lt_or_ge k qs.length with hk | hk
            · rw [List.getElem?_append_left hk] at z
              exact hfr b (.inr ⟨k, ws, z⟩)
            · rw [List.getElem?_append_right hk] at z
              have hk' : k - qs.length = 0 := by
                rcases Nat.eq_zero_or_pos (k - qs.length) with h | h
                · exact h
                · rw [List.getElem?_eq_none (by simp; omega)] at z
                  cases z
              rw [hk'] at z
              exact ss.free (hn b ws (Option.some.inj z)).2
      cases o with
      | none =>
        refine ⟨_, rfl, rfl, _, rfl, iteT ?_⟩
        exact more none H' rfl (Same.refl _) fun p ws z => by cases z
      | some x =>
        obtain ⟨p, ws⟩ := x
        refine ⟨_, rfl, rfl, _, rfl, iteF ⟨_, rfl, p, _, rfl, .inl (SqL.of (ss _ _ (g.each i p ws e).1)), fun l hl => ?_⟩⟩
        refine more (some (l, ws)) _ rfl (same_new hl) fun p' ws' z => ?_
        cases z
        exact ⟨upd_same, hl⟩
  · rintro D ys H' ⟨qs, _, ss, g', rfl, hq, hc, hfr⟩
    rw [List.length_map, List.take_length] at hc
    exact q D H' qs ss g' hc hfr
end L2
end
section
namespace L2
open PySem PySem.Spec PyProof.Rows
end L2
end
section
namespace L2
open PySem PySem.Spec PyProof.Rows
theorem app_at {ps : Pgs} {o : Option (Addr × List Int)} {p : Addr} {vs : List Int} {k : Nat} (z : (ps ++ [o])[k]? = some (some (p, vs))) : (k < ps.length ∧ ps[k]? = some (some (p, vs))) ∨ (k = ps.length ∧ o = some (p, vs)) := by
  rcases Nat.lt_or_ge k ps.length with hk | hk
  · rw [List.getElem?_append_left hk] at z
    exact .inl ⟨hk, z⟩
  · rw [List.getElem?_append_right hk] at z
    have hk' : k - ps.length = 0 := by
      rcases Nat.eq_zero_or_pos (k - ps.length) with h | h
      · exact h
      · rw [List.getElem?_eq_none (by simp; omega)] at z
        cases z
    rw [hk'] at z
    exact .inr ⟨by omega, Option.some.inj z⟩
theorem Pg.app {H H2 : Hp} {D : Addr} {qs : Pgs} {o : Option (Addr × List Int)} (g : Pg H D qs) (s2 : Same H H2) (hn : ∀ (p : Addr) (ws : List Int), o = some (p, ws) → H2 p = some (.lst (ws.map V.int)) ∧ H p = none) :
    Pg (upd H2 D (.lst (qs.map pgV ++ [pgV o]))) D (qs ++ [o]) := by
  refine ⟨by rw [upd_same, List.map_append]; rfl, fun k p ws z => ?_, fun k l p ws ws' z1 z2 => ?_⟩
  · rcases app_at z with ⟨_, z⟩ | ⟨_, z⟩
    · have := g.each k p ws z
      refine ⟨?_, this.2⟩
      rw [upd_ne this.2]
      exact s2 _ _ this.1
    · obtain ⟨z1, z2⟩ := hn p ws z
      have ne : p ≠ D := fun q => by rw [q, g.top] at z2; cases z2
      refine ⟨?_, ne⟩
      rw [upd_ne ne]
      exact z1
  · have old : ∀ (k : Nat) (vs vs' : List Int), qs[k]? = some (some (p, vs)) → o = some (p, vs') → False := fun k vs vs' z1 z2 => by
      have h1 := (g.each k p vs z1).1
      rw [(hn p vs' z2).2] at h1
      cases h1
    rcases app_at z1 with ⟨_, a1⟩ | ⟨rfl, a1⟩ <;> rcases app_at z2 with ⟨_, a2⟩ | ⟨rfl, a2⟩
    · exact g.nd k l p ws ws' a1 a2
    · exact (old _ _ _ a1 a2).elim
    · exact (old _ _ _ a2 a1).elim
    · rfl
theorem At.app {D b : Addr} {qs : Pgs} {o : Option (Addr × List Int)} (h : At D (qs ++ [o]) b) : At D qs b ∨ ∃ ws, o = some (b, ws) := by
  rcases h with rfl | ⟨k, ws, z⟩
  · exact .inl (.inl rfl)
  · rcases app_at z with ⟨_, z⟩ | ⟨_, z⟩
    · exact .inl (.inr ⟨k, ws, z⟩)
    · exact .inr ⟨ws, z⟩
theorem Good.app {qs : Pgs} {o : Option (Addr × List Int)} (g : Good qs) (h : ∀ (p : Addr) (ws : List Int), o = some (p, ws) → ws.length = 8 ∧ ∀ w ∈ ws, 0 ≤ w ∧ w < 281474976710656) : Good (qs ++ [o]) := fun k p ws z => by
  rcases app_at z with ⟨_, z⟩ | ⟨_, z⟩
  · exact g k p ws z
  · exact h p ws z
theorem datsI {K : PySem.W.Frag} {H : Hp} : ∀ ws : List Int, DatsR K H (ws.map V.int) (ws.map PyData.int)
  | [] => .nil
  | b :: bs => .cons (.int b) (datsI bs)
theorem layI : ∀ ws : List Int, PyData.canLayAll0 (ws.map PyData.int) = true ∧ PyData.depthAll (ws.map PyData.int) = 0
  | [] => ⟨rfl, rfl⟩
  | b :: bs => by
    obtain ⟨h1, h2⟩ := layI bs
    constructor
    · simp only [List.map_cons, PyData.canLayAll0, PyData.canLay0, h1, Bool.and_self]
    · simp only [List.map_cons, PyData.depthAll, PyData.depth, h2, Nat.max_self]
theorem eqvI : ∀ ws : List Int, PyData.eqvAll (ws.map PyData.int) (ws.map PyData.int) = true
  | [] => rfl
  | b :: bs => by simp only [List.map_cons, PyData.eqvAll, PyData.eqv, eqvI bs, beq_self_eq_true, Bool.and_self]
theorem comp_words {lo : Int} {n : Nat} {te : TE} {σ : St} {H : Hp} {Q : Addr → Hp → Prop} (hn : n ≤ 1000)
    (ht : ∀ (i : Nat) (H' : Hp) (R : VK), i < n → Same H H' → (∀ (w : Int) (H2 : Hp), 0 ≤ w → w < 281474976710656 → Same H' H2 → R (.int w) H2) → te (some (.int (lo + i)) :: σ) H' R)
    (q : ∀ (D : Addr) (H' : Hp) (ws : List Int), H D = none → Same H H' → H' D = some (.lst (ws.map V.int)) → ws.length = n → (∀ w ∈ ws, 0 ≤ w ∧ w < 281474976710656) → Q D H') :
    ∀ D, H D = none → ∃ W : Nat → Nat → List V → Hp → Prop, (∃ m, W 0 m [] (upd H D (.lst []))) ∧ ∀ i m ys H, W i m ys H → H D = some (.lst ys) ∧
      (((Itr lo n).stop i H ∧ Q D H) ∨ ((Itr lo n).go i H ∧ ∃ N : List V → Hp → Prop, (∀ zs H', N zs H' → ∃ m', m' < m ∧ W (i + 1) m' zs H') ∧ ∀ x H', (Itr lo n).yld i H x H' → tYes (some x :: σ) H' fun b H2 => if b = true then te (some x :: σ) H2 fun y H3 => H3 D = some (.lst ys) ∧ ys.length < sizeLine ∧ N (ys ++ [y]) (upd H3 D (.lst (ys ++ [y])))
        else N ys H2)) := by
  refine comp_range (fun D i ys H' => H D = none ∧ Same H H' ∧ H' D = some (.lst ys) ∧ ∃ ws : List Int, ys = ws.map V.int ∧ ws.length = i ∧ ∀ w ∈ ws, 0 ≤ w ∧ w < 281474976710656) ?_ ?_ ?_ ?_
  · exact fun D hD => ⟨hD, same_new hD, upd_same, [], rfl, rfl, fun w hw => by cases hw⟩
  · rintro D i ys H' _ ⟨_, _, hy, _⟩
    exact hy
  · rintro D i ys H' hi ⟨hD, ss, hy, ws, rfl, hl, hw⟩
    refine iteT (ht i H' _ hi ss fun w H2 w0 w1 s2 => ?_)
    refine ⟨s2 _ _ hy, ?_, hD, Same.set (ss.trans s2) hD, upd_same, ws ++ [w], by rw [List.map_append]; rfl, by rw [List.length_append, hl]; rfl, fun v hv => ?_⟩
    · rw [List.length_map, hl]
      exact Nat.lt_of_lt_of_le (by omega : i < 1001) (by decide)
    · rcases List.mem_append.mp hv with z | z
      · exact hw v z
      · rw [List.mem_singleton.mp z]
        exact ⟨w0, w1⟩
  · rintro D ys H' ⟨hD, ss, hy, ws, rfl, hl, hw⟩
    exact q D H' ws hD ss hy hl hw
end L2
end
section
namespace L2
open PySem PySem.Spec PyProof.Rows Builtin Builtin.ObjectAttr
def overV : List Value → Bool
  | [] => false
  | v :: r => match v with
    | .ref _ => overV r
    | _ => (v :: r) == VB
theorem overV_refuse (self : Value) : ∀ {l : List Value}, overV l = true → refuseLoop self "__setattr__" l = pure ()
  | [], e => by cases e
  | v :: r, e => by
    unfold overV at e
    split at e
    · rw [refuseLoop_ref]; exact overV_refuse self e
    · rw [beq_iff_eq.mp e]; exact PySem.F.store_ValueError.passes self
theorem overV_has : ∀ {l : List Value}, overV l = true → l.contains (.type "object") = true
  | [], e => by cases e
  | v :: r, e => by
    unfold overV at e
    split at e
    · rw [List.contains_cons, overV_has e, Bool.or_true]
    · rw [beq_iff_eq.mp e]; decide
def overIn (K : PySem.W.Frag) (C : Addr) : Bool := (PySem.W.clsIn K C).any fun cd => overV cd.mro
structure XCls (K : PySem.W.Frag) (C : Addr) : Prop where
  sa : PySem.W.findIn K (.ref C) "__setattr__" = some (some (.builtin "object.__setattr__"))
  ov : overIn K C = true
  hd : PySem.W.hasDictIn K C = true
  ga : PySem.W.findIn K (.ref C) "__getattribute__" = some (some (.builtin "BaseException.__getattribute__"))
  gh : PySem.W.findIn K (.ref C) "__getattr__" = some none
  mb : PySem.W.mroIn K C (.type "BaseException") = some true
section
variable {prog : Program} {w : World} {A : Around} {s : Shared} {K : PySem.W.Frag} {x C : Addr} {R : Result → Shared → Prop}
theorem xsa_open {name : Str} {tk : Tok} {v : Value} (X : K.In s.heap) (L0 : PySem.W.Looks (model prog w) s.heap (typeOf (.ref x)) (.ref C)) (hp : overIn K C = true) (ht : PySem.W.findIn K (.ref C) name = some none)
    (h : wpAny (model prog w) A.in1 (storeInOwnDict (.ref x) (.ref C) (.str name tk) name v false)
      (fun fin s' => match fin with | .done f => R (.ok f) s' | .again c' => c'.quiet = true ∧ codeAny (model prog w) A c' R s') (fun e s' => R (.error e) s') s) :
    codeAny (model prog w) A (.call (.builtin "object.__setattr__") ⟨[.ref x, .str name tk, v], []⟩) R s := by
  have SF := PySem.F.store_object
  obtain ⟨cd, hc, ho⟩ := PySem.W.any_some hp
  have ne : cd.mro.isEmpty = false := by
    cases q : cd.mro with
    | nil => rw [q] at ho; cases ho
    | cons _ _ => rfl
  have sub : PySem.W.Looks (model prog w) s.heap (isInstance (.ref x) (.type "object")) true := L0.andThen (PySem.W.looks_mroIn X (by
    unfold PySem.W.mroIn
    rw [hc, Option.bind_some, if_neg (by rw [ne]; decide), overV_has ho]))
  refine codeAny_call_builtin SF.slot.plain SF.entry (@PySem.W.check_slot (model prog w) _ _ s "object.__setattr__" "object" "__setattr__" (.ref x) [.str name tk, v] [] _ SF.kind SF.split sub (SF.args (.ref x) (.str name tk) v) ?_)
  have hm : PySem.W.Looks (model prog w) s.heap (mroOf (.ref C)) cd.mro := (PySem.W.looks_clsIn X hc).andThen .now
  rw [PySem.W.osa_eq, refuse_eq]
  refine wpAny_bind (wpAny_bind (L0.here (wpAny_bind (hm.here ?_))))
  rw [overV_refuse _ ho]
  exact wpAny_pure (wpAny_bind (L0.here (wpAny_bind ((PySem.W.looks_findIn X ht).here (wpAny_bind (wpAny_pure h))))))
end
def xnw (e C t : Addr) (od : Option Addr) : HO := .ext fun h => h.get? e = some (xo C t od)
def xdo (d : Addr) (fs : List (Str × V)) : HO := .ext fun h => ∃ mA, h.Ns1 d mA ∧ (∀ f, RelO (fs.lookup f) (mA f)) ∧ PySem.Within mA (fs.map (·.1))
theorem xnw_ok {P : Program} {w : World} {H : Hp} {h : Heap} {e C t : Addr} {od : Option Addr} (x : h.get? e = some (xo C t od)) : ObjOk P w H h e (xnw e C t od) := ⟨x, ⟨_, x⟩, fun h1 h2 z k => k _ z⟩
theorem xdo_ok {P : Program} {w : World} {H : Hp} {h : Heap} {d : Addr} {fs : List (Str × V)} {mA : Str → Option Value} (x : h.Ns1 d mA) (y : ∀ f, RelO (fs.lookup f) (mA f)) (z : PySem.Within mA (fs.map (·.1))) : ObjOk P w H h d (xdo d fs) :=
  ⟨⟨mA, x, y, z⟩, (by obtain ⟨o, _, _, e, _⟩ := x; exact ⟨o, e⟩), fun h1 h2 ⟨m, ⟨o, es, ep, e, r⟩, y, z⟩ k => ⟨m, ⟨o, es, ep, k _ e, r⟩, y, z⟩⟩
section
variable {X : Cx} {pins : List (Addr × Obj)} {σ : St} {H : Hp} {s : Shared} {e C t d : Addr} {fs : List (Str × V)} {f : Str} {y : V} {u : Value} {A : Around} {E : Value → Shared → Prop} {Q : Unit → Shared → Prop}
theorem xset0 (I : Inv X pins σ H s) (e0 : H e = some (xnw e C t none)) (c : XCls X.K C) (n : NoAttr X.K C f) (ry : RelV y u)
    (h : ∀ d H' s', H d = none → d ≠ e → H' e = some (xnw e C t (some d)) → H' d = some (xdo d [(f, y)]) → (∀ b, b ≠ e → b ≠ d → H' b = H b) → Inv X pins σ H' s' → Q () s') :
    wpAny (model X.prog X.w) A (setAttr (.ref e) f u) Q E s := by
  have hx : s.heap.get? e = some (xo C t none) := (show ObjOk X.prog X.w H s.heap e (xnw e C t none) from I.hok e _ e0).1
  have IA : PySem.W.InstAt s.heap e (xo C t none) C none := ⟨hx, rfl, rfl, trivial⟩
  refine PySem.W.set_plain I.kIn IA c.sa (xsa_open (s := { s with toks := s.toks + 1 }) I.kIn (EX.ty hx rfl) c.ov n ?_)
  obtain ⟨cd, hc, hd'⟩ := PySem.W.any_some c.hd
  refine wpAny_bind (wpAny_pure (wpAny_bind (wpAny_bind (wpAny_loadPart hx (wpAny_bind (PySem.W.Looks.here (s := { s with toks := s.toks + 1 }) (PySem.W.looks_clsIn I.kIn hc) ?_))))))
  rw [hd']
  have hxs : e ≠ s.heap.objs.size := Nat.ne_of_lt (Heap.lt_size hx)
  have I1 := I.laid (a := s.heap.objs.size) (o := xdo s.heap.objs.size []) (t' := s.toks + 1) (h' := s.heap.push { cls := .type "dict", data := .dict #[] }) (fun b o z => Heap.get?_push_of_some _ z) (Nat.le_refl _)
    (xdo_ok (mA := fun _ => none) (Heap.Ns1.of_empty ⟨_, #[], _, Heap.get?_push_at rfl rfl, rfl, fun q hq => absurd hq (by simp), fun _ => rfl⟩) (fun _ => trivial) PySem.Within.nil)
  rw [if_neg (by decide), if_neg (by show ¬ ((!true || !true) = true); decide)]
  have e1 : (s.heap.push { cls := .type "dict", data := .dict #[] }).get? e = some (xo C t none) := Heap.get?_push_of_some _ hx
  refine wpAny_bind (wpAny_alloc' (wpAny_bind (wpAny_update' e1 (wpAny_pure ?_))))
  have he1 : upd H s.heap.objs.size (xdo s.heap.objs.size []) e = some (xnw e C t none) := by rw [upd_ne hxs]; exact e0
  have hd0 : H s.heap.objs.size = none := I.hok.fresh (Nat.le_refl _)
  have e2 : ((s.heap.push { cls := .type "dict", data := .dict #[] }).update e fun o => { cls := o.cls, dict := some s.heap.objs.size, data := o.data, slots := o.slots }).get? e = some (xo C t (some s.heap.objs.size)) := Heap.get?_update_self _ e1 rfl
  have I2 := I1.write (x := e) (e := e) (o := xnw e C t (some s.heap.objs.size)) (t' := s.toks + 1) (h' := (s.heap.push { cls := .type "dict", data := .dict #[] }).update e fun o => { cls := o.cls, dict := some s.heap.objs.size, data := o.data, slots := o.slots })
    (by rw [he1]; exact True.intro) (.inl rfl) (fun b o z q => (upd_other z).trans q) ⟨_, e2⟩ (xnw_ok e2)
  have hd2 : ((s.heap.push { cls := .type "dict", data := .dict #[] }).update e fun o => { cls := o.cls, dict := some s.heap.objs.size, data := o.data, slots := o.slots }).Ns1 s.heap.objs.size (fun _ => none) :=
    Heap.Ns1.of_empty ⟨_, #[], _, (upd_other hxs.symm).trans (Heap.get?_push_at rfl rfl), rfl, fun q hq => absurd hq (by simp), fun _ => rfl⟩
  generalize ((s.heap.push { cls := .type "dict", data := .dict #[] }).update e fun o => { cls := o.cls, dict := some s.heap.objs.size, data := o.data, slots := o.slots }) = h2 at *
  generalize s.heap.objs.size = d at *
  have hd3 : upd (upd H d (xdo d [])) e (xnw e C t (some d)) d = some (xdo d []) := by rw [upd_ne hxs.symm, upd_same]
  show wpAny _ _ (storeInDict d (.str f s.toks) f u) _ _ _
  unfold storeInDict newKeyGuard
  refine wpAny_bind (wpAny_pure (wpAny_bind (wpAny_nsSet1 hd2 fun h' hn' hs => ?_)))
  obtain ⟨oD, esD, epD, hoD, hdD, hcD⟩ := hn'.count (PySem.Within.cons f u PySem.Within.nil)
  refine wpAny_bind (wpAny_lookBehind hoD (by rw [hdD]; exact pastItsLine_dict (Nat.le_trans hcD (by rw [List.length_cons, List.length_nil, sizeLine_eq]; omega))) (wpAny_pure ?_))
  refine h d _ _ hd0 hxs.symm ?_ ?_ ?_ (I2.write (x := d) (e := d) (o := xdo d [(f, y)]) (by rw [hd3]; exact True.intro) (.inl rfl) (fun b o z q => (hs.2 b z).trans q) ⟨_, hoD⟩ (xdo_ok hn' (fun g => ?_) (fun g hg => ?_)))
  · rw [upd_ne hxs, upd_same]
  · rw [upd_same]
  · intro b z1 z2
    rw [upd_ne z2, upd_ne z1, upd_ne z2]
  · show RelO (List.lookup g [(f, y)]) (if g = f then some u else none)
    by_cases q : g = f
    · rw [q, if_pos rfl, List.lookup_cons_self]; exact ry
    · rw [if_neg q, List.lookup_cons, beq_false_of_ne q]; exact True.intro
  · by_cases q : g = f
    · rw [q]; exact List.mem_cons_self ..
    · exact absurd (if_neg q) hg
theorem xset (I : Inv X pins σ H s) (e0 : H e = some (xnw e C t (some d))) (d0 : H d = some (xdo d fs)) (c : XCls X.K C) (n : NoAttr X.K C f) (ry : RelV y u) (hl : fs.length < 1000)
    (h : ∀ s', Inv X pins σ (upd H d (xdo d (putF f y fs))) s' → Q () s') : wpAny (model X.prog X.w) A (setAttr (.ref e) f u) Q E s := by
  have hx : s.heap.get? e = some (xo C t (some d)) := (show ObjOk X.prog X.w H s.heap e (xnw e C t (some d)) from I.hok e _ e0).1
  obtain ⟨⟨mA, hn, hr, hw⟩, ⟨od, hod⟩, _⟩ := (show ObjOk X.prog X.w H s.heap d (xdo d fs) from I.hok d _ d0)
  have IA : PySem.W.InstAt s.heap e (xo C t (some d)) C (some od) := ⟨hx, rfl, rfl, hod⟩
  refine PySem.W.set_plain I.kIn IA c.sa (xsa_open (s := { s with toks := s.toks + 1 }) I.kIn (EX.ty hx rfl) c.ov n ?_)
  obtain ⟨cd, hc, hd'⟩ := PySem.W.any_some c.hd
  refine wpAny_bind (wpAny_pure (wpAny_bind (wpAny_bind (wpAny_loadPart hx (wpAny_bind (PySem.W.Looks.here (s := { s with toks := s.toks + 1 }) (PySem.W.looks_clsIn I.kIn hc) ?_))))))
  rw [hd']
  refine wpAny_pure (a := some d) ?_
  show wpAny _ _ (storeInDict d (.str f s.toks) f u) _ _ _
  unfold storeInDict newKeyGuard
  refine wpAny_bind (wpAny_pure (wpAny_bind (wpAny_nsSet1 (s := { s with toks := s.toks + 1 }) hn fun h' hn' hs => ?_)))
  obtain ⟨oD, esD, epD, hoD, hdD, hcD⟩ := hn'.count (PySem.Within.cons f u hw)
  refine wpAny_bind (wpAny_lookBehind hoD (by rw [hdD]; exact pastItsLine_dict (Nat.le_trans hcD (by rw [List.length_cons, List.length_map, sizeLine_eq]; omega))) (wpAny_pure ?_))
  refine h _ (I.write (x := d) (e := d) (by rw [d0]; exact True.intro) (.inl rfl) (fun b o z q => (hs.2 b z).trans q) ⟨_, hoD⟩ (xdo_ok hn' (fun g => ?_) (fun g hg => ?_)))
  · show RelO ((putF f y fs).lookup g) (if g = f then some u else mA g)
    rw [lookup_putF]
    by_cases q : g = f
    · rw [if_pos q, if_pos q]; exact ry
    · rw [if_neg q, if_neg q]; exact hr g
  · by_cases q : g = f
    · rw [q]; exact (keys_putF f y fs).1
    · refine (keys_putF f y fs).2 g (hw g fun z => hg ?_)
      show (if g = f then some u else mA g) = none
      rw [if_neg q]; exact z
end
section
variable {prog : Program} {w : World} {A : Around} {s : Shared} {K : PySem.W.Frag} {x C : Addr} {E : Value → Shared → Prop}
theorem xga {name : Str} {v : Value} {b : Bool} {Q : Value → Shared → Prop} (X : K.In s.heap) (c : XCls K C) (L0 : PySem.W.Looks (model prog w) s.heap (typeOf (.ref x)) (.ref C)) (Lf : PySem.W.Looks (model prog w) s.heap (find (.ref x) (.ref C) name) (.value v)) (hv : PySem.W.handedIn v = true)
    (h : Q v { s with toks := s.toks + 1 }) : wpAny (model prog w) A (getAttr (.ref x) name b) Q E s := by
  obtain ⟨hh, g, d, t, os⟩ := s
  have L1 := PySem.W.looks_findIn (M := model prog w) X c.ga
  have L2 := PySem.W.looks_findIn (M := model prog w) X c.gh
  have hx2 : (Value.builtin "BaseException.__getattribute__" == Value.builtin "object.__getattribute__") = false := by decide +kernel
  unfold getAttr getAttrBy
  refine wpAny_bind (wpAny_mkText (wpAny_holding (wpAny_bind (L0.at (wpAny_bind (L1.at ?_))))))
  dsimp only
  rw [if_neg (by rw [hx2, Bool.and_false]; exact Bool.false_ne_true)]
  unfold getAttrByItsOwn hookBefore
  refine wpAny_bind (L2.at ?_)
  refine wpAny_bind (wpAny_attempt (wpAny_holding ?_))
  unfold callGetattribute boundAndCalled
  rw [if_neg (by cases b <;> decide)]
  rw [PySem.F.attr_ValueError.ga.bind (.ref x)]
  refine wpAny_bind (wpAny_pure (wpAny_call ?_))
  refine codeAny_call_builtin PySem.F.attr_ValueError.ga.plain F.entry_bexc_ga (EX.check_ga X L0 c.mb ?_)
  refine wpAny_bind (wpAny_pure (a := (Value.ref x, [Value.str name _])) ?_)
  refine wpAny_bind (wpAny_pure (a := name) ?_)
  refine wpAny_bind (L0.at ?_)
  refine wpAny_bind (Lf.at ?_)
  refine wpAny_pure ?_
  exact PySem.W.handed_on hv h
end
end L2
end
section
namespace L2
open PySem PySem.Spec PyProof.Rows Builtin Builtin.ObjectAttr
section
variable {X : Cx} {pins : List (Addr × Obj)} {σ : St} {H : Hp} {s : Shared} {e C t d : Addr} {fs : List (Str × V)} {f : Str} {v : V}
theorem xget {A : Around} {E : Value → Shared → Prop} {b : Bool} {Q : Value → Shared → Prop} (I : Inv X pins σ H s) (e0 : H e = some (xob e (.ref C) (some d))) (d0 : H d = some (xdo d fs)) (c : XCls X.K C) (n : NoAttr X.K C f) (l : fs.lookup f = some v)
    (h : ∀ u s', Inv X pins σ H s' → RelV v u → Q u s') : wpAny (model X.prog X.w) A (getAttr (.ref e) f b) Q E s := by
  obtain ⟨⟨oe, h1, h2, h3, h4⟩, _, _⟩ := (show ObjOk X.prog X.w H s.heap e (xob e (.ref C) (some d)) from I.hok e _ e0)
  obtain ⟨⟨mA, hn, hr, _⟩, _, _⟩ := (show ObjOk X.prog X.w H s.heap d (xdo d fs) from I.hok d _ d0)
  obtain ⟨od, ho, hl⟩ := lookIn_ns hn
  obtain ⟨u, hu, ru⟩ := RelO.some_of (v := v) (o := mA f) (by rw [← l]; exact hr f)
  have IA : PySem.W.InstAt s.heap e oe C (some od) := ⟨h1, h2, h4, by rw [h3]; exact ho⟩
  have Lf := PySem.W.looks_find (M := model X.prog X.w) I.kIn IA (PySem.W.findObj_own c.hd n rfl (by rw [hl, hu]))
  exact xga I.kIn c (EX.ty h1 h2) Lf (handed_of ru) (h u _ (I.tok _) ru)
end
def tXFld (K : PySem.W.Frag) (ta : TE) (f : Str) : TE := fun σ H Q => ta σ H fun x H1 => ∃ e C d fs v, x = .ref e ∧ H1 e = some (xob e (.ref C) (some d)) ∧ H1 d = some (xdo d fs) ∧ XCls K C ∧ NoAttr K C f ∧ fs.lookup f = some v ∧ Q v H1
def sXf0 (K : PySem.W.Frag) (ta tv : TE) (f : Str) : TS := fun D σ H => tv σ H fun y H1 => ta σ H1 fun x H2 => ∃ e C t, x = .ref e ∧ H2 e = some (xnw e C t none) ∧ XCls K C ∧ NoAttr K C f ∧
  ∀ d H', H2 d = none → d ≠ e → H' e = some (xnw e C t (some d)) → H' d = some (xdo d [(f, y)]) → (∀ b, b ≠ e → b ≠ d → H' b = H2 b) → D.nx σ H'
def sXf (K : PySem.W.Frag) (ta tv : TE) (f : Str) : TS := fun D σ H => tv σ H fun y H1 => ta σ H1 fun x H2 => ∃ e C t d fs, x = .ref e ∧ H2 e = some (xnw e C t (some d)) ∧ H2 d = some (xdo d fs) ∧ XCls K C ∧ NoAttr K C f ∧ fs.length < 1000 ∧ D.nx σ (upd H2 d (xdo d (putF f y fs)))
section
variable {X : Cx} {o e value : Expr} {f : Str} {pos pos' tpos : Pos} {ta tv : TE}
theorem pe_xfld (he : PE X e ta) (hb : attributeBase e f X.env (eval e X.env) = eval e X.env) : PE X (.Attribute e f pos) (tXFld X.K ta f) := by
  intro pins s σ H Q I h
  refine attr_of hb (thn (he pins s σ H _ I h) fun u s1 ⟨x, H1, I1, rx, a, C, d, fs, v, ex, ea, ed, c, n, l, q⟩ => ?_)
  subst ex
  obtain rfl : u = Value.ref a := rx
  exact xget I1 ea ed c n l fun u' s2 I2 ru => ⟨v, H1, I2, ru, q⟩
theorem pe_xfldK {K : PySem.W.Frag} (hK : X.K = K) (he : PE X e ta) (hb : attributeBase e f X.env (eval e X.env) = eval e X.env) : PE X (.Attribute e f pos) (tXFld K ta f) := by
  subst hK
  exact pe_xfld he hb
theorem ps_xf0 (ha : PE X o ta) (hv : PE X value tv) (hs : swapsWith value (some (.Attribute o f pos')) pos.line X.env = pure false) : PS X (.Assign [.Attribute o f pos'] value pos) (sXf0 X.K ta tv f) := by
  intro pins s σ H D I h
  refine plainObj_wpAny_Assign_Attribute (thn (hv pins s σ H _ I h) fun u s1 ⟨y, H1, I1, ry, q⟩ => thn (ha pins s1 σ H1 _ I1 q) fun ov s2 ⟨x, H2, I2, rx, a, C, t, ex, ea, c, n, q2⟩ => ?_) hs
  subst ex
  obtain rfl : ov = Value.ref a := rx
  exact xset0 I2 ea c n ry fun d H' s3 h1 h2 h3 h4 h5 I3 => ⟨σ, H', I3, q2 d H' h1 h2 h3 h4 h5⟩
theorem ps_xf (ha : PE X o ta) (hv : PE X value tv) (hs : swapsWith value (some (.Attribute o f pos')) pos.line X.env = pure false) : PS X (.Assign [.Attribute o f pos'] value pos) (sXf X.K ta tv f) := by
  intro pins s σ H D I h
  refine plainObj_wpAny_Assign_Attribute (thn (hv pins s σ H _ I h) fun u s1 ⟨y, H1, I1, ry, q⟩ => thn (ha pins s1 σ H1 _ I1 q) fun ov s2 ⟨x, H2, I2, rx, a, C, t, d, fs, ex, ea, ed, c, n, l, q2⟩ => ?_) hs
  subst ex
  obtain rfl : ov = Value.ref a := rx
  exact xset I2 ea ed c n ry l fun s3 I3 => ⟨σ, _, I3, q2⟩
end
def excInI (K : PySem.W.Frag) (C fI : Addr) : Bool := match K.lookup C with
  | some ⟨.type "type", _, .cls cd, sl⟩ => (match cd.mro, sl.toList with
    | .ref C' :: bm, [_, _, _, _, some (.builtin n), _] => C' == C && !cd.hasDel && n == "ValueError.__new__" && nsPlain K cd.ns && (PySem.W.nsIn K cd.ns "__init__" == some (some (.ref fI))) && tailOk K bm
    | _, _ => false)
  | _ => false
theorem ns_some_of {K : PySem.W.Frag} {h : Heap} {N : Addr} {mg : Str → Option Value} {n : Str} {v : Value} (X : K.In h) (G : h.Ns N mg) (e : PySem.W.nsIn K N n = some (some v)) : mg n = some v := by
  obtain ⟨o, es, ep, ho, hd, _, hf⟩ := G
  unfold PySem.W.nsIn at e
  split at e
  · rename_i c d es' n' sl q
    have z := X _ _ q
    rw [ho] at z
    cases z
    cases hd
    revert e
    cases hx : List.find? (fun y => y.key.isStr n) es.toList with
    | none =>
      dsimp only
      split <;> exact nofun
    | some en =>
      intro e
      cases e
      rw [← hf]
      unfold nsFind findBy
      rw [← Array.find?_toList, hx]
      rfl
  · cases e
theorem excInI_obj {K : PySem.W.Frag} {h₀ : Heap} {C fI : Addr} (X₀ : K.In h₀) (q : excInI K C fI = true) : ∃ bm N nm qn bs hdct sn sub ab col dd k0 k1 k2 k3 k5 mN, mN "__init__" = some (.ref fI) ∧
    ∀ h : Heap, K.In h → h.get? C = some (excClassObj nm qn C N bs bm hdct sn sub ab col dd k0 k1 k2 k3 k5 "ValueError.__new__") ∧ h.Ns N mN ∧ OwnTail h VB bm := by
  unfold excInI at q
  split at q
  · rename_i dd cd sl ho
    split at q
    · rename_i C' bm k0 k1 k2 k3 n k5 hm hs
      simp only [Bool.and_eq_true, beq_iff_eq, Bool.not_eq_true'] at q
      obtain ⟨⟨⟨⟨⟨rfl, hdel⟩, rfl⟩, hp⟩, hi⟩, ht⟩ := q
      obtain ⟨nm, bs, mro, ns, qn, hd, sn, sub, ab, col, del⟩ := cd
      dsimp only at hm hdel hi hp
      subst hm hdel
      have hsl : sl = #[k0, k1, k2, k3, some (.builtin "ValueError.__new__"), k5] := by
        obtain ⟨l⟩ := sl
        simp only at hs
        rw [hs]
      subst hsl
      unfold nsPlain at hp
      split at hp
      · rename_i c1 d1 es ep sl1 hl
        have sk : StrKeys es := fun en hen => by
          have y := (List.all_eq_true.mp hp) en (by simpa using hen)
          split at y
          · rename_i n t hk
            exact ⟨n, t, hk⟩
          · cases y
        have hN : ∀ h : Heap, K.In h → h.Ns ns (nsFind es) := fun h X => ⟨_, es, ep, X _ _ hl, rfl, sk, fun _ => rfl⟩
        exact ⟨bm, ns, nm, qn, bs, hd, sn, sub, ab, col, dd, k0, k1, k2, k3, k5, nsFind es, ns_some_of X₀ (hN h₀ X₀) hi, fun h X => ⟨X _ _ ho, hN h X, tail_own X₀ ht h X⟩⟩
      · cases hp
    · cases q
  · cases q
def spXI (C : Addr) (n : Nat) (ff : List V → List (Str × V)) : Sp := fun vs H Q _ => ∃ (e t : Addr) (xs : List V), vs = .ref e :: xs ∧ xs.length = n ∧ H e = some (xnw e C t none) ∧
  ∀ (d : Addr) (H' : Hp), H d = none → d ≠ e → H' e = some (xnw e C t (some d)) → H' d = some (xdo d (ff xs)) → (∀ b, b ≠ e → b ≠ d → H' b = H b) → Q .non H'
def RaisesG (X : Cx) (E : XK) : Prop := ∀ (pins : List (Addr × Obj)) (σ : St) (H : Hp) (s : Shared) (e C t : Addr) (od : Option Addr), Inv X pins σ H s → s.heap.get? e = some (xo C t od) → (∀ o, X.s₀.heap.get? e = some o → e ∈ X.ex) → H e = none → E (.ref C) od H → X.xe (.ref e) s
theorem raisesGR {P : Program} {w : World} {K : PySem.W.Frag} {mg : Str → Option Value} {base : Heap} {N : List Str} {qual : Str} {scope : Scope} {f : Addr} {cd : Value} {A : Around} {outer : List Env} {s₀ : Shared} {H₀ : Hp} {E : XK} : RaisesG (cxR P w K mg base N qual scope f cd A outer s₀ H₀ E) E := fun pins σ H s e C t od I he hn hH q => by
  refine raisesG I he ?_ hH q
  cases z : s₀.heap.get? e with
  | none => rfl
  | some o => exact absurd (show e ∈ ([] : List Addr) from hn o z) (by simp)
section
variable {X : Cx} {pins : List (Addr × Obj)} {σ : St} {H : Hp} {s : Shared} {e C t : Addr}
theorem Inv.lay {h' : Heap} {us : List Value} (I : Inv X pins σ H s) (M : Heap.MadeExcOf s.heap h' e (.ref C) us) : H e = none ∧ ∃ t, h'.get? e = some (xo C t none) ∧ Inv X pins σ (upd H e (xnw e C t none)) { s with heap := h' } := by
  obtain ⟨t, he, _, _⟩ := M.there
  have hH : H e = none := by
    cases z : H e with
    | none => rfl
    | some u =>
      obtain ⟨ob, zb⟩ := (I.hok e u z).is
      rw [M.new] at zb
      cases zb
  have ne : ∀ b o, s.heap.get? b = some o → b ≠ e := fun b o z y => by rw [y, M.new] at z; cases z
  refine ⟨hH, t, he, I.un (t' := s.toks) ⟨fun b o z _ _ _ => M.keeps b o z, fun b o z _ _ _ => ⟨o.slots, M.keeps b o z⟩, fun b o z n _ => by rw [upd_ne (ne b o z)]; exact n, fun b o z _ => ⟨o, M.keeps b o z⟩, fun b xs z => by rw [upd_ne (ne_of_none z hH)]; exact z, fun b o u z => by rw [upd_ne (ne_of_none z hH)]; exact z, fun b ps z => ⟨#[], by rw [upd_ne (ne_of_none z hH), z]; simp⟩⟩ fun a u q => ?_⟩
  by_cases ha : a = e
  · subst ha
    rw [upd_same] at q
    cases q
    exact xnw_ok he
  · rw [upd_ne ha] at q
    exact (I.hok a u q).stay (fun b o _ z => M.keeps b o z) (fun b z => by rw [upd_ne (ne_of_none z hH)]; exact z) fun b xs z => by rw [upd_ne (ne_of_none z hH)]; exact z
theorem Inv.let {od : Option Addr} (I : Inv X pins σ H s) (e0 : H e = some (xnw e C t od)) : Inv X pins σ (fun b => if b = e then none else H b) s := by
  have k : ∀ b u, H b = some u → (∀ φ, u ≠ .ext φ) → (fun b => if b = e then none else H b) b = some u := fun b u z n => by
    show (if b = e then none else H b) = some u
    rw [if_neg (fun y => by rw [y, e0] at z; cases z; exact n _ rfl)]
    exact z
  refine I.un (h' := s.heap) (t' := s.toks) ⟨fun b o z _ _ _ => z, fun b o z _ _ _ => ⟨o.slots, z⟩, fun b o z n _ => ?_, fun b o z _ => ⟨o, z⟩, fun b xs z => k b _ z nofun, fun b o u z => k b _ z nofun, fun b ps z => ⟨#[], (k b _ z nofun).trans (by simp)⟩⟩ fun a u q => ?_
  · show (if b = e then none else H b) = none
    split
    · rfl
    · exact n
  · by_cases ha : a = e
    · rw [if_pos ha] at q; cases q
    · rw [if_neg ha] at q
      exact (I.hok a u q).stay (fun b o _ z => z) (fun b z => k b _ z nofun) fun b xs z => k b _ z nofun
end
section
variable {X : Cx} {x : Str} {C fI : Addr} {fdI : FuncData} {psI : List Str} {k n : Nat} {ff : List V → List (Str × V)} {E : XK} {e₀ : Expr} {rest : List Expr} {t : TA} {np cpos pos : Pos}
def tRaiseI (C : Addr) (n : Nat) (ff : List V → List (Str × V)) (E : XK) (t : TA) : TS := fun _ σ H => t σ H fun vs H1 => vs.length = n ∧ ∀ d, H1 d = none → E (.ref C) (some d) (upd H1 d (xdo d (ff vs)))
theorem ps_raiseI (hK : excInI X.K C fI = true) (hf : PySem.W.isFn X.K (.ref fI) = true) (hm : X.mg x = some (.ref C)) (hR : RaisesG X E) (hA : X.calm = true) (F : FnOk X.prog X.w X.K X.mg X.base CX0 k fI fdI psI (spXI C n ff)) (hr : Room (k + 1) X.A) (hb : Binds X.K fdI psI []) (hz : n ≤ 100)
    (ha : PA X (e₀ :: rest) t) (hg : Gl X x := by rfl) (hd : (x == ("__debug__" : Str)) = false := by decide)
    (he : starEach (e₀ :: rest) X.env = (false, eval e₀ X.env) :: starEach rest X.env := by rfl) (hpl : (backTo cpos (starEach rest X.env)).any (·.1) = false := by rfl) :
    PS X (.Raise (some (.Call (.Name x np) (e₀ :: rest) [] cpos)) none pos) (tRaiseI C n ff E t) := by
  intro pins s σ H D I h
  obtain ⟨bm, N, nm, q, bs, hdct, sn, sub, ab, col, dd, k0, k1, k2, k3, k5, mN, hi, hK⟩ := excInI_obj I.kIn hK
  obtain ⟨_, _, T₀⟩ := hK _ I.kIn
  refine Raise_init (C := C) (fI := fI) (nm := nm) (q := q) (N := N) (bs := bs) (bm := bm) (hdct := hdct) (sn := sn) (sub := sub) (ab := ab) (col := col) (dd := dd) (k0 := k0) (k1 := k1) (k2 := k2) (k3 := k3) (k5 := k5)
    PySem.F.excBase_ValueError (mN := mN) (T₀.hasType PySem.F.excBase_ValueError.hasBase) (I.ok.hd hA) (by rw [he]; show (false || (backTo cpos (starEach rest X.env)).any (·.1)) = false; rw [hpl]; rfl) hi (ld_glob I hg hm ⟨rfl, ?_⟩ hd)
  have h1 := ha cpos pins s σ H _ I h
  rw [he] at h1 ⊢
  refine Calls.evalArgs_plain (wpAny_mono h1 (fun us s₂ h₂ => ?_) fun _ _ y => y)
  obtain ⟨vs, H1, I1, r, hl, q⟩ := h₂
  obtain ⟨g1, g2, g3⟩ := hK _ I1.kIn
  have hsz : us.length ≤ sizeLine := by rw [← r.length, hl]; exact Nat.le_trans hz (by decide)
  refine ⟨rfl, hsz, g1, g2, g3, ?_, fun h' e M => ?_⟩
  · have y := beq_iff_eq.mp hf
    unfold PySem.W.typeIn at y
    obtain ⟨oI, y1, y2⟩ := Option.map_eq_some_iff.mp y
    exact ⟨oI, I1.kIn _ _ y1, y2⟩
  obtain ⟨H1e, t0, he0, I2⟩ := I1.lay M
  have hsp : spXI C n ff (V.ref e :: vs) (upd H1 e (xnw e C t0 none)) (fun v H2 => v = .non ∧ ∃ d, H1 d = none ∧ d ≠ e ∧ H2 e = some (xnw e C t0 (some d)) ∧ H2 d = some (xdo d (ff vs)) ∧ ∀ b, b ≠ e → b ≠ d → H2 b = H1 b) E0 :=
    ⟨e, t0, vs, rfl, hl, upd_same, fun d H' d1 d2 d3 d4 d5 => ⟨rfl, d, by rw [upd_ne d2] at d1; exact d1, d2, d3, d4, fun b b1 b2 => by rw [d5 b b1 b2, upd_ne b1]⟩⟩
  have r2 : Vals (V.ref e :: vs) (Value.ref e :: us) := .cons rfl r
  have hlen : (Value.ref e :: us ++ []).length = psI.length := by
    have z := r2.length
    rw [F.len _ _ _ _ hsp] at z
    rw [List.append_nil]
    exact z.symm
  have hbb := hb _ (Value.ref e :: us) I2.kIn hlen
  rw [List.append_nil] at hbb
  refine wpAny_call (codeAny_mono (F.run _ X.stack _ _ ⟨Value.ref e :: us, []⟩ (Value.ref e :: us) _ _ E0 (hr.make C us []) (I2.env0.make C us []) hbb r2 hsp) fun r s' hq => ?_)
  cases r with
  | error x => exact hq.elim
  | ok fl =>
    cases fl with
    | ret u =>
      obtain ⟨v, H', I3, rv, ev, d, d1, d2, d3, d4, d5⟩ := I2.after hq
      subst ev
      have he3 : s'.heap.get? e = some (xo C t0 (some d)) := (show ObjOk X.prog X.w H' s'.heap e (xnw e C t0 (some d)) from I3.hok e _ d3).1
      have I4 := I3.let d3
      have eH : (fun b => if b = e then none else H' b) = upd H1 d (xdo d (ff vs)) := by
        funext b
        by_cases b1 : b = e
        · rw [if_pos b1, b1, upd_ne d2.symm, H1e]
        · rw [if_neg b1]
          by_cases b2 : b = d
          · rw [b2, d4, upd_same]
          · rw [d5 b b1 b2, upd_ne b2]
      rw [eH] at I4
      refine ⟨rv, (hK _ I3.kIn).1, ⟨t0, some d, he3⟩, hR pins σ _ s' e C t0 (some d) I4 he3 (fun o z => ?_) (by rw [upd_ne d2.symm]; exact H1e) (q d d1)⟩
      by_cases hx : e ∈ X.ex
      · exact hx
      · obtain ⟨o', z'⟩ := I1.base.there e o z hx
        rw [M.new] at z'
        cases z'
    | next => exact False.elim hq
    | brk => exact False.elim hq
    | cont => exact False.elim hq
end
end L2
end
section
namespace L2
open PySem
structure CMeth (K : PySem.W.Frag) (C : Addr) (m : Str) (f : Addr) : Prop where
  sp : PySem.W.specialIn K (.ref C) "__getattribute__" = some (some (.builtin "type.__getattribute__"))
  rd : PySem.W.readsIn K C (.type "type") = true
  at_ : PySem.W.findCls K (.ref C) (.type "type") m = some (.val (.ref f))
  kp : PySem.W.keepIn K (.ref f) = true
section
variable {X : Cx} {CX : CXT} {k : Nat} {f C : Addr} {fd : FuncData} {ps : List Str} {sp : Sp} {dvs : List V} {ds : List Value} {E : XK} {x m : Str} {p pos apos : Pos} {e o : Expr} {es : List Expr} {t : TA}
end
end L2
end
section
namespace L2
open PySem PySem.Spec PyProof.Rows
end L2
namespace L2
open PySem PySem.Spec PyProof.Rows
section
variable (P : Program) (w : World)
end
section
variable {P : Program} {w : World} {H H' : Hp} {h h' : Heap} {a : Addr} {o : HO}
end
section
variable {P : Program} {w : World} {H : Hp} {h h' : Heap} {x e : Addr} {o' : HO}
end
section
variable {fs fs' ex ex' : List Addr} {H H1 H2 : Hp} {h h1 h2 h' : Heap} {a x e : Addr} {o : HO}
end
end L2
namespace L2
open PySem PySem.Spec PyProof.Rows
section
variable {X : Cx} {pins : List (Addr × Obj)} {σ : List (Option V)} {H H' : Hp} {s : Shared} {h' : Heap}
end
end L2
namespace L2
open PySem PySem.Spec PyProof.Rows
section
variable {X : Cx}
variable {a b : Expr} {ta tb : TE} {pos : Pos}
variable {tA tB' : TT} {rest : List Expr}
end
end L2
namespace L2
open PySem PySem.Spec PyProof.Rows
section
variable {X : Cx} {pins : List (Addr × Obj)} {σ : St} {H : Hp} {s : Shared} {a : Addr} {xs ys : List V}
end
section
variable {X : Cx} {pins : List (Addr × Obj)} {σ : St} {H : Hp} {s : Shared} {E : Value → Shared → Prop}
end
section
variable {X : Cx} {st : Stmt} {rest : List Stmt} {t u : TS} {e : Expr} {te : TE} {pos : Pos}
end
section
variable {X : Cx} {pos : Pos}
end
section
variable {X : Cx} {pos : Pos}
end
end L2
namespace L2
open PySem PySem.Spec PyProof.Rows
section
variable {X : Cx} {tg : Expr}
end
end L2
namespace L2
open PySem PySem.Spec PyProof.Rows
section
variable {X : Cx} {a b c : Expr} {ta tb tc : TE} {pos : Pos}
end
section
variable {X : Cx} {a b c : Expr} {ta tb tc : TE} {pos : Pos}
end
end L2
namespace L2
open PySem PySem.Spec PyProof.Rows
section
variable {prog : Program} {w : World} {A : Around} {E : Value → Shared → Prop} {s : Shared} {K : PySem.W.Frag} {x dx C f : Addr} {mA : Str → Option Value} {name : Str} {v : Value}
end
section
variable {P : Program} {w : World} {H H' : Hp} {h h' : Heap} {a C dx : Addr} {fs fs' : List (Str × V)}
end
section
variable {X : Cx} {pins : List (Addr × Obj)} {σ : St} {H : Hp} {s : Shared} {a C dx : Addr} {fs : List (Str × V)} {f : Str} {v : V} {A : Around} {E : Value → Shared → Prop}
end
section
variable {X : Cx} {o e value : Expr} {f : Str} {pos pos' tpos : Pos} {ta tv : TE}
end
section
variable {X : Cx} {pins : List (Addr × Obj)} {σ : St} {H : Hp} {s : Shared} {A : Around} {E : Value → Shared → Prop} {Q : Value → Shared → Prop} {c : Value} {b : Bool}
end
end L2
namespace L2
open PySem PySem.Spec PyProof.Rows
section
variable {X : Cx} {e : Expr} {es : List Expr} {te : TE} {t : TA} {pos : Pos}
end
section
variable {X : Cx} {pins : List (Addr × Obj)} {σ : St} {H : Hp} {s s' : Shared}
end
section
variable {X : Cx} {CX : CXT} {k : Nat} {f C : Addr} {fd : FuncData} {ps : List Str} {sp : Sp} {dvs : List V} {ds : List Value} {E : XK} {x m : Str} {p pos apos : Pos} {e o : Expr} {es : List Expr} {ta : TE} {t : TA}
end
section
variable {X : Cx} {CX : CXT} {k : Nat} {f C : Addr} {fd : FuncData} {ps ks : List Str} {sp : Sp} {E : XK} {x m : Str} {p pos apos kpos : Pos} {e o : Expr} {es : List Expr} {kws : List Keyword} {te ta : TE} {t tk : TA} {nm : Option Str}
variable {g : List Value → List Value → List Value} {gV : List V → List V → List V}
end
end L2
namespace L2
open PySem PySem.Spec PyProof.Rows
section
variable {X : Cx} {x : Str} {p pos : Pos} {e : Expr} {es : List Expr} {t : TA} {id T : String} {r : List V → Hp → VK → Prop}
end
end L2
namespace L2
open PySem PySem.Spec PyProof.Rows
section
variable {κ : Type} [DecidableEq κ]
end
section
variable {P : Program} {w : World} {H : Hp} {h : Heap} {a : Addr}
end
section
variable {X : Cx} {pins : List (Addr × Obj)} {σ : St} {H : Hp} {s : Shared} {a : Addr} {y v : V} {u r : Value} {o : Option V} {A : Around} {E : Value → Shared → Prop}
end
section
variable {X : Cx} {pins : List (Addr × Obj)} {σ : St} {H : Hp} {s : Shared} {a : Addr} {kvs : List (Key × V)} {k : Key} {u : Value} {A : Around} {E : Value → Shared → Prop}
end
section
variable {X : Cx} {o i e value : Expr} {pos pos' tpos : Pos} {td ty tv : TE}
end
section
variable {X : Cx} {pos : Pos}
end
structure M1 (X : Cx) (o : Expr) (m : Str) (apos : Pos) (e : Expr) (cpos : Pos) : Prop where
  base : attributeBase o m X.env (eval o X.env) = eval o X.env
  few : ((backTo cpos (starEach [e] X.env)).all (fun x => !x.1) && (backToKw cpos (keywordEach [] X.env)).all (fun x => x.1.isSome)
    && decide (([e] : List Expr).length + ([] : List Keyword).length + (if ([] : List Keyword).isEmpty then 0 else 1) < 30)) = true
  line : (apos.endLine == cpos.line) = true
  trees : backTo cpos (starEach [e] X.env) = [(false, eval e X.env)]
structure M2 (X : Cx) (o : Expr) (m : Str) (apos : Pos) (e f : Expr) (cpos : Pos) : Prop where
  base : attributeBase o m X.env (eval o X.env) = eval o X.env
  few : ((backTo cpos (starEach [e, f] X.env)).all (fun x => !x.1) && (backToKw cpos (keywordEach [] X.env)).all (fun x => x.1.isSome)
    && decide (([e, f] : List Expr).length + ([] : List Keyword).length + (if ([] : List Keyword).isEmpty then 0 else 1) < 30)) = true
  line : (apos.endLine == cpos.line) = true
  trees : backTo cpos (starEach [e, f] X.env) = [(false, eval e X.env), (false, eval f X.env)]
section
variable {X : Cx} {pins : List (Addr × Obj)} {σ : St} {H : Hp} {s : Shared} {a : Addr} {y d : V} {u r : Value} {o : Option V} {A : Around} {E : Value → Shared → Prop}
end
section
variable {X : Cx} {o e f : Expr} {apos cpos : Pos} {td ty tx : TE}
end
section
variable {X : Cx} {pins : List (Addr × Obj)} {σ : St} {H : Hp} {s : Shared} {a : Addr} {kvs : List (Key × V)} {A : Around} {E : Value → Shared → Prop}
end
section
variable {X : Cx} {pins : List (Addr × Obj)} {σ : St} {H : Hp} {s : Shared} {a : Addr} {y : V} {u : Value} {A : Around} {E : Value → Shared → Prop}
end
end L2
namespace Att
open PySem PySem.W PySem.Calls PyProof.Rows
section
variable {prog : Program} {w : World} {A : Around} {E : Value → Shared → Prop} {s : Shared} {K : Frag}
end
end Att
namespace L2
open PySem PySem.Spec PyProof.Rows
end L2
namespace L2
open PySem PySem.Spec PyProof.Rows
end L2
namespace L2
open PySem PySem.Spec PyProof.Rows
section
variable {P : Program} {w : World} {K : PySem.W.Frag} {mg : Str → Option Value} {base : Heap}
end
section
variable {X : Cx}
end
section
variable {κ : Type} [DecidableEq κ]
end
end L2
end
section
namespace L2
open PySem PySem.Spec PyProof.Rows
section
variable {X : Cx} {pins : List (Addr × Obj)} {σ σ0 : St} {H H0 : Hp} {s s0 : Shared} {d : Addr} {ob : Obj} {kvs : List (Key × V)}
end
theorem kit_tup_int {K : PySem.W.Frag} : PySem.W.kitOne K (.type "int") (.type "tuple") = some false := by kernel_rfl
section
variable {X : Cx} {pins : List (Addr × Obj)} {σ : St} {H₂ : Hp} {s₂ : Shared} {fp : List Addr} {x y : Str} {scope : Scope} {C : Addr}
end
section
variable {X : Cx} {x y : Str} {px py pos tpos : Pos} {scope : Scope} {elt iter : Expr} {ti te : TE} {k1 : Nat}
end
end L2
end
section
namespace L2
open PySem
def dP : Option (List Int) → PyData
  | none => .none
  | some ws => .list (ws.map PyData.int)
def dC (c : List (Option (List Int))) : PyData := .list (c.map dP)
theorem dP_ok (o : Option (List Int)) : (dP o).canLay0 = true ∧ (dP o).depth ≤ 1 ∧ PyData.eqv (dP o) (dP o) = true := by
  cases o with
  | none => exact ⟨rfl, by decide, rfl⟩
  | some ws =>
    obtain ⟨h1, h2⟩ := layI ws
    exact ⟨by simp only [dP, PyData.canLay0, h1], by simp only [dP, PyData.depth, h2]; decide, eqvI ws⟩
theorem dC_all : ∀ c : List (Option (List Int)), PyData.canLayAll0 (c.map dP) = true ∧ PyData.depthAll (c.map dP) ≤ 1 ∧ PyData.eqvAll (c.map dP) (c.map dP) = true
  | [] => ⟨rfl, by decide, rfl⟩
  | o :: r => by
    obtain ⟨h1, h2, h3⟩ := dC_all r
    obtain ⟨g1, g2, g3⟩ := dP_ok o
    refine ⟨?_, ?_, ?_⟩
    · simp only [List.map_cons, PyData.canLayAll0, h1, g1, Bool.and_self]
    · simp only [List.map_cons, PyData.depthAll]
      omega
    · simp only [List.map_cons, PyData.eqvAll, h3, g3, Bool.and_self]
theorem shapedC (c : List (Option (List Int))) : SeqAt.shaped (dC c) = true := by
  obtain ⟨h1, h2, _⟩ := dC_all c
  simp only [dC, SeqAt.shaped, PyData.canLay0, PyData.depth, h1, Bool.true_and]
  exact decide_eq_true (by omega)
theorem eqvC (c : List (Option (List Int))) : PyData.eqv (dC c) (dC c) = true := by
  simp only [dC, PyData.eqv]
  exact (dC_all c).2.2
theorem datP {K : PySem.W.Frag} {H : Hp} : ∀ ps : Pgs, (∀ (p : Addr) (ws : List Int), some (p, ws) ∈ ps → H p = some (.lst (ws.map V.int))) → DatsR K H (ps.map pgV) ((cont ps).map dP)
  | [], _ => .nil
  | none :: r, h => .cons .non (datP r fun p ws m => h p ws (List.mem_cons_of_mem _ m))
  | some (p, ws) :: r, h => .cons (.lst (SqL.of (h p ws (List.mem_cons_self ..))) (datsI ws)) (datP r fun p ws m => h p ws (List.mem_cons_of_mem _ m))
theorem datPg {K : PySem.W.Frag} {H : Hp} {a : Addr} {ps : Pgs} (g : Pg H a ps) : DatR K H (.ref a) (dC (cont ps)) := .lst (SqL.of g.top) (datP ps fun p ws m => by
  obtain ⟨i, e⟩ := List.getElem?_of_mem m
  exact (g.each i p ws e).1)
structure PEq (X : Cx) (e : Expr) (t : TE) : Prop where
  h : PE X e t
structure PAq (X : Cx) (es : List Expr) (t : TA) : Prop where
  h : PA X es t
structure PSq (X : Cx) (st : Stmt) (t : TS) : Prop where
  h : PS X st t
structure PSsq (X : Cx) (st : List Stmt) (t : TS) : Prop where
  h : PSs X st t
structure PTq (X : Cx) (c : Expr) (t : TT) : Prop where
  h : PT X c t
structure PIq (X : Cx) (tg iter : Expr) (w : TI) : Prop where
  h : PI X tg iter w
structure PGq (X : Cx) (tg : Expr) (g : TG) : Prop where
  h : PG X tg g
section
variable {X : Cx} {st : Stmt} {rest : List Stmt} {t u : TS} {e tg iter : Expr} {te : TE} {pos : Pos}
end
inductive IntCs : List Expr → List Int → Prop
  | nil : IntCs [] []
  | cons {z : Int} {j : Nat} {p : Pos} {es : List Expr} {zs : List Int} : IntCs es zs → IntCs (.Constant (.int z) j p :: es) (z :: zs)
end L2
end
section
namespace L2
open PySem PySem.Spec PyProof.Rows
def isS : V → Bool
  | .str _ => true
  | _ => false
def isTup (H : Hp) : V → Bool
  | .ref a => match H a with | some (.tup _) => true | _ => false
  | _ => false
section
variable {K : PySem.W.Frag}
theorem kit_str_non : PySem.W.kitOne K (.type "NoneType") (.type "str") = some false := by kernel_rfl
theorem kit_str_bl : PySem.W.kitOne K (.type "bool") (.type "str") = some false := by kernel_rfl
theorem kit_str_int : PySem.W.kitOne K (.type "int") (.type "str") = some false := by kernel_rfl
theorem kit_str_str : PySem.W.kitOne K (.type "str") (.type "str") = some true := by kernel_rfl
theorem kit_str_lst : PySem.W.kitOne K (.type "list") (.type "str") = some false := by kernel_rfl
theorem kit_str_tup : PySem.W.kitOne K (.type "tuple") (.type "str") = some false := by kernel_rfl
theorem kit_str_dic : PySem.W.kitOne K (.type "dict") (.type "str") = some false := by kernel_rfl
theorem kit_tup_non : PySem.W.kitOne K (.type "NoneType") (.type "tuple") = some false := by kernel_rfl
theorem kit_tup_bl : PySem.W.kitOne K (.type "bool") (.type "tuple") = some false := by kernel_rfl
theorem kit_tup_str : PySem.W.kitOne K (.type "str") (.type "tuple") = some false := by kernel_rfl
theorem kit_tup_lst : PySem.W.kitOne K (.type "list") (.type "tuple") = some false := by kernel_rfl
theorem kit_tup_dic : PySem.W.kitOne K (.type "dict") (.type "tuple") = some false := by kernel_rfl
end
section
variable {X : Cx}
theorem call_isstr : CallR X (.builtin "isinstance") (fun xs H Q => ∃ x, xs = [x, .ty "str"] ∧ Th H x ∧ Q (.bl (isS x)) H) := by
  intro pins s σ H xs us Q I r h
  obtain ⟨x, rfl, th, q⟩ := h
  obtain ⟨u, v, rfl, rx, rt⟩ := r.two
  obtain rfl : v = PySem.Value.type "str" := rt
  cases th with
  | non => exact isinst_ok I rx .non kit_str_non fun tk => ⟨.bl _, H, I.tok tk, rfl, q⟩
  | bl b => exact isinst_ok I rx (.bl b) kit_str_bl fun tk => ⟨.bl _, H, I.tok tk, rfl, q⟩
  | int i => exact isinst_ok I rx (.int i) kit_str_int fun tk => ⟨.bl _, H, I.tok tk, rfl, q⟩
  | str z => exact isinst_ok I rx (.str z) kit_str_str fun tk => ⟨.bl _, H, I.tok tk, rfl, q⟩
  | lst e => exact isinst_ok I rx (.lst e) kit_str_lst fun tk => ⟨.bl _, H, I.tok tk, rfl, q⟩
  | frz e => exact isinst_ok I rx (.frz e) kit_str_lst fun tk => ⟨.bl _, H, I.tok tk, rfl, q⟩
  | tup e => exact isinst_ok I rx (.tup e) kit_str_tup fun tk => ⟨.bl _, H, I.tok tk, rfl, q⟩
  | dic e => exact isinst_ok I rx (.dK e) kit_str_dic fun tk => ⟨.bl _, H, I.tok tk, rfl, q⟩
theorem call_istupT : CallR X (.builtin "isinstance") (fun xs H Q => ∃ x, xs = [x, .ty "tuple"] ∧ Th H x ∧ Q (.bl (isTup H x)) H) := by
  intro pins s σ H xs us Q I r h
  obtain ⟨x, rfl, th, q⟩ := h
  obtain ⟨u, v, rfl, rx, rt⟩ := r.two
  obtain rfl : v = PySem.Value.type "tuple" := rt
  cases th with
  | non => exact isinst_ok I rx .non kit_tup_non fun tk => ⟨.bl _, H, I.tok tk, rfl, q⟩
  | bl b => exact isinst_ok I rx (.bl b) kit_tup_bl fun tk => ⟨.bl _, H, I.tok tk, rfl, q⟩
  | int i => exact isinst_ok I rx (.int i) kit_tup_int fun tk => ⟨.bl _, H, I.tok tk, rfl, q⟩
  | str z => exact isinst_ok I rx (.str z) kit_tup_str fun tk => ⟨.bl _, H, I.tok tk, rfl, q⟩
  | lst e => exact isinst_ok I rx (.lst e) kit_tup_lst fun tk => ⟨.bl _, H, I.tok tk, rfl, by simp only [isTup, e] at q; exact q⟩
  | frz e => exact isinst_ok I rx (.frz e) kit_tup_lst fun tk => ⟨.bl _, H, I.tok tk, rfl, by simp only [isTup, e] at q; exact q⟩
  | tup e => exact isinst_ok I rx (.tup e) kit_tup_tup fun tk => ⟨.bl _, H, I.tok tk, rfl, by simp only [isTup, e] at q; exact q⟩
  | dic e => exact isinst_ok I rx (.dK e) kit_tup_dic fun tk => ⟨.bl _, H, I.tok tk, rfl, by simp only [isTup, e] at q; exact q⟩
end
end L2
end
section
namespace L2
open PySem PySem.Spec PyProof.Rows
section
variable {X : Cx} {e : Expr} {te : TEX} {pos : Pos}
def tSetX (i : Nat) (te : TEX) : TSX := fun D E σ H => te σ H (fun v H1 => D.nx (σ.set i (some v)) H1) (E σ)
theorem psx_set {i : Nat} {x : Str} {pos' : Pos} (hN : X.N.Nodup) (hi : X.N[i]? = some x) (hx : Loc X.env.scope x) (he : PEX X e te) (hs : swapsWith e (some (.Name x pos')) pos.line X.env = pure false := by rfl) (hf : X.fn x = true ∨ X.env.scope.names.lookup x = some .local := by first | exact .inl rfl | exact .inr rfl | assumption) : PSX X [.Assign [.Name x pos'] e pos] (tSetX i te) := by
  intro pins s σ H D E I h
  refine wpAny_execs_cons ?_
  refine wpAny_Assign_Name (wpAny_mono (he pins s σ H _ (E σ) I h) (fun v s1 q => ?_) fun x s1 q => ⟨σ, q⟩) hs
  obtain ⟨y, H1, I1, r1, q1⟩ := q
  exact store_ok I1 hN hi hx r1 (fun s2 I2 => wpAny_execs_nil (show SP X pins D .next s2 from ⟨_, H1, I2, q1⟩)) hf
end
end L2
end
section
namespace K14
open PySem L2
abbrev sWhole : Stmt := top 17
abbrev sBelow : Stmt := top 18
abbrev sWord : Stmt := top 19
abbrev sEight : Stmt := top 35
abbrev sImage : Stmt := top 36
abbrev sRead : Stmt := inClass (top 38) 4
abbrev sSpot : Stmt := inClass (top 38) 7
abbrev sCPage : Stmt := inClass (top 38) 8
abbrev sInit : Stmt := inClass (top 39) 0
abbrev sSize : Stmt := inClass (top 39) 1
abbrev sHas : Stmt := inClass (top 39) 2
abbrev sWordAt : Stmt := inClass (top 39) 3
abbrev sTold : Stmt := inClass (top 39) 7
def below : V → Int → Bool
  | .int i, b => decide (0 ≤ i) && decide (i < b)
  | _, _ => false
theorem below_int {x : V} {b : Int} (h : below x b = true) : ∃ i, x = .int i ∧ 0 ≤ i ∧ i < b := by
  cases x with
  | int i =>
    simp only [below, Bool.and_eq_true, decide_eq_true_eq] at h
    exact ⟨i, rfl, h.1, h.2⟩
  | _ => cases h
theorem below_of {i b : Int} (h0 : 0 ≤ i) (h1 : i < b) : below (.int i) b = true := by simp [below, h0, h1]
structure Dn (K : PySem.W.Frag) (mg : Str → Option Value) (x : Str) (st : Stmt) (ps : List Str) (f : Addr) (fd : FuncData) : Prop where
  F : Fun K x x st f fd
  m : mg x = some (.ref f)
  b : Binds K fd ps []
structure Me (K : PySem.W.Frag) (C : Addr) (x qual : Str) (st : Stmt) (ps : List Str) (f : Addr) (fd : FuncData) : Prop where
  F : Fun K x qual st f fd
  m : Meth K C x f
  b : Binds K fd ps []
structure Txt (K : PySem.W.Frag) (mg : Str → Option Value) : Prop where
  isi : mg "isinstance" = none
  int : mg "int" = none
  boo : mg "bool" = none
  lst : mg "list" = none
  len : mg "len" = none
  all : mg "all" = none
  rng : mg "range" = none
structure Sto (K : PySem.W.Frag) (mg : Str → Option Value) (C NP NL NW NI : Addr) : Prop where
  cl : Cls K C
  nh : NoAttr K C "held"
  words : ∃ t, mg "WORDS" = some (.int 281474976710656 t)
  cells : ∃ t, mg "CELLS" = some (.int 8 t)
  most : ∃ t, mg "MOST_PAGES" = some (.int 24 t)
  np : mg "NoPage" = some (.ref NP)
  xp : L2.excIn K NP = true
  nl : mg "NoPlace" = some (.ref NL)
  xl : L2.excIn K NL = true
  nw : mg "NoWord" = some (.ref NW)
  xw : L2.excIn K NW = true
  ni : mg "NoImage" = some (.ref NI)
  xi : L2.excIn K NI = true
def flds (h : Addr) : List (Str × V) := putF "held" (.ref h) []
theorem flds_held (h : Addr) : (flds h).lookup ("held" : Str) = some (.ref h) := by
  unfold flds
  rw [lookup_putF, if_pos rfl]
theorem flds_no (h : Addr) {m : Str} (h1 : ¬ m = "held") : (flds h).lookup m = none := by
  unfold flds
  rw [lookup_putF, if_neg h1]
  rfl
structure Mem (C : Addr) (H : Hp) (m h : Addr) (ps : Pgs) : Prop where
  ob : ∃ dx, H m = some (.ins C dx (flds h))
  pg : Pg H h ps
  good : Good ps
  len : 1 ≤ ps.length ∧ ps.length ≤ 24
theorem Mem.same {C : Addr} {H H' : Hp} {m h : Addr} {ps : Pgs} (M : Mem C H m h ps) (s : Same H H') : Mem C H' m h ps := ⟨⟨_, s _ _ M.ob.choose_spec⟩, M.pg.same s, M.good, M.len⟩
def isThere : Option (Option (Addr × List Int)) → Bool
  | some (some _) => true
  | _ => false
def hasP (ps : Pgs) : V → Bool
  | .int i => decide (0 ≤ i) && decide (i < ps.length) && isThere ps[i.toNat]?
  | _ => false
theorem hasP_int {ps : Pgs} {x : V} (h : hasP ps x = true) : ∃ (i : Nat) (p : Addr) (ws : List Int), x = .int i ∧ ps[i]? = some (some (p, ws)) := by
  cases x with
  | int i =>
    simp only [hasP, Bool.and_eq_true, decide_eq_true_eq] at h
    obtain ⟨⟨h0, h1⟩, h2⟩ := h
    cases e : ps[i.toNat]? with
    | none => rw [e] at h2; cases h2
    | some o =>
      cases o with
      | none => rw [e] at h2; cases h2
      | some q => exact ⟨i.toNat, q.1, q.2, congrArg V.int (by omega), e⟩
  | _ => cases h
theorem hasP_of {ps : Pgs} {i : Nat} {p : Addr} {ws : List Int} (e : ps[i]? = some (some (p, ws))) : hasP ps (.int i) = true := by
  have hi : i < ps.length := (List.getElem?_eq_some_iff.mp e).1
  simp only [hasP, Int.toNat_natCast, e, isThere, Bool.and_true, Bool.and_eq_true, decide_eq_true_eq]
  omega
def spWhole : Sp := fun vs H Q _ => ∃ x, vs = [x] ∧ Th H x ∧ Q (.bl (isI x)) H
def spBelow : Sp := fun vs H Q _ => ∃ x b, vs = [x, .int b] ∧ Th H x ∧ Q (.bl (below x b)) H
def spWord : Sp := fun vs H Q _ => ∃ x, vs = [x] ∧ Th H x ∧ Q (.bl (below x 281474976710656)) H
def spSize (C : Addr) : Sp := fun vs H Q _ => ∃ m h ps, vs = [.ref m] ∧ Mem C H m h ps ∧ Q (.int ps.length) H
def spHas (C : Addr) : Sp := fun vs H Q _ => ∃ m h ps x, vs = [.ref m, x] ∧ Mem C H m h ps ∧ Th H x ∧ Q (.bl (hasP ps x)) H
def spCPage (C NP : Addr) : Sp := fun vs H Q E => ∃ m h ps x, vs = [.ref m, x] ∧ Mem C H m h ps ∧ Th H x ∧ (hasP ps x = true → Q .non H) ∧ (hasP ps x = false → E (.ref NP) none H)
def spSpot (C NP NL : Addr) : Sp := fun vs H Q E => ∃ m h ps x y, vs = [.ref m, x, y] ∧ Mem C H m h ps ∧ Th H x ∧ Th H y ∧ (hasP ps x = true → below y 8 = true → Q .non H) ∧ (hasP ps x = false → E (.ref NP) none H) ∧ (hasP ps x = true → below y 8 = false → E (.ref NL) none H)
def spWordAt (C : Addr) : Sp := fun vs H Q _ => ∃ m h ps, ∃ (i j : Nat) (p : Addr) (ws : List Int), vs = [.ref m, .int i, .int j] ∧ Mem C H m h ps ∧ ps[i]? = some (some (p, ws)) ∧ j < 8 ∧ Q (.int (ws.getD j 0)) H
def spRead (C NP NL : Addr) : Sp := fun vs H Q E => ∃ m h ps x y, vs = [.ref m, x, y] ∧ Mem C H m h ps ∧ Th H x ∧ Th H y ∧
  (∀ (i j : Nat) (p : Addr) (ws : List Int), x = .int i → y = .int j → ps[i]? = some (some (p, ws)) → j < 8 → Q (.int (ws.getD j 0)) H) ∧ (hasP ps x = false → E (.ref NP) none H) ∧ (hasP ps x = true → below y 8 = false → E (.ref NL) none H)
def spTold (C : Addr) : Sp := fun vs H Q _ => ∃ m h ps, vs = [.ref m] ∧ Mem C H m h ps ∧ ∀ D H' qs, Same H H' → Pg H' D qs → cont qs = cont ps → (∀ b, At D qs b → H b = none) → Q (.ref D) H'
section
variable {P : Program} {w : World} {K : PySem.W.Frag} {mg : Str → Option Value} {base : Heap} {C NP NL NW NI : Addr}
theorem scWh : FnScope ["thing"] ["thing"] (defScope sWhole) := ⟨rfl, rfl, rfl, by decide +kernel, rfl, by decide +kernel, by decide +kernel⟩
theorem ok_whole {f : Addr} {fd : FuncData} (F : Fun K "is_whole" "is_whole" sWhole f fd) (T : Txt K mg) : FnOk P w K mg base CX0 1 f fd ["thing"] spWhole := by
  refine F.ok scWh (fun vs H Q E h => ?_) (fun cdv A outer s H vs Q E hr h => ?_)
  · obtain ⟨x, rfl, _⟩ := h
    rfl
  · obtain ⟨x, rfl, th, q⟩ := h
    refine ⟨_, (pss_one (ps_ret (pe_and (pe_callB call_isint (by rfl) T.isi PyProof.Rows.boot_isinstance (pa_cons (pv 0) (pa_cons (pe_bltn (by rfl) T.int PyProof.Rows.boot_int (show RelV (.ty "int") (.type "int") from rfl)) pa_nil))) (pe_one (pe_not (pe_callB call_isbool (by rfl) T.isi PyProof.Rows.boot_isinstance (pa_cons (pv 0) (pa_cons (pe_bltn (by rfl) T.boo PyProof.Rows.boot_bool (show RelV (.ty "bool") (.type "bool") from rfl)) pa_nil)))))))), ?_⟩
    refine ⟨x, rfl, x, rfl, th, _, rfl, ?_⟩
    cases th with
    | non => exact iteF q
    | bl b => exact iteT ⟨_, rfl, _, rfl, .bl b, _, rfl, q⟩
    | int i => exact iteT ⟨_, rfl, _, rfl, .int i, _, rfl, q⟩
    | str z => exact iteF q
    | lst e => exact iteF q
    | frz e => exact iteF q
    | tup e => exact iteF q
    | dic e => exact iteF q
theorem scBe : FnScope ["thing", "bound"] ["thing", "bound"] (defScope sBelow) := ⟨rfl, rfl, rfl, by decide +kernel, rfl, by decide +kernel, by decide +kernel⟩
theorem ok_below {f f1 : Addr} {fd fd1 : FuncData} (F : Fun K "is_below" "is_below" sBelow f fd) (W : Dn K mg "is_whole" sWhole ["thing"] f1 fd1) (T : Txt K mg) : FnOk P w K mg base CX0 2 f fd ["thing", "bound"] spBelow := by
  have G : FnOk P w K mg base CX0 1 f1 fd1 ["thing"] spWhole := ok_whole W.F T
  refine F.ok scBe (fun vs H Q E h => ?_) (fun cdv A outer s H vs Q E hr h => ?_)
  · obtain ⟨x, b, rfl, _⟩ := h
    rfl
  · obtain ⟨x, b, rfl, th, q⟩ := h
    refine ⟨_, (pss_one (ps_ret (pe_and (pe_call G hr (by rfl) W.m W.F.kp W.b .nil pass0 (pa_cons (pv 0) pa_nil)) (pe_one (pe_chain op_le op_lt pe_int (pv 0) (pv 1)))))), ?_⟩
    refine ⟨x, rfl, x, rfl, th, _, rfl, ?_⟩
    cases th with
    | int i =>
      refine iteT ⟨_, rfl, 0, i, rfl, rfl, _, rfl, ?_⟩
      by_cases h0 : (0 : Int) ≤ i
      · rw [decide_eq_true h0]
        refine iteT ⟨_, rfl, i, b, rfl, rfl, ?_⟩
        simp only [below, decide_eq_true h0, Bool.true_and] at q
        exact q
      · rw [decide_eq_false h0]
        refine iteF ?_
        simp only [below, decide_eq_false h0, Bool.false_and] at q
        exact q
    | non => exact iteF q
    | bl b => exact iteF q
    | str z => exact iteF q
    | lst e => exact iteF q
    | frz e => exact iteF q
    | tup e => exact iteF q
    | dic e => exact iteF q
theorem scWd : FnScope ["thing"] ["thing"] (defScope sWord) := ⟨rfl, rfl, rfl, by decide +kernel, rfl, by decide +kernel, by decide +kernel⟩
theorem ok_word {f f1 : Addr} {fd fd1 : FuncData} (F : Fun K "is_word" "is_word" sWord f fd) (B : Dn K mg "is_below" sBelow ["thing", "bound"] f1 fd1) (G : FnOk P w K mg base CX0 2 f1 fd1 ["thing", "bound"] spBelow) (S : Sto K mg C NP NL NW NI) : FnOk P w K mg base CX0 3 f fd ["thing"] spWord := by
  refine F.ok scWd (fun vs H Q E h => ?_) (fun cdv A outer s H vs Q E hr h => ?_)
  · obtain ⟨x, rfl, _⟩ := h
    rfl
  · obtain ⟨x, rfl, th, q⟩ := h
    obtain ⟨t1, m1⟩ := S.words
    refine ⟨_, (pss_one (ps_ret (pe_call G hr (by rfl) B.m B.F.kp B.b .nil pass0 (pa_cons (pv 0) (pa_cons (pe_glob (by rfl) m1 (show RelV (.int 281474976710656) (.int 281474976710656 t1) from ⟨_, rfl⟩)) pa_nil))))), ?_⟩
    exact ⟨x, rfl, x, _, rfl, th, q⟩
theorem scSi : FnScope ["self"] ["self"] (defScope sSize) := ⟨rfl, rfl, rfl, by decide +kernel, rfl, by decide +kernel, by decide +kernel⟩
theorem ok_size {f : Addr} {fd : FuncData} (F : Fun K "size" "Memory.size" sSize f fd) (S : Sto K mg C NP NL NW NI) (T : Txt K mg) : FnOk P w K mg base CX0 1 f fd ["self"] (spSize C) := by
  refine F.ok scSi (fun vs H Q E h => ?_) (fun cdv A outer s H vs Q E hr h => ?_)
  · obtain ⟨m, h, ps, rfl, _⟩ := h
    rfl
  · obtain ⟨m, h, ps, rfl, M, q⟩ := h
    obtain ⟨dx, hm⟩ := M.ob
    refine ⟨_, (pss_one (ps_ret (pe_callB call_len_seq (by rfl) T.len PySem.boot_len (pa_cons (pe_fld (pv 0) rfl) pa_nil)))), ?_⟩
    refine ⟨_, rfl, m, C, dx, _, _, rfl, hm, S.cl, S.nh, flds_held h, h, _, rfl, .inl (SqL.of M.pg.top), ?_⟩
    rw [List.length_map]
    exact q
theorem scHa : FnScope ["self", "page"] ["self", "page"] (defScope sHas) := ⟨rfl, rfl, rfl, by decide +kernel, rfl, by decide +kernel, by decide +kernel⟩
theorem ok_has {f f1 f2 : Addr} {fd fd1 fd2 : FuncData} (F : Fun K "has" "Memory.has" sHas f fd) (B : Dn K mg "is_below" sBelow ["thing", "bound"] f1 fd1) (G : FnOk P w K mg base CX0 2 f1 fd1 ["thing", "bound"] spBelow)
    (Z : Me K C "size" "Memory.size" sSize ["self"] f2 fd2) (GZ : FnOk P w K mg base CX0 1 f2 fd2 ["self"] (spSize C)) (S : Sto K mg C NP NL NW NI) : FnOk P w K mg base CX0 3 f fd ["self", "page"] (spHas C) := by
  refine F.ok scHa (fun vs H Q E h => ?_) (fun cdv A outer s H vs Q E hr h => ?_)
  · obtain ⟨m, h, ps, x, rfl, _⟩ := h
    rfl
  · obtain ⟨m, h, ps, x, rfl, M, th, q⟩ := h
    obtain ⟨dx, hm⟩ := M.ob
    have hr1 : Room 1 _ := hr.mono (by decide)
    refine ⟨_, (pss_one (ps_ret (pe_and (pe_call G hr (by rfl) B.m B.F.kp B.b .nil pass0 (pa_cons (pv 1) (pa_cons (pe_meth0 (pv 0) S.cl Z.m GZ hr1 Z.b .nil pass0) pa_nil))) (pe_one (pe_cmpR op_notN (pe_ix ix_list (pe_fld (pv 0) rfl) (pv 1) (fun _ _ => rfl)) pe_non (nomark _)))))), ?_⟩
    refine ⟨_, rfl, _, rfl, m, dx, _, rfl, hm, flds_no h (by decide +kernel), m, h, ps, rfl, M, x, _, rfl, th, _, rfl, ?_⟩
    cases hb : below x (ps.length : Int) with
    | false =>
      refine iteF ?_
      have e : hasP ps x = false := by
        cases x with
        | int i =>
          simp only [below] at hb
          simp only [hasP, hb, Bool.false_and]
        | _ => rfl
      rw [e] at q
      exact q
    | true =>
      obtain ⟨i, rfl, h0, h1⟩ := below_int hb
      obtain ⟨n, rfl⟩ : ∃ n : Nat, i = (n : Int) := ⟨i.toNat, by omega⟩
      obtain ⟨o, ho, ha⟩ := atI_pg (ps := ps) (i := n) (by omega)
      refine iteT ⟨_, rfl, m, C, dx, _, _, rfl, hm, S.cl, S.nh, flds_held h, _, rfl, h, _, _, _, rfl, rfl, SqL.of M.pg.top, ha, rfl, ?_⟩
      cases o with
      | none =>
        have e : hasP ps (.int (n : Int)) = false := by simp [hasP, ho, isThere]
        rw [e] at q
        exact q
      | some z =>
        rw [hasP_of ho] at q
        exact q
theorem scCp : FnScope ["self", "page"] ["self", "page"] (defScope sCPage) := ⟨rfl, rfl, rfl, by decide +kernel, rfl, by decide +kernel, by decide +kernel⟩
theorem ok_cpage {f f2 : Addr} {fd fd2 : FuncData} (F : Fun K "check_page" "Store.check_page" sCPage f fd)
    (Z : Me K C "has" "Memory.has" sHas ["self", "page"] f2 fd2) (GZ : FnOk P w K mg base CX0 3 f2 fd2 ["self", "page"] (spHas C)) (S : Sto K mg C NP NL NW NI) : FnOk P w K mg base (CXr P w) 4 f fd ["self", "page"] (spCPage C NP) := by
  refine F.okR scCp (fun vs H Q E h => ?_) (fun cdv A outer s H vs Q E hr h => ?_)
  · obtain ⟨m, h, ps, x, rfl, _⟩ := h
    rfl
  · obtain ⟨m, h, ps, x, rfl, M, th, q, e⟩ := h
    obtain ⟨dx, hm⟩ := M.ob
    refine ⟨_, (pss_one (ps_if (pt_not (pt_val (pe_meth (pv 0) S.cl Z.m GZ hr Z.b .nil pass0 (pa_cons (pv 1) pa_nil)))) (pss_one (ps_raise S.xp S.np raisesR rfl (pa_cons pe_str pa_nil))) pss_nil)), ?_⟩
    refine ⟨_, rfl, m, dx, _, rfl, hm, flds_no h (by decide +kernel), _, rfl, m, h, ps, x, rfl, M, th, _, rfl, ?_⟩
    cases hb : hasP ps x with
    | false => exact iteT ⟨by decide, e hb⟩
    | true => exact iteF (q hb)
theorem scSp : FnScope ["self", "page", "cell"] ["self", "page", "cell"] (defScope sSpot) := ⟨rfl, rfl, rfl, by decide +kernel, rfl, by decide +kernel, by decide +kernel⟩
theorem ok_spot {f f1 f2 : Addr} {fd fd1 fd2 : FuncData} (F : Fun K "check_spot" "Store.check_spot" sSpot f fd) (B : Dn K mg "is_below" sBelow ["thing", "bound"] f1 fd1) (G : FnOk P w K mg base CX0 2 f1 fd1 ["thing", "bound"] spBelow)
    (Z : Me K C "check_page" "Store.check_page" sCPage ["self", "page"] f2 fd2) (GZ : FnOk P w K mg base (CXr P w) 4 f2 fd2 ["self", "page"] (spCPage C NP)) (S : Sto K mg C NP NL NW NI) : FnOk P w K mg base (CXr P w) 5 f fd ["self", "page", "cell"] (spSpot C NP NL) := by
  refine F.okR scSp (fun vs H Q E h => ?_) (fun cdv A outer s H vs Q E hr h => ?_)
  · obtain ⟨m, h, ps, x, y, rfl, _⟩ := h
    rfl
  · obtain ⟨m, h, ps, x, y, rfl, M, th, ty, q, e1, e2⟩ := h
    obtain ⟨dx, hm⟩ := M.ob
    obtain ⟨t2, m2⟩ := S.cells
    have hr1 : Room 2 _ := hr.mono (by decide)
    refine ⟨_, (pss_cons (ps_expr (pe_meth (pv 0) S.cl Z.m GZ hr Z.b .nil passR (pa_cons (pv 1) pa_nil))) (pss_one (ps_if (pt_not (pt_val (pe_call G hr1 (by rfl) B.m B.F.kp B.b .nil pass0 (pa_cons (pv 2) (pa_cons (pe_glob (by rfl) m2 (show RelV (.int 8) (.int 8 t2) from ⟨_, rfl⟩)) pa_nil))))) (pss_one (ps_raise S.xl S.nl raisesR rfl (pa_cons pe_str pa_nil))) pss_nil))), ?_⟩
    refine ⟨_, rfl, m, dx, _, rfl, hm, flds_no h (by decide +kernel), _, rfl, m, h, ps, x, rfl, M, th, fun hb => ?_, e1⟩
    refine ⟨_, rfl, y, _, rfl, ty, _, rfl, ?_⟩
    cases hc : below y 8 with
    | false => exact iteT ⟨by decide, e2 hb hc⟩
    | true => exact iteF (q hb hc)
theorem scWa : FnScope ["self", "page", "cell"] ["self", "page", "cell"] (defScope sWordAt) := ⟨rfl, rfl, rfl, by decide +kernel, rfl, by decide +kernel, by decide +kernel⟩
theorem ok_wordat {f : Addr} {fd : FuncData} (F : Fun K "word_at" "Memory.word_at" sWordAt f fd) (S : Sto K mg C NP NL NW NI) : FnOk P w K mg base CX0 1 f fd ["self", "page", "cell"] (spWordAt C) := by
  refine F.ok scWa (fun vs H Q E h => ?_) (fun cdv A outer s H vs Q E hr h => ?_)
  · obtain ⟨m, h, ps, i, j, p, ws, rfl, _⟩ := h
    rfl
  · obtain ⟨m, h, ps, i, j, p, ws, rfl, M, e, hj, q⟩ := h
    obtain ⟨dx, hm⟩ := M.ob
    obtain ⟨o, ho, ha⟩ := atI_pg (ps := ps) (i := i) (List.getElem?_eq_some_iff.mp e).1
    obtain rfl : o = some (p, ws) := Option.some.inj (ho.symm.trans e)
    refine ⟨_, (pss_one (ps_ret (pe_ix ix_list (pe_ix ix_list (pe_fld (pv 0) rfl) (pv 1) (fun _ _ => rfl)) (pv 2) (fun _ _ => rfl)))), ?_⟩
    exact ⟨_, rfl, m, C, dx, _, _, rfl, hm, S.cl, S.nh, flds_held h, _, rfl, h, _, _, _, rfl, rfl, SqL.of M.pg.top, ha, _, rfl, p, _, _, _, rfl, rfl, SqL.of (M.pg.each i p ws e).1, atI_word (by rw [(M.good i p ws e).1]; exact hj), q⟩
theorem scRd : FnScope ["self", "page", "cell"] ["self", "page", "cell"] (defScope sRead) := ⟨rfl, rfl, rfl, by decide +kernel, rfl, by decide +kernel, by decide +kernel⟩
theorem ok_read {f f1 f2 : Addr} {fd fd1 fd2 : FuncData} (F : Fun K "read" "Store.read" sRead f fd) (Z : Me K C "check_spot" "Store.check_spot" sSpot ["self", "page", "cell"] f1 fd1) (GZ : FnOk P w K mg base (CXr P w) 5 f1 fd1 ["self", "page", "cell"] (spSpot C NP NL))
    (Y : Me K C "word_at" "Memory.word_at" sWordAt ["self", "page", "cell"] f2 fd2) (GY : FnOk P w K mg base CX0 1 f2 fd2 ["self", "page", "cell"] (spWordAt C)) (S : Sto K mg C NP NL NW NI) : FnOk P w K mg base (CXr P w) 6 f fd ["self", "page", "cell"] (spRead C NP NL) := by
  refine F.okR scRd (fun vs H Q E h => ?_) (fun cdv A outer s H vs Q E hr h => ?_)
  · obtain ⟨m, h, ps, x, y, rfl, _⟩ := h
    rfl
  · obtain ⟨m, h, ps, x, y, rfl, M, th, ty, q, e1, e2⟩ := h
    obtain ⟨dx, hm⟩ := M.ob
    have hr1 : Room 1 _ := hr.mono (by decide)
    refine ⟨_, (pss_cons (ps_expr (pe_meth (pv 0) S.cl Z.m GZ hr Z.b .nil passR (pa_cons (pv 1) (pa_cons (pv 2) pa_nil)))) (pss_one (ps_ret (pe_meth (pv 0) S.cl Y.m GY hr1 Y.b .nil pass0 (pa_cons (pv 1) (pa_cons (pv 2) pa_nil)))))), ?_⟩
    refine ⟨_, rfl, m, dx, _, rfl, hm, flds_no h (by decide +kernel), _, rfl, _, rfl, m, h, ps, x, y, rfl, M, th, ty, fun hb hc => ?_, e1, e2⟩
    obtain ⟨i, p, ws, rfl, e⟩ := hasP_int hb
    obtain ⟨j, rfl, j0, j1⟩ := below_int hc
    obtain ⟨n, rfl⟩ : ∃ n : Nat, j = (n : Int) := ⟨j.toNat, by omega⟩
    exact ⟨_, rfl, m, dx, _, rfl, hm, flds_no h (by decide +kernel), _, rfl, _, rfl, m, h, ps, i, n, p, ws, rfl, M, e, (by omega), q i n p ws rfl rfl e (by omega)⟩
theorem scTo : FnScope ["self"] ["self"] (defScope sTold) := ⟨rfl, rfl, rfl, by decide +kernel, rfl, by decide +kernel, by decide +kernel⟩
theorem ndTo : (compN "page" ["self"]).Nodup := by decide +kernel
theorem dotTo : (".0" : Str) ∉ (["self"] : List Str) := by decide +kernel
theorem ok_told {f : Addr} {fd : FuncData} (F : Fun K "told" "Memory.told" sTold f fd) (S : Sto K mg C NP NL NW NI) (T : Txt K mg) : FnOk P w K mg base CX0 1 f fd ["self"] (spTold C) := by
  refine F.ok scTo (fun vs H Q E h => ?_) (fun cdv A outer s H vs Q E hr h => ?_)
  · obtain ⟨m, h, ps, rfl, _⟩ := h
    rfl
  · obtain ⟨m, h, ps, rfl, M, q⟩ := h
    obtain ⟨dx, hm⟩ := M.ob
    refine ⟨_, (pss_one (ps_ret (pe_comp (cl := []) (tc := tYes) (te := tCopy K) rfl (pi_list (pe_fld (pv 0) rfl)) (closureFor_none (by decide +kernel)) (show CapOk _ _ _ _ from ⟨.inl ⟨.inr rfl, rfl⟩, .inl ⟨.inl rfl, rfl⟩, .inr (.inl ⟨by decide, by decide, by decide⟩), trivial⟩) trivial (fun C s₂ H₂ fp => .nil) (fun C s₂ H₂ fp => (pe_ifExp (pt_cmpR op_isN (pv 0) pe_non (nomark _)) pe_non (pe_callTy call_list_of (by rfl) T.lst PyProof.Rows.boot_list (pa_cons (pv 0) pa_nil)))) ndTo (hdot := dotTo)))), ?_⟩
    refine ⟨_, rfl, m, C, dx, _, _, rfl, hm, S.cl, S.nh, flds_held h, h, rfl, ⟨_, SqL.of M.pg.top⟩, ?_⟩
    exact copy_pages M.pg (by have := M.len; omega) q
theorem scEi : FnScope ["thing"] ["thing"] (defScope sEight) := ⟨rfl, rfl, rfl, by decide +kernel, rfl, by decide +kernel, by decide +kernel⟩
theorem ndEi : (compN "word" ["thing"]).Nodup := by decide +kernel
theorem dotEi : (".0" : Str) ∉ (["thing"] : List Str) := by decide +kernel
def spEight : Sp := fun vs H Q _ => ∃ (p : Addr) (ws : List Int), vs = [.ref p] ∧ H p = some (.lst (ws.map V.int)) ∧ ws.length = 8 ∧ (∀ w ∈ ws, 0 ≤ w ∧ w < 281474976710656) ∧ ∀ H', Same H H' → Q (.bl true) H'
theorem ok_eight {f f1 : Addr} {fd fd1 : FuncData} (F : Fun K "is_eight_words" "is_eight_words" sEight f fd) (B : Dn K mg "is_word" sWord ["thing"] f1 fd1) (G : FnOk P w K mg base CX0 3 f1 fd1 ["thing"] spWord) (S : Sto K mg C NP NL NW NI) (T : Txt K mg) : FnOk P w K mg base CX0 4 f fd ["thing"] spEight := by
  refine F.ok scEi (fun vs H Q E h => ?_) (fun cdv A outer s H vs Q E hr h => ?_)
  · obtain ⟨p, ws, rfl, _⟩ := h
    rfl
  · obtain ⟨p, ws, rfl, hp, hl, hw, q⟩ := h
    obtain ⟨t2, m2⟩ := S.cells
    refine ⟨_, (pss_one (ps_ret (pe_and (pe_callB call_islist (by rfl) T.isi PyProof.Rows.boot_isinstance (pa_cons (pv 0) (pa_cons (pe_bltn (by rfl) T.lst PyProof.Rows.boot_list (show RelV (.ty "list") (.type "list") from rfl)) pa_nil))) (pe_and (pe_cmpR op_eq (pe_callB call_len_seq (by rfl) T.len PySem.boot_len (pa_cons (pv 0) pa_nil)) (pe_glob (by rfl) m2 (show RelV (.int 8) (.int 8 t2) from ⟨_, rfl⟩)) (nomark _)) (pe_one (pe_callB (call_allB rfl) (by rfl) T.all PyProof.Rows.boot_all (pa_cons (pe_comp (cl := []) (tc := tYes) (te := tCall spWord [] E0 (tCons (tVar 0) tNil)) rfl (pi_list (pv 0)) (closureFor_none (by decide +kernel)) (show CapOk _ _ _ _ from ⟨.inl ⟨.inr rfl, rfl⟩, .inl ⟨.inl rfl, rfl⟩, .inr (.inl ⟨by decide, by decide, by decide⟩), trivial⟩) trivial (fun C s₂ H₂ fp => .nil) (fun C s₂ H₂ fp => (pe_call G hr (by rfl) B.m B.F.kp B.b .nil pass0 (pa_cons (pv 0) pa_nil))) ndEi (hdot := dotEi)) pa_nil))))))), ?_⟩
    refine ⟨_, rfl, _, rfl, .lst hp, _, rfl, iteTS (isLst_of hp) ?_⟩
    refine ⟨_, rfl, p, _, rfl, .inl (SqL.of hp), rfl, _, rfl, iteTS (by show decide (V.int ((ws.map V.int).length : Int) = V.int 8) = true; rw [List.length_map, hl]; rfl) ?_⟩
    refine ⟨_, rfl, p, rfl, ⟨_, SqL.of hp⟩, comp_list (xs := ws.map V.int) (fun D i ys H' => H D = none ∧ Same H H' ∧ ys = (List.replicate i true).map V.bl ∧ H' D = some (.lst ys)) ?_ ?_ ?_ ?_⟩
    · exact fun D hD => ⟨hD, same_new hD, rfl, upd_same⟩
    · rintro D i ys H' _ ⟨hD, ss, rfl, hy⟩
      exact ⟨SqL.of (ss _ _ hp), hy⟩
    · rintro D i x ys H' hi ⟨hD, ss, rfl, hy⟩
      rw [List.getElem?_map] at hi
      cases e : ws[i]? with
      | none => rw [e] at hi; cases hi
      | some z =>
        rw [e] at hi
        have hi' : V.int z = x := Option.some.inj hi
        subst hi'
        obtain ⟨z0, z1⟩ := hw z (List.mem_of_getElem? e)
        have hil : i < 8 := by rw [← hl]; exact (List.getElem?_eq_some_iff.mp e).1
        refine iteT ⟨_, rfl, _, rfl, .int z, ?_⟩
        rw [below_of z0 z1]
        refine ⟨hy, ?_, hD, Same.set ss hD, ?_, upd_same⟩
        · rw [List.length_map, List.length_replicate]
          exact Nat.lt_of_lt_of_le hil (by decide)
        · rw [List.replicate_succ', List.map_append]
          rfl
    · rintro D ys H' ⟨hD, ss, rfl, hy⟩
      refine ⟨D, _, rfl, hy, ?_⟩
      rw [show ((List.replicate (ws.map V.int).length true).all id) = true by simp]
      exact q H' ss
theorem scIm : FnScope ["pages", "page"] ["pages"] (defScope sImage) := ⟨rfl, rfl, rfl, by decide +kernel, rfl, by decide +kernel, by decide +kernel⟩
def spImage : Sp := fun vs H Q _ => ∃ (p : Addr) (ps : Pgs), vs = [.ref p] ∧ Pg H p ps ∧ Good ps ∧ 1 ≤ ps.length ∧ ps.length ≤ 24 ∧ ∀ H', Same H H' → Q .non H'
theorem ok_image {f f1 : Addr} {fd fd1 : FuncData} (F : Fun K "check_image" "check_image" sImage f fd) (B : Dn K mg "is_eight_words" sEight ["thing"] f1 fd1) (G : FnOk P w K mg base CX0 4 f1 fd1 ["thing"] spEight) (S : Sto K mg C NP NL NW NI) (T : Txt K mg) : FnOk P w K mg base (CXr P w) 5 f fd ["pages"] spImage := by
  refine F.okR scIm (fun vs H Q E h => ?_) (fun cdv A outer s H vs Q E hr h => ?_)
  · obtain ⟨p, ps, rfl, _⟩ := h
    rfl
  · obtain ⟨p, ps, rfl, g, hg, l1, l2, q⟩ := h
    obtain ⟨t3, m3⟩ := S.most
    refine ⟨_, (pss_cons (ps_if (PW.pt (pw_or (pt_not (pt_val (pe_callB call_islist (by rfl) T.isi PyProof.Rows.boot_isinstance (pa_cons (pv 0) (pa_cons (pe_bltn (by rfl) T.lst PyProof.Rows.boot_list (show RelV (.ty "list") (.type "list") from rfl)) pa_nil))))) (pw_or1 (pt_not (pt_chain op_le op_le pe_int (pe_callB call_len_seq (by rfl) T.len PySem.boot_len (pa_cons (pv 0) pa_nil)) (pe_glob (by rfl) m3 (show RelV (.int 24) (.int 24 t3) from ⟨_, rfl⟩))))))) (pss_one (ps_raise S.xi S.ni raisesR rfl (pa_cons pe_str pa_nil))) pss_nil) (pss_one (ps_for passesOwnR rfl (pi_list (pv 0)) (pg_name (i := 1) scIm.nd rfl (Or.inl rfl)) (pss_one (ps_if (PW.pt (pw_and (pt_cmpR op_notN (pv 1) pe_non (nomark _)) (pw_and1 (pt_not (pt_val (pe_call G hr (by rfl) B.m B.F.kp B.b .nil pass0 (pa_cons (pv 1) pa_nil))))))) (pss_one (ps_raise S.xi S.ni raisesR rfl (pa_cons pe_str pa_nil))) pss_nil))))), ?_⟩
    refine ⟨_, rfl, _, rfl, .lst g.top, _, rfl, iteFS (by show (!isLst H (.ref p)) = false; rw [isLst_of g.top]; rfl) ?_⟩
    refine ⟨_, rfl, p, _, rfl, .inl (SqL.of g.top), 1, _, rfl, rfl, _, rfl, iteTS (by show decide ((1 : Int) ≤ ((ps.map pgV).length : Int)) = true; rw [List.length_map]; exact decide_eq_true (by omega)) ?_⟩
    refine ⟨_, 24, rfl, rfl, _, rfl, iteFS (by show (!decide ((((ps.map pgV).length : Int)) ≤ 24)) = false; rw [List.length_map, decide_eq_true (by omega)]; rfl) ?_⟩
    refine ⟨_, rfl, p, rfl, ⟨_, SqL.of g.top⟩, for_list (K := K) (a := p) (xs := ps.map pgV) (fun i σ H' => (∃ v, σ = [some (.ref p), v]) ∧ Same H H') ⟨⟨_, rfl⟩, Same.refl _⟩ (fun i σ H' _ ⟨_, ss⟩ => SqL.of (ss _ _ g.top)) ?_ ?_⟩
    · rintro i x σ H' hi ⟨⟨v, rfl⟩, ss⟩
      rw [List.getElem?_map] at hi
      cases e : ps[i]? with
      | none => rw [e] at hi; cases hi
      | some o =>
        rw [e] at hi
        have hi' : pgV o = x := Option.some.inj hi
        subst hi'
        cases o with
        | none =>
          refine ⟨_, rfl, rfl, _, rfl, iteF ?_⟩
          refine iteF ?_
          exact ⟨⟨_, rfl⟩, ss⟩
        | some z =>
          obtain ⟨a, ws⟩ := z
          refine ⟨_, rfl, rfl, _, rfl, iteT ?_⟩
          refine ⟨_, rfl, a, ws, rfl, ss _ _ (g.each i a ws e).1, (hg i a ws e).1, (hg i a ws e).2, fun H2 s2 => ⟨_, rfl, iteF ?_⟩⟩
          exact ⟨⟨_, rfl⟩, ss.trans s2⟩
    · rintro σ H' ⟨_, ss⟩
      exact q H' ss
theorem scIn : FnScope ["self", "pages"] ["self", "pages"] (defScope sInit) := ⟨rfl, rfl, rfl, by decide +kernel, rfl, by decide +kernel, by decide +kernel⟩
theorem ndIn : (compN "page" ["self", "pages"]).Nodup := by decide +kernel
theorem dotIn : (".0" : Str) ∉ (["self", "pages"] : List Str) := by decide +kernel
def spInit (C : Addr) : Sp := fun vs H Q _ => ∃ (m dx p : Addr) (ps : Pgs), vs = [.ref m, .ref p] ∧ H m = some (.ins C dx []) ∧ Pg H p ps ∧ Good ps ∧ 1 ≤ ps.length ∧ ps.length ≤ 24 ∧
  ∀ (h : Addr) (H' : Hp) (qs : Pgs), (∀ b o, b ≠ m → H b = some o → H' b = some o) → Mem C H' m h qs → cont qs = cont ps → (∀ b, At h qs b → H b = none) → Q .non H'
theorem good_cont {ps qs : Pgs} (h : cont qs = cont ps) (g : Good ps) : Good qs := fun i p ws e => by
  obtain ⟨q, f⟩ := cont_some h e
  exact g i q ws f
theorem ok_init {f f1 : Addr} {fd fd1 : FuncData} (F : Fun K "__init__" "Memory.__init__" sInit f fd) (B : Dn K mg "check_image" sImage ["pages"] f1 fd1) (G : FnOk P w K mg base (CXr P w) 5 f1 fd1 ["pages"] spImage) (S : Sto K mg C NP NL NW NI) (T : Txt K mg) : FnOk P w K mg base (CXr P w) 6 f fd ["self", "pages"] (spInit C) := by
  refine F.okR scIn (fun vs H Q E h => ?_) (fun cdv A outer s H vs Q E hr h => ?_)
  · obtain ⟨m, dx, p, ps, rfl, _⟩ := h
    rfl
  · obtain ⟨m, dx, p, ps, rfl, hm, g, hg, l1, l2, q⟩ := h
    refine ⟨_, (pss_cons (ps_expr (pe_call G hr (by rfl) B.m B.F.kp B.b .nil passR (pa_cons (pv 1) pa_nil))) (pss_one (ps_fld (pv 0) (pe_comp (cl := []) (tc := tYes) (te := tCopy K) rfl (pi_list (pv 1)) (closureFor_none (by decide +kernel)) (show CapOk _ _ _ _ from ⟨.inl ⟨.inr rfl, rfl⟩, .inl ⟨.inl rfl, rfl⟩, .inr (.inl ⟨by decide, by decide, by decide⟩), trivial⟩) trivial (fun C s₂ H₂ fp => .nil) (fun C s₂ H₂ fp => (pe_ifExp (pt_cmpR op_isN (pv 0) pe_non (nomark _)) pe_non (pe_callTy call_list_of (by rfl) T.lst PyProof.Rows.boot_list (pa_cons (pv 0) pa_nil)))) ndIn (hdot := dotIn)) rfl))), ?_⟩
    refine ⟨_, rfl, p, ps, rfl, g, hg, l1, l2, fun H1 s1 => ?_⟩
    refine ⟨_, rfl, p, rfl, ⟨_, SqL.of (s1 _ _ g.top)⟩, copy_pages (g.same s1) (by omega) fun D H2 qs s2 g2 hc hf => ?_⟩
    have s12 := s1.trans s2
    have hm2 := s12 _ _ hm
    have nm : ∀ b, At D qs b → b ≠ m := fun b hb z => by
      have := s1.free (hf b hb)
      rw [z, hm] at this
      cases this
    refine ⟨_, rfl, m, C, dx, _, rfl, hm2, S.cl, S.nh, (by show 0 < 1000; decide), ?_⟩
    refine q D _ qs (fun b o hb e => by rw [upd_ne hb]; exact s12 _ _ e) ⟨⟨dx, upd_same⟩, g2.keep fun b hb => upd_ne (nm b hb), good_cont hc hg, ?_⟩ hc fun b hb => s1.free (hf b hb)
    have := cont_len hc
    omega
end
end K14
end
section
namespace K14
open PySem L2
theorem hasP_cont {ps qs : Pgs} (h : cont ps = cont qs) (x : V) : hasP ps x = hasP qs x := by
  cases x with
  | int i =>
    have hl := cont_len h
    have e : isThere ps[i.toNat]? = isThere qs[i.toNat]? := by
      have z := cont_at h i.toNat
      revert z
      cases ps[i.toNat]? with
      | none => cases qs[i.toNat]? with
        | none => intro; rfl
        | some o => intro z; cases z
      | some o => cases qs[i.toNat]? with
        | none => intro z; cases z
        | some o' =>
          intro z
          cases o <;> cases o' <;> first | rfl | cases z
    simp only [hasP, e, hl]
  | _ => rfl
theorem atI_mem {gs : List Int} {i : Int} (h0 : 0 ≤ i) (h1 : i < gs.length) : ∃ g, g ∈ gs ∧ atI (gs.map V.int) i = some (.int g) := by
  obtain ⟨n, rfl⟩ : ∃ n : Nat, i = (n : Int) := ⟨i.toNat, by omega⟩
  have hn : n < gs.length := by omega
  refine ⟨gs[n], List.getElem_mem hn, atI_nat ?_⟩
  rw [List.getElem?_map, List.getElem?_eq_getElem hn]
  rfl
structure Both (C : Addr) (H : Hp) (m h D : Addr) (ps qs : Pgs) : Prop where
  M : Mem C H m h ps
  g : Pg H D qs
  c : cont ps = cont qs
  ap : ∀ b, At h ps b → ¬ At D qs b
theorem passX0 {P : Program} {w : World} {X : Cx} : Passes (CXr P w) X E0 := by
  rintro _ _ _ _ _ _ _ ⟨_, _, _, _, _, _, _, _, _, _, _, _, _, _, _, q⟩
  exact q.elim
theorem there_some {ps : Pgs} {i : Nat} (h : isThere ps[i]? = true) : ∃ p ws, ps[i]? = some (some (p, ws)) := by
  cases e : ps[i]? with
  | none => rw [e] at h; cases h
  | some o =>
    cases o with
    | none => rw [e] at h; cases h
    | some z => exact ⟨z.1, z.2, rfl⟩
theorem cut_ints (ns : List Int) (lo hi : Option Int) : ∃ ms : List Int, cutV (ns.map V.int) lo hi = ms.map V.int ∧ ms.length ≤ ns.length := by
  refine ⟨(ns.drop (HT.sIx (ns.map V.int).length 0 lo)).take (HT.sIx (ns.map V.int).length (ns.map V.int).length hi - HT.sIx (ns.map V.int).length 0 lo), ?_, ?_⟩
  · unfold cutV
    rw [List.map_take, List.map_drop]
  · rw [List.length_take, List.length_drop]
    omega
end K14
end
section
namespace K14
open PySem L2
abbrev sFI : Stmt := inClass (top 15) 0
abbrev Rs := List (Int × Int × Int)
structure Wf (fs : List (Str × V)) (m r aw : Addr) (b : Int) : Prop where
  no : ∀ n : Str, ¬ n = "memory" → ¬ n = "base" → ¬ n = "rack" → ¬ n = "held" → fs.lookup n = none
structure Plc (K : PySem.W.Frag) (C : Addr) : Prop where
  cl : Cls K C
structure Way (C SC : Addr) (H : Hp) (a m h r q aw : Addr) (ps : Pgs) (n : Int) (rs : Rs) (bs : List Bool) (b : Int) : Prop where
  M : Mem C H a h ps
theorem Way.ob {C SC : Addr} {H : Hp} {a m h r q aw : Addr} {ps : Pgs} {n : Int} {rs : Rs} {bs : List Bool} {b : Int} (w : Way C SC H a m h r q aw ps n rs bs b) : ∃ dx fs, H a = some (.ins C dx fs) ∧ Wf fs m r aw b := by
  obtain ⟨dx, e⟩ := w.M.ob
  exact ⟨dx, _, e, ⟨fun n _ _ _ h => flds_no _ h⟩⟩
theorem Way.same {C SC : Addr} {H H' : Hp} {a m h r q aw : Addr} {ps : Pgs} {n : Int} {rs : Rs} {bs : List Bool} {b : Int} (w : Way C SC H a m h r q aw ps n rs bs b) (s : Same H H') : Way C SC H' a m h r q aw ps n rs bs b := ⟨w.M.same s⟩
def spPHas (C SC : Addr) : Sp := fun vs H Q _ => ∃ (a m h r q aw : Addr) (ps : Pgs) (n : Int) (rs : Rs) (bs : List Bool) (b : Int) (x : V), vs = [.ref a, x] ∧ Way C SC H a m h r q aw ps n rs bs b ∧ Th H x ∧ Q (.bl (hasP ps x)) H
def spWRead (C SC NP NL : Addr) : Sp := fun vs H Q E => ∃ (a m h r q aw : Addr) (ps : Pgs) (n : Int) (rs : Rs) (bs : List Bool) (b : Int) (x y : V), vs = [.ref a, x, y] ∧ Way C SC H a m h r q aw ps n rs bs b ∧ Th H x ∧ Th H y ∧
  (∀ (i j : Nat) (p : Addr) (ws : List Int), x = .int i → y = .int j → ps[i]? = some (some (p, ws)) → j < 8 → Q (.int (ws.getD j 0)) H) ∧ (hasP ps x = false → E (.ref NP) none H) ∧ (hasP ps x = true → below y 8 = false → E (.ref NL) none H)
structure Flt (K : PySem.W.Frag) (mg : Str → Option Value) (FA fI : Addr) : Prop where
  x : XCls K FA
  nk : NoAttr K FA "kind"
  np : NoAttr K FA "place"
  nl : NoAttr K FA "level"
  ex : excInI K FA fI = true
  fn : PySem.W.isFn K (.ref fI) = true
  m : mg "Fault" = some (.ref FA)
def ffF : List V → List (Str × V)
  | [x, y, z] => putF "level" z (putF "place" y [("kind", x)])
  | _ => []
theorem ffF_kind (x y z : V) : (ffF [x, y, z]).lookup ("kind" : Str) = some x := by
  unfold ffF
  rw [lookup_putF, if_neg (by decide +kernel), lookup_putF, if_neg (by decide +kernel)]
  rfl
theorem ffF_place (x y z : V) : (ffF [x, y, z]).lookup ("place" : Str) = some y := by
  unfold ffF
  rw [lookup_putF, if_neg (by decide +kernel), lookup_putF, if_pos rfl]
theorem ffF_level (x y z : V) : (ffF [x, y, z]).lookup ("level" : Str) = some z := by
  unfold ffF
  rw [lookup_putF, if_pos rfl]
def ExF (FA : Addr) (E : XK) (H : Hp) (k : Str) (pl lv : Int) : Prop := ∀ d, H d = none → E (.ref FA) (some d) (upd H d (xdo d (ffF [.str k, .int pl, .int lv])))
section
variable {P : Program} {w : World} {K : PySem.W.Frag} {mg : Str → Option Value} {base : Heap} {C NP NL NW NI SC PL WC FA : Addr}
theorem sc_fi : FnScope ["self", "kind", "place", "level"] ["self", "kind", "place", "level"] (defScope sFI) := ⟨rfl, rfl, rfl, by decide +kernel, rfl, by decide +kernel, by decide +kernel⟩
theorem ok_finit {f fI : Addr} {fd : FuncData} (F : Fun K "__init__" "Fault.__init__" sFI f fd) (FL : Flt K mg FA fI) : FnOk P w K mg base CX0 1 f fd ["self", "kind", "place", "level"] (spXI FA 3 ffF) := by
  refine F.ok sc_fi (fun vs H Q E h' => ?_) (fun cdv A outer s H vs Q E hr h' => ?_)
  · obtain ⟨e, t, xs, rfl, hl, _⟩ := h'
    simp [hl]
  · obtain ⟨e, t, xs, rfl, hl, he, q⟩ := h'
    match xs, hl, q with
    | [x, y, z], _, q =>
    refine ⟨_, pss_cons (ps_xf0 (pv 0) (pv 1) rfl) (pss_cons (ps_xf (pv 0) (pv 2) rfl) (pss_one (ps_xf (pv 0) (pv 3) rfl))), ?_⟩
    refine ⟨_, rfl, _, rfl, e, FA, t, rfl, he, FL.x, FL.nk, fun d H' d1 d2 d3 d4 d5 => ?_⟩
    have l1 := length_putF "place" y [(("kind" : Str), x)]
    refine ⟨_, rfl, _, rfl, e, FA, t, d, _, rfl, d3, d4, FL.x, FL.np, (by show 1 < 1000; decide), ?_⟩
    refine ⟨_, rfl, _, rfl, e, FA, t, d, _, rfl, by rw [upd_ne d2.symm]; exact d3, upd_same, FL.x, FL.nl, (by rw [List.length_cons, List.length_nil] at l1; omega), ?_⟩
    refine q d _ d1 d2 (by rw [upd_ne d2.symm, upd_ne d2.symm]; exact d3) (by rw [upd_same]; rfl) fun b b1 b2 => ?_
    rw [upd_ne b2, upd_ne b2]
    exact d5 b b1 b2
theorem ok_phas {f f1 f2 : Addr} {fd fd1 fd2 : FuncData} (F : Fun K "has" "Memory.has" sHas f fd) (B : Dn K mg "is_below" sBelow ["thing", "bound"] f1 fd1) (G : FnOk P w K mg base CX0 2 f1 fd1 ["thing", "bound"] spBelow)
    (Z : Me K C "size" "Memory.size" sSize ["self"] f2 fd2) (GZ : FnOk P w K mg base CX0 1 f2 fd2 ["self"] (spSize C)) (S : Sto K mg C NP NL NW NI) : FnOk P w K mg base CX0 4 f fd ["self", "page"] (spPHas C SC) := by
  exact ((ok_has F B G Z GZ S).mono (by decide : 3 ≤ 4)).imp (by rintro vs H Q E ⟨a, m, h, r, q, aw, ps, n, rs, bs, b, x, rfl, W, th, q0⟩; exact ⟨a, h, ps, x, rfl, W.M, th, q0⟩)
theorem ok_wread {f f1 f2 : Addr} {fd fd1 fd2 : FuncData} (F : Fun K "read" "Store.read" sRead f fd) (Z : Me K C "check_spot" "Store.check_spot" sSpot ["self", "page", "cell"] f1 fd1) (GZ : FnOk P w K mg base (CXr P w) 5 f1 fd1 ["self", "page", "cell"] (spSpot C NP NL))
    (Y : Me K C "word_at" "Memory.word_at" sWordAt ["self", "page", "cell"] f2 fd2) (GY : FnOk P w K mg base CX0 1 f2 fd2 ["self", "page", "cell"] (spWordAt C)) (S : Sto K mg C NP NL NW NI) : FnOk P w K mg base (CXr P w) 7 f fd ["self", "page", "cell"] (spWRead C SC NP NL) := by
  exact ((ok_read F Z GZ Y GY S).mono (by decide : 6 ≤ 7)).imp (by rintro vs H Q E ⟨a, m, h, r, q, aw, ps, n, rs, bs, b, x, y, rfl, W, tx, ty, q0, e1, e2⟩; exact ⟨a, h, ps, x, y, rfl, W.M, tx, ty, q0, e1, e2⟩)
end
end K14
end
section
namespace K14
open PySem L2
abbrev sPgOf : Stmt := top 28
abbrev sRHas : Stmt := top 29
abbrev sRig : Stmt := top 33
abbrev sNum : Stmt := top 22
abbrev sParts : Stmt := top 21
abbrev sCRow : Stmt := top 32
abbrev sLook : Stmt := top 31
theorem or_eq (r m : Nat) : Builtin.bitOr (r : Int) (m : Int) = ((r ||| m : Nat) : Int) := by
  unfold Builtin.bitOr
  rw [PyProof.Rows.bitAnd_nn (by unfold Builtin.bitNot; omega) (by unfold Builtin.bitNot; omega)]
  unfold Builtin.bitNot
  have e1 : (-(-(r : Int) - 1) - 1).toNat = r := by omega
  have e2 : (-(-(m : Int) - 1) - 1).toNat = m := by omega
  first
    | (rw [e1, e2]; omega)
    | (simp only [e1, e2]; omega)
theorem and_eq (r m : Nat) : Builtin.bitAnd (r : Int) (m : Int) = ((r &&& m : Nat) : Int) := by
  rw [PyProof.Rows.bitAnd_pp (by omega) (by omega), Int.toNat_natCast, Int.toNat_natCast]
structure Rws0 (K : PySem.W.Frag) (mg : Str → Option Value) : Prop where
  mm : ∃ t, mg "MARKS" = some (.int 256 t)
  pa : ∃ t, mg "PARTS" = some (.int 8 t)
  pl : ∃ t, mg "PLACES" = some (.int 512 t)
  pr : ∃ t, mg "PRESENT" = some (.int 1 t)
  wr : ∃ t, mg "WRITABLE" = some (.int 2 t)
  ke : ∃ t, mg "KERNEL" = some (.int 4 t)
  so : ∃ t, mg "SOILED" = some (.int 16 t)
def hasN (w m : Nat) : Bool := decide (w &&& m = m)
def rigN (t l : Nat) : Nat := (t &&& l &&& 2) ||| ((t ||| l) &&& 4) ||| (l &&& 16)
def wordN (ps : Pgs) (i j : Nat) : Nat := ((((ps[i]?).getD none).map fun (q : Addr × List Int) => q.2).getD []).getD j 0 |>.toNat
def lackN (ps : Pgs) (w : Nat) (wr k : Bool) : Option Str :=
  if hasN w 1 = false then some "absent" else if hasP ps (.int ((w / 256 : Nat) : Int)) = false then some "beyond" else if (hasN w 4 && !k) = true then some "kernel" else if (wr && !hasN w 2) = true then some "fixed" else none
theorem wordN_of {ps : Pgs} {i j : Nat} {p : Addr} {ws : List Int} (e : ps[i]? = some (some (p, ws))) (h0 : 0 ≤ ws.getD j 0) : ws.getD j 0 = ((wordN ps i j : Nat) : Int) := by
  unfold wordN
  rw [e]
  show ws.getD j 0 = (((ws.getD j 0).toNat : Nat) : Int)
  omega
def spPgOf : Sp := fun vs H Q _ => ∃ w : Nat, vs = [.int w] ∧ Q (.int ((w / 256 : Nat) : Int)) H
def spRHas : Sp := fun vs H Q _ => ∃ w m : Nat, vs = [.int w, .int m] ∧ Q (.bl (hasN w m)) H
def spRig : Sp := fun vs H Q _ => ∃ t l : Nat, vs = [.int t, .int l] ∧ Q (.int ((rigN t l : Nat) : Int)) H
def spNum : Sp := fun vs H Q _ => ∃ p : Nat, vs = [.int p] ∧ p < 512 ∧ Q (.int ((p / 8 : Nat) : Int)) H
def spParts : Sp := fun vs H Q _ => ∃ p : Nat, vs = [.int p] ∧ p < 512 ∧ ∀ t, H t = none → Q (.ref t) (upd H t (.tup [.int ((p / 8 / 8 : Nat) : Int), .int ((p / 8 % 8 : Nat) : Int), .int ((p % 8 : Nat) : Int)]))
def spCRow (C SC FA : Addr) : Sp := fun vs H Q E => ∃ (a m h r q aw : Addr) (ps : Pgs) (n : Int) (rs : Rs) (bs : List Bool) (b : Int) (w : Nat) (wr k : Bool) (pl lv : Int), vs = [.ref a, .int w, .bl wr, .bl k, .int pl, .int lv] ∧ Way C SC H a m h r q aw ps n rs bs b ∧ (lackN ps w wr k = none → Q .non H) ∧ ∀ z, lackN ps w wr k = some z → ExF FA E H z pl lv
section
variable {P : Program} {w : World} {K : PySem.W.Frag} {mg : Str → Option Value} {base : Heap} {C NP NL NW NI SC WC FA : Addr}
theorem sc_pgof : FnScope ["row"] ["row"] (defScope sPgOf) := ⟨rfl, rfl, rfl, by decide +kernel, rfl, by decide +kernel, by decide +kernel⟩
theorem ok_pgof {f : Addr} {fd : FuncData} (F : Fun K "page_of" "page_of" sPgOf f fd) (R : Rws0 K mg) : FnOk P w K mg base CX0 1 f fd ["row"] spPgOf := by
  obtain ⟨t_mm, c_mm⟩ := R.mm
  refine F.ok sc_pgof (fun vs H Q E h' => ?_) (fun cdv A outer s H vs Q E hr h' => ?_)
  · obtain ⟨w, rfl, _⟩ := h'
    rfl
  · obtain ⟨w, rfl, q⟩ := h'
    refine ⟨_, (pss_one (ps_ret (pe_op op_fdiv (pv 0) (pe_glob (by rfl) c_mm (show RelV (.int 256) (.int 256 t_mm) from ⟨_, rfl⟩))))), ?_⟩
    exact ⟨_, rfl, (w : Int), 256, rfl, rfl, ⟨by decide, by decide⟩, q⟩
theorem sc_rhas : FnScope ["row", "marks"] ["row", "marks"] (defScope sRHas) := ⟨rfl, rfl, rfl, by decide +kernel, rfl, by decide +kernel, by decide +kernel⟩
theorem ok_rhas {f : Addr} {fd : FuncData} (F : Fun K "has" "has" sRHas f fd) (R : Rws0 K mg) : FnOk P w K mg base CX0 1 f fd ["row", "marks"] spRHas := by
  refine F.ok sc_rhas (fun vs H Q E h' => ?_) (fun cdv A outer s H vs Q E hr h' => ?_)
  · obtain ⟨w, m, rfl, _⟩ := h'
    rfl
  · obtain ⟨w, m, rfl, q⟩ := h'
    refine ⟨_, (pss_one (ps_ret (pe_cmpR op_eq (pe_op op_and (pv 0) (pv 1)) (pv 1) (nomark _)))), ?_⟩
    refine ⟨_, rfl, _, rfl, (w : Int), (m : Int), rfl, rfl, _, rfl, rfl, ?_⟩
    have e : ∀ i : Decidable (V.int (Builtin.bitAnd (w : Int) (m : Int)) = V.int (m : Int)), @decide _ i = hasN w m := fun i => by
      unfold hasN
      rcases i with h | h
      · exact (decide_eq_false fun z => h (by rw [and_eq, z])).symm
      · refine (decide_eq_true ?_).symm
        have z := V.int.inj h
        rw [and_eq] at z
        omega
    dsimp only
    rw [e]
    exact q
theorem sc_rig : FnScope ["top_row", "low_row"] ["top_row", "low_row"] (defScope sRig) := ⟨rfl, rfl, rfl, by decide +kernel, rfl, by decide +kernel, by decide +kernel⟩
theorem ok_rig {f : Addr} {fd : FuncData} (F : Fun K "rights_of" "rights_of" sRig f fd) (R : Rws0 K mg) : FnOk P w K mg base CX0 1 f fd ["top_row", "low_row"] spRig := by
  obtain ⟨t_wr, c_wr⟩ := R.wr
  obtain ⟨t_ke, c_ke⟩ := R.ke
  obtain ⟨t_so, c_so⟩ := R.so
  refine F.ok sc_rig (fun vs H Q E h' => ?_) (fun cdv A outer s H vs Q E hr h' => ?_)
  · obtain ⟨t, l, rfl, _⟩ := h'
    rfl
  · obtain ⟨t, l, rfl, q⟩ := h'
    refine ⟨_, (pss_one (ps_ret (pe_op op_or (pe_op op_or (pe_op op_and (pe_op op_and (pv 0) (pv 1)) (pe_glob (by rfl) c_wr (show RelV (.int 2) (.int 2 t_wr) from ⟨_, rfl⟩))) (pe_op op_and (pe_op op_or (pv 0) (pv 1)) (pe_glob (by rfl) c_ke (show RelV (.int 4) (.int 4 t_ke) from ⟨_, rfl⟩)))) (pe_op op_and (pv 1) (pe_glob (by rfl) c_so (show RelV (.int 16) (.int 16 t_so) from ⟨_, rfl⟩)))))), ?_⟩
    refine ⟨_, rfl, _, rfl, (t : Int), (l : Int), rfl, rfl, _, 2, rfl, rfl, _, rfl, _, rfl, (t : Int), (l : Int), rfl, rfl, _, 4, rfl, rfl, _, _, rfl, rfl, _, rfl, (l : Int), 16, rfl, rfl, _, _, rfl, rfl, ?_⟩
    dsimp only
    rw [and_eq, or_eq, show (2 : Int) = ((2 : Nat) : Int) from rfl, show (4 : Int) = ((4 : Nat) : Int) from rfl, show (16 : Int) = ((16 : Nat) : Int) from rfl, and_eq, and_eq, and_eq, or_eq, or_eq]
    exact q
theorem sc_num : FnScope ["place"] ["place"] (defScope sNum) := ⟨rfl, rfl, rfl, by decide +kernel, rfl, by decide +kernel, by decide +kernel⟩
theorem ok_num {f f1 : Addr} {fd fd1 : FuncData} (F : Fun K "number_of" "number_of" sNum f fd) (B : Dn K mg "is_below" sBelow ["thing", "bound"] f1 fd1) (GB : FnOk P w K mg base CX0 2 f1 fd1 ["thing", "bound"] spBelow) (R : Rws0 K mg) : FnOk P w K mg base CX0 3 f fd ["place"] spNum := by
  obtain ⟨t_pl, c_pl⟩ := R.pl
  obtain ⟨t_pa, c_pa⟩ := R.pa
  refine F.ok sc_num (fun vs H Q E h' => ?_) (fun cdv A outer s H vs Q E hr h' => ?_)
  · obtain ⟨p, rfl, _⟩ := h'
    rfl
  · obtain ⟨p, rfl, hp, q⟩ := h'
    refine ⟨_, (pss_cons (ps_if (pt_not (pt_val (pe_call GB hr (by rfl) B.m B.F.kp B.b .nil pass0 (pa_cons (pv 0) (pa_cons (pe_glob (by rfl) c_pl (show RelV (.int 512) (.int 512 t_pl) from ⟨_, rfl⟩)) pa_nil))))) (pss_one ps_never) pss_nil) (pss_one (ps_ret (pe_op op_fdiv (pv 0) (pe_glob (by rfl) c_pa (show RelV (.int 8) (.int 8 t_pa) from ⟨_, rfl⟩)))))), ?_⟩
    refine ⟨_, rfl, _, _, rfl, .int _, _, rfl, ?_⟩
    rw [below_of (by omega) (by omega)]
    exact iteF ⟨_, rfl, (p : Int), 8, rfl, rfl, ⟨by decide, by decide⟩, q⟩
theorem sc_parts : FnScope ["place", "number"] ["place"] (defScope sParts) := ⟨rfl, rfl, rfl, by decide +kernel, rfl, by decide +kernel, by decide +kernel⟩
theorem ok_parts {f f1 : Addr} {fd fd1 : FuncData} (F : Fun K "parts_of" "parts_of" sParts f fd) (B : Dn K mg "number_of" sNum ["place"] f1 fd1) (GB : FnOk P w K mg base CX0 3 f1 fd1 ["place"] spNum) (R : Rws0 K mg) : FnOk P w K mg base CX0 4 f fd ["place"] spParts := by
  obtain ⟨t_pa, c_pa⟩ := R.pa
  refine F.ok sc_parts (fun vs H Q E h' => ?_) (fun cdv A outer s H vs Q E hr h' => ?_)
  · obtain ⟨p, rfl, _⟩ := h'
    rfl
  · obtain ⟨p, rfl, hp, q⟩ := h'
    refine ⟨_, (pss_cons (ps_set (i := 1) sc_parts.nd rfl (Or.inl rfl) (pe_call GB hr (by rfl) B.m B.F.kp B.b .nil pass0 (pa_cons (pv 0) pa_nil))) (pss_one (ps_ret (pe_tup (pa_cons (pe_op op_fdiv (pv 1) (pe_glob (by rfl) c_pa (show RelV (.int 8) (.int 8 t_pa) from ⟨_, rfl⟩))) (pa_cons (pe_op op_mod (pv 1) (pe_glob (by rfl) c_pa (show RelV (.int 8) (.int 8 t_pa) from ⟨_, rfl⟩))) (pa_cons (pe_op op_mod (pv 0) (pe_glob (by rfl) c_pa (show RelV (.int 8) (.int 8 t_pa) from ⟨_, rfl⟩))) pa_nil))))))), ?_⟩
    refine ⟨_, rfl, p, rfl, hp, ?_⟩
    refine ⟨_, rfl, ((p / 8 : Nat) : Int), 8, rfl, rfl, ⟨by decide, by decide⟩, _, rfl, ((p / 8 : Nat) : Int), 8, rfl, rfl, (by show (0 : Int) < 8; decide), _, rfl, (p : Int), 8, rfl, rfl, (by show (0 : Int) < 8; decide), by show 3 ≤ sizeLine; decide, fun t ht => ?_⟩
    exact q t ht
end
end K14
end
section
namespace K14
open PySem L2
theorem pa_consK {X : Cx} {e : Expr} {es : List Expr} {te : TE} {t : TA} (h1 : PE X e te) (h2 : PA X es t) (hs : ∀ (l : List Expr) (env : Env), starEach (e :: l) env = (false, eval e env) :: starEach l env := by intro _ _; rfl) : PA X (e :: es) (tCons te t) := pa_cons h1 h2 (hs es X.env)
inductive Lk
  | fault (z : Str) (lv : Nat)
  | trail (p1 pg t l : Nat)
def lookN (ps : Pgs) (rt pl : Nat) (wr k : Bool) : Lk :=
  if 512 ≤ pl then .fault "far" 0 else if hasP ps (.int (rt : Int)) = false then .fault "beyond" 0 else
  match lackN ps (wordN ps rt (pl / 8 / 8)) wr k with
  | some z => .fault z 1
  | none => match lackN ps (wordN ps (wordN ps rt (pl / 8 / 8) / 256) (pl / 8 % 8)) wr k with
    | some z => .fault z 2
    | none => .trail (wordN ps rt (pl / 8 / 8) / 256) (wordN ps (wordN ps rt (pl / 8 / 8) / 256) (pl / 8 % 8) / 256) (wordN ps rt (pl / 8 / 8)) (wordN ps (wordN ps rt (pl / 8 / 8) / 256) (pl / 8 % 8))
def spLook (C SC FA : Addr) : Sp := fun vs H Q E => ∃ (a m h r q aw : Addr) (ps : Pgs) (n : Int) (rs : Rs) (bs : List Bool) (b : Int) (rt pl : Nat) (wr k : Bool), vs = [.ref a, .int rt, .int pl, .bl wr, .bl k] ∧ Way C SC H a m h r q aw ps n rs bs b ∧
  (∀ z lv, lookN ps rt pl wr k = .fault z lv → ∀ H', Same H H' → ExF FA E H' z pl lv) ∧
  ∀ p1 pg t l, lookN ps rt pl wr k = .trail p1 pg t l → ∀ (tt t1 t2 : Addr) (H' : Hp), Same H H' → H' tt = some (.tup [.ref t1, .ref t2, .int (pg : Int), .int ((rigN t l : Nat) : Int)]) → H' t1 = some (.tup [.int (rt : Int), .int ((pl / 8 / 8 : Nat) : Int)]) → H' t2 = some (.tup [.int (p1 : Int), .int ((pl / 8 % 8 : Nat) : Int)]) → Q (.ref tt) H'
theorem lack_has {ps : Pgs} {w : Nat} {wr k : Bool} (h : lackN ps w wr k = none) : hasP ps (.int ((w / 256 : Nat) : Int)) = true := by
  unfold lackN at h
  split at h
  · cases h
  · split at h
    · cases h
    · rename_i z
      cases hb : hasP ps (.int ((w / 256 : Nat) : Int)) with
      | true => rfl
      | false => exact absurd hb z
section
variable {P : Program} {w : World} {K : PySem.W.Frag} {mg : Str → Option Value} {base : Heap} {C NP NL NW NI SC WC FA : Addr}
theorem sc_crow : FnScope ["store", "row", "write", "kernel", "place", "level"] ["store", "row", "write", "kernel", "place", "level"] (defScope sCRow) := ⟨rfl, rfl, rfl, by decide +kernel, rfl, by decide +kernel, by decide +kernel⟩
theorem ok_crow {f f1 f2 f3 fI : Addr} {fd fd1 fd2 fd3 fdI : FuncData} (F : Fun K "check_row" "check_row" sCRow f fd) (Ba : Dn K mg "has" sRHas ["row", "marks"] f1 fd1) (GBa : FnOk P w K mg base CX0 1 f1 fd1 ["row", "marks"] spRHas) (Bp : Dn K mg "page_of" sPgOf ["row"] f2 fd2) (GBp : FnOk P w K mg base CX0 1 f2 fd2 ["row"] spPgOf) (M1 : Me K C "has" "Memory.has" sHas ["self", "page"] f3 fd3) (GM1 : FnOk P w K mg base CX0 4 f3 fd3 ["self", "page"] (spPHas C SC)) (FL : Flt K mg FA fI) (GF : FnOk P w K mg base CX0 1 fI fdI ["self", "kind", "place", "level"] (spXI FA 3 ffF)) (BF : Binds K fdI ["self", "kind", "place", "level"] []) (PC : Plc K C) (R : Rws0 K mg) : FnOk P w K mg base (CXr P w) 5 f fd ["store", "row", "write", "kernel", "place", "level"] (spCRow C SC FA) := by
  obtain ⟨t_pr, c_pr⟩ := R.pr
  obtain ⟨t_ke, c_ke⟩ := R.ke
  obtain ⟨t_wr, c_wr⟩ := R.wr
  refine F.okR sc_crow (fun vs H Q E h' => ?_) (fun cdv A outer s H vs Q E hr h' => ?_)
  · obtain ⟨a, m, h, r, q, aw, ps, n, rs, bs, b, w0, wr, k, pl, lv, rfl, _⟩ := h'
    rfl
  · obtain ⟨a, m, h, r, q, aw, ps, n, rs, bs, b, w0, wr, k, pl, lv, rfl, W, q0, e⟩ := h'
    have hr2 : Room 2 _ := hr.mono (by decide)
    have hr1 : Room 1 _ := hr.mono (by decide)
    refine ⟨_, (pss_cons (ps_if (pt_not (pt_val (pe_call GBa hr1 (by rfl) Ba.m Ba.F.kp Ba.b .nil pass0 (pa_cons (pv 1) (pa_cons (pe_glob (by rfl) c_pr (show RelV (.int 1) (.int 1 t_pr) from ⟨_, rfl⟩)) pa_nil))))) (pss_one (ps_raiseI FL.ex FL.fn FL.m raisesGR rfl GF hr2 BF (by decide) (pa_cons pe_str (pa_cons (pv 4) (pa_cons (pv 5) pa_nil))))) pss_nil) (pss_cons (ps_if (pt_not (pt_val (pe_meth (pv 0) PC.cl M1.m GM1 hr M1.b .nil pass0 (pa_cons (pe_call GBp hr1 (by rfl) Bp.m Bp.F.kp Bp.b .nil pass0 (pa_cons (pv 1) pa_nil)) pa_nil)))) (pss_one (ps_raiseI FL.ex FL.fn FL.m raisesGR rfl GF hr2 BF (by decide) (pa_cons pe_str (pa_cons (pv 4) (pa_cons (pv 5) pa_nil))))) pss_nil) (pss_cons (ps_if (PW.pt (pw_and (pt_val (pe_call GBa hr1 (by rfl) Ba.m Ba.F.kp Ba.b .nil pass0 (pa_cons (pv 1) (pa_cons (pe_glob (by rfl) c_ke (show RelV (.int 4) (.int 4 t_ke) from ⟨_, rfl⟩)) pa_nil)))) (pw_and1 (pt_not (pt_val (pv 3)))))) (pss_one (ps_raiseI FL.ex FL.fn FL.m raisesGR rfl GF hr2 BF (by decide) (pa_cons pe_str (pa_cons (pv 4) (pa_cons (pv 5) pa_nil))))) pss_nil) (pss_one (ps_if (PW.pt (pw_and (pt_val (pv 2)) (pw_and1 (pt_not (pt_val (pe_call GBa hr1 (by rfl) Ba.m Ba.F.kp Ba.b .nil pass0 (pa_cons (pv 1) (pa_cons (pe_glob (by rfl) c_wr (show RelV (.int 2) (.int 2 t_wr) from ⟨_, rfl⟩)) pa_nil)))))))) (pss_one (ps_raiseI FL.ex FL.fn FL.m raisesGR rfl GF hr2 BF (by decide) (pa_cons pe_str (pa_cons (pv 4) (pa_cons (pv 5) pa_nil))))) pss_nil))))), ?_⟩
    obtain ⟨dx, fs, ha, wf⟩ := W.ob
    have L : lackN ps w0 wr k = (if hasN w0 1 = false then some ("absent" : Str) else if hasP ps (.int ((w0 / 256 : Nat) : Int)) = false then some ("beyond" : Str) else if (hasN w0 4 && !k) = true then some ("kernel" : Str) else if (wr && !hasN w0 2) = true then some ("fixed" : Str) else none) := rfl
    refine ⟨_, rfl, w0, 1, rfl, _, rfl, ?_⟩
    cases h1 : hasN w0 1 with
    | false => exact iteT ⟨_, rfl, _, rfl, rfl, fun d hd => e "absent" (by rw [L, h1]; rfl) d hd⟩
    | true =>
      refine iteF ⟨_, rfl, a, dx, fs, rfl, ha, wf.no _ (by decide +kernel) (by decide +kernel) (by decide +kernel) (by decide +kernel), _, rfl, w0, rfl, a, m, h, r, q, aw, ps, n, rs, bs, b, _, rfl, W, .int _, _, rfl, ?_⟩
      cases h2 : hasP ps (.int ((w0 / 256 : Nat) : Int)) with
      | false => exact iteT ⟨_, rfl, _, rfl, rfl, fun d hd => e "beyond" (by rw [L, h1, h2]; rfl) d hd⟩
      | true =>
        refine iteF ⟨_, rfl, w0, 4, rfl, _, rfl, ?_⟩
        cases h4 : hasN w0 4 with
        | true =>
          refine iteT ⟨_, rfl, _, rfl, ?_⟩
          cases k with
          | false => exact iteT ⟨_, rfl, _, rfl, rfl, fun d hd => e "kernel" (by rw [L, h1, h2, h4]; rfl) d hd⟩
          | true =>
            refine iteF ⟨_, rfl, _, rfl, ?_⟩
            cases wr with
            | false => exact iteF (q0 (by rw [L, h1, h2, h4]; rfl))
            | true =>
              refine iteT ⟨_, rfl, w0, 2, rfl, _, rfl, ?_⟩
              cases h5 : hasN w0 2 with
              | false => exact iteT ⟨_, rfl, _, rfl, rfl, fun d hd => e "fixed" (by rw [L, h1, h2, h4, h5]; rfl) d hd⟩
              | true => exact iteF (q0 (by rw [L, h1, h2, h4, h5]; rfl))
        | false =>
          refine iteF ⟨_, rfl, _, rfl, ?_⟩
          cases wr with
          | false => exact iteF (q0 (by rw [L, h1, h2, h4]; rfl))
          | true =>
            refine iteT ⟨_, rfl, w0, 2, rfl, _, rfl, ?_⟩
            cases h5 : hasN w0 2 with
            | false => exact iteT ⟨_, rfl, _, rfl, rfl, fun d hd => e "fixed" (by rw [L, h1, h2, h4, h5]; rfl) d hd⟩
            | true => exact iteF (q0 (by rw [L, h1, h2, h4, h5]; rfl))
theorem sc_look : FnScope ["store", "root", "place", "write", "kernel", "parts", "top", "top_row", "low", "low_row"] ["store", "root", "place", "write", "kernel"] (defScope sLook) := ⟨rfl, rfl, rfl, by decide +kernel, rfl, by decide +kernel, by decide +kernel⟩
theorem ok_look {f f1 f2 f3 f4 f5 f6 fI : Addr} {fd fd1 fd2 fd3 fd4 fd5 fd6 fdI : FuncData} (F : Fun K "look" "look" sLook f fd) (Bq : Dn K mg "parts_of" sParts ["place"] f1 fd1) (GBq : FnOk P w K mg base CX0 4 f1 fd1 ["place"] spParts) (Bp : Dn K mg "page_of" sPgOf ["row"] f2 fd2) (GBp : FnOk P w K mg base CX0 1 f2 fd2 ["row"] spPgOf) (Br : Dn K mg "rights_of" sRig ["top_row", "low_row"] f3 fd3) (GBr : FnOk P w K mg base CX0 1 f3 fd3 ["top_row", "low_row"] spRig) (M1 : Me K C "has" "Memory.has" sHas ["self", "page"] f4 fd4) (GM1 : FnOk P w K mg base CX0 4 f4 fd4 ["self", "page"] (spPHas C SC)) (M2 : Me K C "read" "Store.read" sRead ["self", "page", "cell"] f5 fd5) (GM2 : FnOk P w K mg base (CXr P w) 7 f5 fd5 ["self", "page", "cell"] (spWRead C SC NP NL)) (Bc : Dn K mg "check_row" sCRow ["store", "row", "write", "kernel", "place", "level"] f6 fd6) (GBc : FnOk P w K mg base (CXr P w) 5 f6 fd6 ["store", "row", "write", "kernel", "place", "level"] (spCRow C SC FA)) (FL : Flt K mg FA fI) (GF : FnOk P w K mg base CX0 1 fI fdI ["self", "kind", "place", "level"] (spXI FA 3 ffF)) (BF : Binds K fdI ["self", "kind", "place", "level"] []) (PC : Plc K C) (R : Rws0 K mg) : FnOk P w K mg base (CXr P w) 8 f fd ["store", "root", "place", "write", "kernel"] (spLook C SC FA) := by
  obtain ⟨t_pl, c_pl⟩ := R.pl
  refine F.okR sc_look (fun vs H Q E h' => ?_) (fun cdv A outer s H vs Q E hr h' => ?_)
  · obtain ⟨a, m, h, r, q, aw, ps, n, rs, bs, b, rt, pl, wr, k, rfl, _⟩ := h'
    rfl
  · obtain ⟨a, m, h, r, q, aw, ps, n, rs, bs, b, rt, pl, wr, k, rfl, W, e, q0⟩ := h'
    have hr5 : Room 5 _ := hr.mono (by decide)
    have hr4 : Room 4 _ := hr.mono (by decide)
    have hr2 : Room 2 _ := hr.mono (by decide)
    have hr1 : Room 1 _ := hr.mono (by decide)
    refine ⟨_, (pss_cons (ps_if (pt_cmpR op_ge (pv 2) (pe_glob (by rfl) c_pl (show RelV (.int 512) (.int 512 t_pl) from ⟨_, rfl⟩)) (nomark _)) (pss_one (ps_raiseI FL.ex FL.fn FL.m raisesGR rfl GF hr2 BF (by decide) (pa_cons pe_str (pa_cons (pv 2) (pa_cons pe_int pa_nil))))) pss_nil) (pss_cons (ps_if (pt_not (pt_val (pe_meth (pv 0) PC.cl M1.m GM1 hr4 M1.b .nil pass0 (pa_cons (pv 1) pa_nil)))) (pss_one (ps_raiseI FL.ex FL.fn FL.m raisesGR rfl GF hr2 BF (by decide) (pa_cons pe_str (pa_cons (pv 2) (pa_cons pe_int pa_nil))))) pss_nil) (pss_cons (ps_set (i := 5) sc_look.nd rfl (Or.inl rfl) (pe_call GBq hr4 (by rfl) Bq.m Bq.F.kp Bq.b .nil pass0 (pa_cons (pv 2) pa_nil))) (pss_cons (ps_set (i := 6) sc_look.nd rfl (Or.inl rfl) (pe_tup (pa_cons (pv 1) (pa_cons (pe_ix ix_tup (pv 5) pe_int (fun _ _ => rfl)) pa_nil)))) (pss_cons (ps_set (i := 7) sc_look.nd rfl (Or.inl rfl) (pe_meth (pv 0) PC.cl M2.m GM2 hr M2.b .nil passR (pa_cons (pe_ix ix_tup (pv 6) pe_int (fun _ _ => rfl)) (pa_cons (pe_ix ix_tup (pv 6) pe_int (fun _ _ => rfl)) pa_nil)))) (pss_cons (ps_expr (pe_call GBc hr5 (by rfl) Bc.m Bc.F.kp Bc.b .nil passR (pa_cons (pv 0) (pa_cons (pv 7) (pa_cons (pv 3) (pa_cons (pv 4) (pa_cons (pv 2) (pa_cons pe_int pa_nil)))))))) (pss_cons (ps_set (i := 8) sc_look.nd rfl (Or.inl rfl) (pe_tup (pa_cons (pe_call GBp hr1 (by rfl) Bp.m Bp.F.kp Bp.b .nil pass0 (pa_cons (pv 7) pa_nil)) (pa_cons (pe_ix ix_tup (pv 5) pe_int (fun _ _ => rfl)) pa_nil)))) (pss_cons (ps_set (i := 9) sc_look.nd rfl (Or.inl rfl) (pe_meth (pv 0) PC.cl M2.m GM2 hr M2.b .nil passR (pa_cons (pe_ix ix_tup (pv 8) pe_int (fun _ _ => rfl)) (pa_cons (pe_ix ix_tup (pv 8) pe_int (fun _ _ => rfl)) pa_nil)))) (pss_cons (ps_expr (pe_call GBc hr5 (by rfl) Bc.m Bc.F.kp Bc.b .nil passR (pa_cons (pv 0) (pa_cons (pv 9) (pa_cons (pv 3) (pa_cons (pv 4) (pa_cons (pv 2) (pa_cons pe_int pa_nil)))))))) (pss_one (ps_ret (pe_tup (pa_consK (pv 6) (pa_consK (pv 8) (pa_consK (pe_call GBp hr1 (by rfl) Bp.m Bp.F.kp Bp.b .nil pass0 (pa_cons (pv 9) pa_nil)) (pa_consK (pe_call GBr hr1 (by rfl) Br.m Br.F.kp Br.b .nil pass0 (pa_cons (pv 7) (pa_cons (pv 9) pa_nil))) pa_nil)))))))))))))))), ?_⟩
    obtain ⟨dx, fs, ha, wf⟩ := W.ob
    have L : lookN ps rt pl wr k = (if 512 ≤ pl then .fault "far" 0 else if hasP ps (.int (rt : Int)) = false then .fault "beyond" 0 else match lackN ps (wordN ps rt (pl / 8 / 8)) wr k with | some z => .fault z 1 | none => match lackN ps (wordN ps (wordN ps rt (pl / 8 / 8) / 256) (pl / 8 % 8)) wr k with | some z => .fault z 2 | none => .trail (wordN ps rt (pl / 8 / 8) / 256) (wordN ps (wordN ps rt (pl / 8 / 8) / 256) (pl / 8 % 8) / 256) (wordN ps rt (pl / 8 / 8)) (wordN ps (wordN ps rt (pl / 8 / 8) / 256) (pl / 8 % 8))) := rfl
    refine ⟨_, rfl, (pl : Int), 512, rfl, rfl, _, rfl, ite2 (fun z => ?_) (fun z => ?_)⟩
    · have z' : (pl : Int) ≥ 512 := of_decide_eq_true z
      exact ⟨_, rfl, rfl, fun d hd => e "far" 0 (by rw [L, if_pos (by omega)]) H (Same.refl _) d hd⟩
    have hp : pl < 512 := by
      have : ¬ ((pl : Int) ≥ 512) := fun y => z (decide_eq_true y)
      omega
    refine ⟨_, rfl, a, dx, fs, rfl, ha, wf.no _ (by decide +kernel) (by decide +kernel) (by decide +kernel) (by decide +kernel), _, rfl, a, m, h, r, q, aw, ps, n, rs, bs, b, _, rfl, W, .int _, _, rfl, ?_⟩
    cases hr0 : hasP ps (.int (rt : Int)) with
    | false => exact iteT ⟨_, rfl, rfl, fun d hd => e "beyond" 0 (by rw [L, if_neg (by omega), if_pos hr0]) H (Same.refl _) d hd⟩
    | true =>
    refine iteF ⟨_, rfl, pl, rfl, hp, fun t0 ht0 => ?_⟩
    have L2 := L
    rw [if_neg (by omega), if_neg (by rw [hr0]; decide)] at L2
    have s0 := same_new (o := .tup [.int ((pl / 8 / 8 : Nat) : Int), .int ((pl / 8 % 8 : Nat) : Int), .int ((pl % 8 : Nat) : Int)]) ht0
    have z0 : upd H t0 (.tup [.int ((pl / 8 / 8 : Nat) : Int), .int ((pl / 8 % 8 : Nat) : Int), .int ((pl % 8 : Nat) : Int)]) t0 = some (.tup [.int ((pl / 8 / 8 : Nat) : Int), .int ((pl / 8 % 8 : Nat) : Int), .int ((pl % 8 : Nat) : Int)]) := upd_same
    generalize upd H t0 (.tup [.int ((pl / 8 / 8 : Nat) : Int), .int ((pl / 8 % 8 : Nat) : Int), .int ((pl % 8 : Nat) : Int)]) = H0 at *
    refine ⟨_, rfl, _, rfl, t0, _, _, _, rfl, rfl, SqT.of z0, rfl, by show 2 ≤ sizeLine; decide, fun t1 ht1 => ?_⟩
    have s1 := s0.trans (same_new (o := .tup [.int (rt : Int), .int ((pl / 8 / 8 : Nat) : Int)]) ht1)
    have z1 : upd H0 t1 (.tup [.int (rt : Int), .int ((pl / 8 / 8 : Nat) : Int)]) t1 = some (.tup [.int (rt : Int), .int ((pl / 8 / 8 : Nat) : Int)]) := upd_same
    have z01 : upd H0 t1 (.tup [.int (rt : Int), .int ((pl / 8 / 8 : Nat) : Int)]) t0 = some (.tup [.int ((pl / 8 / 8 : Nat) : Int), .int ((pl / 8 % 8 : Nat) : Int), .int ((pl % 8 : Nat) : Int)]) := same_new ht1 _ _ z0
    generalize upd H0 t1 (.tup [.int (rt : Int), .int ((pl / 8 / 8 : Nat) : Int)]) = H1 at *
    have W1 := W.same s1
    obtain ⟨dx, fs, ha, wf⟩ := W1.ob
    refine ⟨_, rfl, a, dx, fs, rfl, ha, wf.no _ (by decide +kernel) (by decide +kernel) (by decide +kernel) (by decide +kernel), _, rfl, t1, _, _, _, rfl, rfl, SqT.of z1, rfl, _, rfl, t1, _, _, _, rfl, rfl, SqT.of z1, rfl, a, m, h, r, q, aw, ps, n, rs, bs, b, _, _, rfl, W1, .int _, .int _, fun i j p ws e1 e2 e3 hj => ?_, fun y => absurd (hr0.symm.trans y) (by decide), fun _ y => absurd ((below_of (by omega) (by omega)).symm.trans y) (by decide)⟩
    obtain rfl : rt = i := by have := V.int.inj e1; omega
    obtain rfl : pl / 8 / 8 = j := by have := V.int.inj e2; omega
    have wp := W.M.good _ _ _ e3
    have w0n : 0 ≤ ws.getD (pl / 8 / 8) 0 := (wp.2 _ (by rw [List.getD_eq_getElem?_getD, List.getElem?_eq_getElem (by omega)]; exact List.getElem_mem _)).1
    rw [wordN_of e3 w0n]
    generalize hT : wordN ps rt (pl / 8 / 8) = T0 at *
    refine ⟨_, rfl, _, rfl, _, rfl, _, rfl, _, rfl, a, m, h, r, q, aw, ps, n, rs, bs, b, T0, wr, k, pl, 1, rfl, W1, fun hn => ?_, fun zz hz d hd => e zz 1 (by rw [L2, hz]) H1 s1 d hd⟩
    rw [hn] at L2
    refine ⟨_, rfl, T0, rfl, _, rfl, t0, _, _, _, rfl, rfl, SqT.of z01, rfl, by show 2 ≤ sizeLine; decide, fun t2 ht2 => ?_⟩
    have s2' := same_new (o := .tup [.int ((T0 / 256 : Nat) : Int), .int ((pl / 8 % 8 : Nat) : Int)]) ht2
    have s2 := s1.trans s2'
    have z2 : upd H1 t2 (.tup [.int ((T0 / 256 : Nat) : Int), .int ((pl / 8 % 8 : Nat) : Int)]) t2 = some (.tup [.int ((T0 / 256 : Nat) : Int), .int ((pl / 8 % 8 : Nat) : Int)]) := upd_same
    have z12 := s2' _ _ z1
    generalize upd H1 t2 (.tup [.int ((T0 / 256 : Nat) : Int), .int ((pl / 8 % 8 : Nat) : Int)]) = H2 at *
    have W2 := W.same s2
    obtain ⟨dx, fs, ha, wf⟩ := W2.ob
    have hh := lack_has hn
    refine ⟨_, rfl, a, dx, fs, rfl, ha, wf.no _ (by decide +kernel) (by decide +kernel) (by decide +kernel) (by decide +kernel), _, rfl, t2, _, _, _, rfl, rfl, SqT.of z2, rfl, _, rfl, t2, _, _, _, rfl, rfl, SqT.of z2, rfl, a, m, h, r, q, aw, ps, n, rs, bs, b, _, _, rfl, W2, .int _, .int _, fun i j p2 ws2 e1 e2 e4 hj2 => ?_, fun y => absurd (hh.symm.trans y) (by decide), fun _ y => absurd ((below_of (by omega) (by omega)).symm.trans y) (by decide)⟩
    obtain rfl : T0 / 256 = i := by have := V.int.inj e1; omega
    obtain rfl : pl / 8 % 8 = j := by have := V.int.inj e2; omega
    have wp2 := W.M.good _ _ _ e4
    have w2n : 0 ≤ ws2.getD (pl / 8 % 8) 0 := (wp2.2 _ (by rw [List.getD_eq_getElem?_getD, List.getElem?_eq_getElem (by omega)]; exact List.getElem_mem _)).1
    rw [wordN_of e4 w2n]
    generalize hL : wordN ps (T0 / 256) (pl / 8 % 8) = L0 at *
    refine ⟨_, rfl, _, rfl, _, rfl, _, rfl, _, rfl, a, m, h, r, q, aw, ps, n, rs, bs, b, L0, wr, k, pl, 2, rfl, W2, fun hn2 => ?_, fun zz hz d hd => e zz 2 (by rw [L2, hz]) H2 s2 d hd⟩
    rw [hn2] at L2
    refine ⟨_, rfl, _, rfl, _, rfl, L0, rfl, _, rfl, _, rfl, T0, L0, rfl, by show 4 ≤ sizeLine; decide, fun tt htt => ?_⟩
    have s3 := same_new (o := .tup [.ref t1, .ref t2, .int ((L0 / 256 : Nat) : Int), .int ((rigN T0 L0 : Nat) : Int)]) htt
    exact q0 _ _ _ _ L2 tt t1 t2 _ (s2.trans s3) upd_same (s3 _ _ z12) (s3 _ _ z2)
end
end K14
end
section
namespace K14
open PySem L2
abbrev sCell : Stmt := top 41
abbrev sLWhole : Stmt := top 42
abbrev sMixed : Stmt := top 43
abbrev sRowL : Stmt := top 44
abbrev sThere : Stmt := top 47
abbrev sLack : Stmt := top 48
theorem and_pow (w k : Nat) : w &&& 2 ^ k = 2 ^ k * (w / 2 ^ k % 2) := by
  have hw : w.testBit k = decide (w / 2 ^ k % 2 = 1) := Nat.testBit_eq_decide_div_mod_eq
  have h2 : w / 2 ^ k % 2 = 0 ∨ w / 2 ^ k % 2 = 1 := by omega
  apply Nat.eq_of_testBit_eq
  intro i
  rw [Nat.testBit_and, Nat.testBit_two_pow]
  rcases h2 with e | e
  · rw [e, Nat.mul_zero, Nat.zero_testBit]
    by_cases hi : k = i
    · subst hi
      rw [hw, e]
      rfl
    · rw [decide_eq_false hi, Bool.and_false]
  · rw [e, Nat.mul_one, Nat.testBit_two_pow]
    by_cases hi : k = i
    · subst hi
      rw [hw, e]
      rfl
    · rw [decide_eq_false hi, Bool.and_false]
theorem hasN_pow (w i : Nat) : hasN w (2 ^ i) = decide (w / 2 ^ i % 2 = 1) := by
  unfold hasN
  rw [and_pow]
  have : 0 < 2 ^ i := Nat.two_pow_pos i
  rcases Nat.mod_two_eq_zero_or_one (w / 2 ^ i) with h | h <;> rw [h]
  · simp; omega
  · simp
theorem hasN_1 (w : Nat) : hasN w 1 = decide (w % 2 = 1) := by have := hasN_pow w 0; simpa using this
theorem hasN_2 (w : Nat) : hasN w 2 = decide (w / 2 % 2 = 1) := hasN_pow w 1
theorem hasN_4 (w : Nat) : hasN w 4 = decide (w / 4 % 2 = 1) := hasN_pow w 2
theorem rigN_eq (t l : Nat) : rigN t l = 2 * ((t / 2 % 2) * (l / 2 % 2)) + 4 * (if t / 4 % 2 = 1 ∨ l / 4 % 2 = 1 then 1 else 0) + 16 * (l / 16 % 2) := by
  have a1 : t &&& l &&& 2 = 2 * ((t &&& l).testBit 1).toNat := by rw [Nat.toNat_testBit]; exact and_pow _ 1
  have a2 : (t ||| l) &&& 4 = 4 * ((t ||| l).testBit 2).toNat := by rw [Nat.toNat_testBit]; exact and_pow _ 2
  have a3 : l &&& 16 = 16 * (l.testBit 4).toNat := by rw [Nat.toNat_testBit]; exact and_pow _ 4
  have b1 : t / 2 % 2 = (t.testBit 1).toNat := (Nat.toNat_testBit t 1).symm
  have b2 : l / 2 % 2 = (l.testBit 1).toNat := (Nat.toNat_testBit l 1).symm
  have b3 : t / 4 % 2 = (t.testBit 2).toNat := (Nat.toNat_testBit t 2).symm
  have b4 : l / 4 % 2 = (l.testBit 2).toNat := (Nat.toNat_testBit l 2).symm
  have b5 : l / 16 % 2 = (l.testBit 4).toNat := (Nat.toNat_testBit l 4).symm
  unfold rigN
  rw [a1, a2, a3, b1, b2, b3, b4, b5, Nat.testBit_and, Nat.testBit_or]
  cases t.testBit 1 <;> cases l.testBit 1 <;> cases t.testBit 2 <;> cases l.testBit 2 <;> cases l.testBit 4 <;> decide
theorem has_there {qs : Pgs} (i : Nat) : hasP qs (.int (i : Int)) = isThere qs[i]? := by
  simp only [hasP, Int.toNat_natCast]
  by_cases h : i < qs.length
  · have h1 : (0 : Int) ≤ i := by omega
    have h2 : (i : Int) < qs.length := by omega
    simp [h1, h2]
  · rw [List.getElem?_eq_none (by omega)]
    simp [isThere]
theorem lack_eq (qs : Pgs) (w : Nat) (wr k : Bool) : lackN qs w wr k = if w % 2 = 0 then some ("absent" : Str) else if hasP qs (.int ((w / 256 : Nat) : Int)) = false then some ("beyond" : Str) else if w / 4 % 2 = 1 ∧ k = false then some ("kernel" : Str) else if wr = true ∧ w / 2 % 2 = 0 then some ("fixed" : Str) else none := by
  unfold lackN
  rw [hasN_1, hasN_2, hasN_4]
  generalize hasP qs (.int ((w / 256 : Nat) : Int)) = hp
  rcases Nat.mod_two_eq_zero_or_one w with h1 | h1 <;> rcases Nat.mod_two_eq_zero_or_one (w / 2) with h2 | h2 <;> rcases Nat.mod_two_eq_zero_or_one (w / 4) with h4 | h4 <;> cases wr <;> cases k <;> cases hp <;> simp [h1, h2, h4]
theorem lack_ok {qs : Pgs} {w : Nat} {wr k : Bool} {z : Str} (h : lackN qs w wr k = some z) : PyData.strOk z = true := by
  rw [lack_eq] at h
  repeat' split at h
  all_goals first | (cases h; decide +kernel) | cases h
theorem look_far {qs : Pgs} {rt pl : Nat} {wr k : Bool} (h : 511 < pl) : lookN qs rt pl wr k = .fault "far" 0 := by unfold lookN; rw [if_pos (by omega)]
theorem look_ok {qs : Pgs} {rt pl lv : Nat} {wr k : Bool} {z : Str} (h : lookN qs rt pl wr k = .fault z lv) : PyData.strOk z = true := by
  unfold lookN at h
  split at h
  · cases h; decide +kernel
  · split at h
    · cases h; decide +kernel
    · split at h
      · rename_i e; cases h; exact lack_ok e
      · split at h
        · rename_i e; cases h; exact lack_ok e
        · cases h
theorem Good.word {qs : Pgs} (g : Good qs) {i j : Nat} {p : Addr} {ws : List Int} (e : qs[i]? = some (some (p, ws))) (hj : j < 8) : 0 ≤ ws.getD j 0 ∧ ws.getD j 0 < 281474976710656 ∧ ws.length = 8 := by
  obtain ⟨l, b⟩ := g i p ws e
  have := b (ws.getD j 0) (by rw [List.getD_eq_getElem?_getD, List.getElem?_eq_getElem (by omega)]; exact List.getElem_mem _)
  exact ⟨this.1, this.2, l⟩
theorem and3 {c : Prop} [Decidable c] {d : Bool} {F G U : Prop} (mk : (if d = true then F else G) → U) (hf : c → d = true → F) (hg : ¬ (c ∧ d = true) → G) : if c then U else (if false = true then F else G) := by
  by_cases h : c
  · rw [if_pos h]
    refine mk ?_
    by_cases h2 : d = true
    · rw [if_pos h2]; exact hf h h2
    · rw [if_neg h2]; exact hg fun z => h2 z.2
  · rw [if_neg h]
    exact iteF (hg fun z => h z.1)
theorem wordN_cont {ps qs : Pgs} (h : cont ps = cont qs) (i j : Nat) : wordN ps i j = wordN qs i j := by
  have e := cont_at h i
  unfold wordN
  cases h1 : ps[i]? with
  | none =>
    cases h2 : qs[i]? with
    | none => rfl
    | some o => rw [h1, h2] at e; cases e
  | some o1 =>
    cases h2 : qs[i]? with
    | none => rw [h1, h2] at e; cases e
    | some o2 =>
      rw [h1, h2] at e
      have e' : Option.map (fun (q : Addr × List Int) => q.2) o1 = Option.map (fun (q : Addr × List Int) => q.2) o2 := Option.some.inj e
      show (((Option.map (fun (q : Addr × List Int) => q.2) o1).getD []).getD j 0).toNat = (((Option.map (fun (q : Addr × List Int) => q.2) o2).getD []).getD j 0).toNat
      rw [e']
theorem lackN_cont {ps qs : Pgs} (h : cont ps = cont qs) (w : Nat) (wr k : Bool) : lackN ps w wr k = lackN qs w wr k := by
  unfold lackN
  rw [hasP_cont h]
theorem lookN_cont {ps qs : Pgs} (h : cont ps = cont qs) (rt pl : Nat) (wr k : Bool) : lookN ps rt pl wr k = lookN qs rt pl wr k := by
  unfold lookN
  rw [hasP_cont h]
  simp only [wordN_cont h, lackN_cont h]
def spCell (K : PySem.W.Frag) : Sp := fun vs H Q _ => ∃ (a : Addr) (ns : List Int) (k : Nat), vs = [.ref a, .int k] ∧ SqL K H a (ns.map V.int) ∧ Q (.int (ns.getD k 0)) H
def spMixed : Sp := fun vs H Q _ => ∃ c k : Int, vs = [.int c, .int k] ∧ 0 ≤ k ∧ k ≤ 1000000 ∧ ∀ r : Int, 0 ≤ r → Q (.int r) H
def spThere : Sp := fun vs H Q _ => ∃ (D : Addr) (ps : Pgs) (i : Nat), vs = [.ref D, .int i] ∧ Pg H D ps ∧ Q (.bl (isThere ps[i]?)) H
def spRowL : Sp := fun vs H Q _ => ∃ c k n : Int, vs = [.int c, .int k, .int n] ∧ 0 ≤ k ∧ k ≤ 1000000 ∧ 1 ≤ n ∧ n ≤ 24 ∧ ∀ (v : Int) (H' : Hp), 0 ≤ v → v < 281474976710656 → Same H H' → Q (.int v) H'
def spLack : Sp := fun vs H Q _ => ∃ (D : Addr) (qs : Pgs) (w : Nat) (wr k : Bool), vs = [.ref D, .int (w : Int), .bl wr, .bl k] ∧ Pg H D qs ∧ Q (.str ((lackN qs w wr k).getD "")) H
theorem lackD {qs : Pgs} {w : Nat} {wr k : Bool} : (lackN qs w wr k).getD ("" : Str) = ("" : Str) ↔ lackN qs w wr k = none := by
  constructor
  · intro h
    cases hl : lackN qs w wr k with
    | none => rfl
    | some z =>
      rw [hl] at h
      have h : z = ("" : Str) := h
      subst h
      rw [lack_eq] at hl
      exfalso
      repeat' split at hl
      all_goals first | (exact absurd (Option.some.inj hl) (by decide +kernel)) | cases hl
  · intro h
    rw [h]
    rfl
section
variable {P : Program} {w : World} {K : PySem.W.Frag} {mg : Str → Option Value} {base : Heap} {C NP NL NW NI SC PL WC FA : Addr}
theorem scCe : FnScope ["_law_script", "_law_k"] ["_law_script", "_law_k"] (defScope sCell) := ⟨rfl, rfl, rfl, by decide +kernel, rfl, by decide +kernel, by decide +kernel⟩
theorem ok_cell {f : Addr} {fd : FuncData} (F : Fun K "_law_cell_at" "_law_cell_at" sCell f fd) (T : Txt K mg) : FnOk P w K mg base CX0 1 f fd ["_law_script", "_law_k"] (spCell K) := by
  refine F.ok scCe (fun vs H Q E h => ?_) (fun cdv A outer s H vs Q E hr h => ?_)
  · obtain ⟨x, ns, k, rfl, _⟩ := h
    rfl
  · obtain ⟨x, ns, k, rfl, hS, q⟩ := h
    refine ⟨_, (pss_cons (ps_if (pt_cmpR op_lt (pv 1) (pe_callB call_len_seq (by rfl) T.len PySem.boot_len (pa_cons (pv 0) pa_nil)) (nomark _)) (pss_one (ps_ret (pe_ix ix_list (pv 0) (pv 1) (fun _ _ => rfl)))) pss_nil) (pss_one (ps_ret pe_int))), ?_⟩
    refine ⟨_, rfl, _, rfl, x, _, rfl, .inl hS, _, _, rfl, rfl, _, rfl, ite2 (fun z => ?_) (fun z => ?_)⟩
    · have z' := of_decide_eq_true z
      rw [List.length_map] at z'
      exact ⟨_, rfl, _, rfl, x, _, _, _, rfl, rfl, hS, atI_word (by omega), q⟩
    · have z' : ¬ ((k : Int) < ((ns.map V.int).length : Int)) := fun y => z (decide_eq_true y)
      rw [List.length_map] at z'
      rw [List.getD_eq_getElem?_getD, List.getElem?_eq_none (by omega)] at q
      exact q
theorem scLW : FnScope ["_law_found_here"] ["_law_found_here"] (defScope sLWhole) := ⟨rfl, rfl, rfl, by decide +kernel, rfl, by decide +kernel, by decide +kernel⟩
theorem ok_lwhole {f : Addr} {fd : FuncData} (F : Fun K "_law_whole" "_law_whole" sLWhole f fd) (T : Txt K mg) : FnOk P w K mg base CX0 1 f fd ["_law_found_here"] spWhole := by
  refine F.ok scLW (fun vs H Q E h => ?_) (fun cdv A outer s H vs Q E hr h => ?_)
  · obtain ⟨x, rfl, _⟩ := h
    rfl
  · obtain ⟨x, rfl, th, q⟩ := h
    refine ⟨_, (pss_one (ps_ret (pe_and (pe_callB call_isint (by rfl) T.isi PyProof.Rows.boot_isinstance (pa_cons (pv 0) (pa_cons (pe_bltn (by rfl) T.int PyProof.Rows.boot_int (show RelV (.ty "int") (.type "int") from rfl)) pa_nil))) (pe_one (pe_not (pe_callB call_isbool (by rfl) T.isi PyProof.Rows.boot_isinstance (pa_cons (pv 0) (pa_cons (pe_bltn (by rfl) T.boo PyProof.Rows.boot_bool (show RelV (.ty "bool") (.type "bool") from rfl)) pa_nil)))))))), ?_⟩
    refine ⟨x, rfl, x, rfl, th, _, rfl, ?_⟩
    cases th with
    | non => exact iteF q
    | bl b => exact iteT ⟨_, rfl, _, rfl, .bl b, _, rfl, q⟩
    | int i => exact iteT ⟨_, rfl, _, rfl, .int i, _, rfl, q⟩
    | str z => exact iteF q
    | lst e => exact iteF q
    | frz e => exact iteF q
    | tup e => exact iteF q
    | dic e => exact iteF q
theorem scMi : FnScope ["_law_cell", "_law_k", "_law_number"] ["_law_cell", "_law_k"] (defScope sMixed) := ⟨rfl, rfl, rfl, by decide +kernel, rfl, by decide +kernel, by decide +kernel⟩
theorem ok_mixed {f : Addr} {fd : FuncData} (F : Fun K "_law_mixed" "_law_mixed" sMixed f fd) : FnOk P w K mg base CX0 1 f fd ["_law_cell", "_law_k"] spMixed := by
  refine F.ok scMi (fun vs H Q E h => ?_) (fun cdv A outer s H vs Q E hr h => ?_)
  · obtain ⟨c, k, rfl, _⟩ := h
    rfl
  · obtain ⟨c, k, rfl, k0, k1, q⟩ := h
    refine ⟨_, (pss_cons (ps_set (i := 2) scMi.nd rfl (Or.inl rfl) (pe_op op_mod (pe_op op_mul (pe_op op_add (pe_op op_add (pe_op op_add (pe_op op_mod (pv 0) pe_int) (pe_op op_mul (pe_op op_mul pe_int (pv 1)) (pv 1))) (pv 1)) pe_int) pe_int) pe_int)) (pss_one (ps_ret (pe_op op_mod (pe_op op_mul (pv 2) (pv 2)) pe_int)))), ?_⟩
    refine ⟨_, rfl, c, 1000003, rfl, rfl, (by show (0 : Int) < 1000003; decide), _, rfl, 7919, k, rfl, rfl, .inl ⟨by decide, by decide⟩, _, rfl, _, k, rfl, rfl, .inr ⟨by omega, by omega⟩, _, _, rfl, rfl, _, rfl, _, k, rfl, rfl, _, 1, rfl, rfl, _, 48271, rfl, rfl, .inr ⟨by decide, by decide⟩, _, 2147483629, rfl, rfl, (by show (0 : Int) < 2147483629; decide), ?_⟩
    have b : ∀ x : Int, 0 ≤ x % 2147483629 ∧ x % 2147483629 < 2147483629 := fun x => ⟨Int.emod_nonneg _ (by decide), Int.emod_lt_of_pos _ (by decide)⟩
    refine ⟨_, rfl, _, rfl, _, _, rfl, rfl, .inl ⟨by have := b ((c % 1000003 + 7919 * k * k + k + 1) * 48271); omega, by have := b ((c % 1000003 + 7919 * k * k + k + 1) * 48271); omega⟩, _, 2147483587, rfl, rfl, (by show (0 : Int) < 2147483587; decide), q _ (Int.emod_nonneg _ (by decide))⟩
theorem scRw : FnScope ["_law_cell", "_law_k", "_law_size", "_law_one", "_law_other", "_law_page", "_law_marks"] ["_law_cell", "_law_k", "_law_size"] (defScope sRowL) := ⟨rfl, rfl, rfl, by decide +kernel, rfl, by decide +kernel, by decide +kernel⟩
theorem ok_rowl {f f1 : Addr} {fd fd1 : FuncData} (F : Fun K "_law_row" "_law_row" sRowL f fd) (D1 : Dn K mg "_law_mixed" sMixed ["_law_cell", "_law_k"] f1 fd1) (G1 : FnOk P w K mg base CX0 1 f1 fd1 ["_law_cell", "_law_k"] spMixed) (T : Txt K mg) : FnOk P w K mg base CX0 2 f fd ["_law_cell", "_law_k", "_law_size"] spRowL := by
  refine F.ok scRw (fun vs H Q E h => ?_) (fun cdv A1 outer s H vs Q E hr h => ?_)
  · obtain ⟨c, k, n, rfl, _⟩ := h
    rfl
  · obtain ⟨c, k, n, rfl, k0, k1, n0, n1, q⟩ := h
    have e40 : (2 : Int) ^ (40 : Int).toNat = 1099511627776 := by decide
    obtain ⟨t4, R4, hR4⟩ : ∃ tr, PSs (cxOf CX0 P w K mg base ["_law_cell", "_law_k", "_law_size", "_law_one", "_law_other", "_law_page", "_law_marks"] "_law_row" (defScope sRowL) f cdv A1 outer s H E).nox ((defBody sRowL).drop 4) tr ∧ ∀ (on ot pg : Int), 0 ≤ pg → pg < 1099511627776 → tr { nx := fun _ H' => Q .non H', rt := Q } [some (.int c), some (.int k), some (.int n), some (.int on), some (.int ot), some (.int pg), none] H := by
      refine ⟨_, (pss_cons (ps_set (i := 6) scRw.nd rfl (Or.inl rfl) (pe_op op_add (pe_op op_add (pe_callTy call_int1 (by rfl) T.int PyProof.Rows.boot_int (pa_cons (pe_cmpR op_gt (pe_op op_mod (pv 4) pe_int) pe_int (nomark _)) pa_nil)) (pe_op op_mul pe_int (pe_callTy call_int1 (by rfl) T.int PyProof.Rows.boot_int (pa_cons (pe_cmpR op_gt (pe_op op_mod (pe_op op_fdiv (pv 4) pe_int) pe_int) pe_int (nomark _)) pa_nil)))) (pe_op op_mul pe_int (pe_callTy call_int1 (by rfl) T.int PyProof.Rows.boot_int (pa_cons (pe_cmpR op_eq (pe_op op_mod (pe_op op_fdiv (pv 4) pe_int) pe_int) pe_int (nomark _)) pa_nil))))) (pss_one (ps_ret (pe_op op_add (pe_op op_add (pe_op op_mul pe_int (pv 5)) (pv 6)) (pe_op op_mul pe_int (pe_op op_mod (pe_op op_fdiv (pv 4) pe_int) pe_int)))))), fun on ot pg p0 p1 => ?_⟩
      refine ⟨_, rfl, ot, 8, rfl, rfl, (by show (0 : Int) < 8; decide), _, _, rfl, rfl, .inr ⟨_, rfl, _, rfl, ot, 8, rfl, rfl, ⟨by decide, by decide⟩, _, 4, rfl, rfl, (by show (0 : Int) < 4; decide), _, _, rfl, rfl, .inr ⟨_, rfl, 2, _, rfl, rfl, .inl ⟨by decide, by decide⟩, _, _, rfl, rfl, _, rfl, ot, 32, rfl, rfl, ⟨by decide, by decide⟩, _, 4, rfl, rfl, (by show (0 : Int) < 4; decide), rfl, .inr ⟨_, rfl, 4, _, rfl, rfl, .inl ⟨by decide, by decide⟩, _, _, rfl, rfl, ?_⟩⟩⟩⟩
      dsimp only
      have mk0 : ∀ x y z : Bool, 0 ≤ (if x = true then (1 : Int) else 0) + 2 * (if y = true then (1 : Int) else 0) + 4 * (if z = true then (1 : Int) else 0) ∧ (if x = true then (1 : Int) else 0) + 2 * (if y = true then (1 : Int) else 0) + 4 * (if z = true then (1 : Int) else 0) ≤ 7 := by decide
      have mk1 := mk0 (decide (0 < ot % 8)) (decide (0 < ot / 8 % 4)) (decide (V.int (ot / 32 % 4) = V.int 0))
      generalize (if decide (0 < ot % 8) = true then (1 : Int) else 0) + 2 * (if decide (0 < ot / 8 % 4) = true then (1 : Int) else 0) + 4 * (if decide (V.int (ot / 32 % 4) = V.int 0) = true then (1 : Int) else 0) = mks at mk1 ⊢
      refine ⟨_, rfl, 256, pg, rfl, rfl, .inl ⟨by decide, by decide⟩, _, rfl, _, mks, rfl, rfl, _, rfl, ot, 128, rfl, rfl, ⟨by decide, by decide⟩, _, 32, rfl, rfl, (by show (0 : Int) < 32; decide), 8, _, rfl, rfl, .inl ⟨by decide, by decide⟩, _, _, rfl, rfl, q _ _ ?_ ?_ (Same.refl _)⟩
      · show 0 ≤ 256 * pg + mks + 8 * (ot / 128 % 32)
        omega
      · show 256 * pg + mks + 8 * (ot / 128 % 32) < 281474976710656
        omega
    refine ⟨_, pss_cons (ps_set (i := 3) scRw.nd rfl (Or.inl rfl) (pe_call G1 hr (by rfl) D1.m D1.F.kp D1.b .nil pass0 (pa_cons (pv 0) (pa_cons (pv 1) pa_nil)))) (pss_cons (ps_set (i := 4) scRw.nd rfl (Or.inl rfl) (pe_op op_mod (pe_op op_mul (pv 3) pe_int) pe_int)) (pss_cons (ps_set (i := 5) scRw.nd rfl (Or.inl rfl) (pe_op op_mod (pv 3) (pe_op op_add (pv 2) pe_int))) (pss_cons (ps_if (pt_cmpR op_eq (pe_op op_mod (pe_op op_fdiv (pv 3) pe_int) pe_int) pe_int (nomark _)) (pss_one (ps_set (i := 5) scRw.nd rfl (Or.inl rfl) (pe_op op_sub (pe_op op_sub (pe_op op_pow pe_int pe_int) pe_int) (pe_op op_mod (pe_op op_fdiv (pv 3) pe_int) pe_int)))) pss_nil) R4))), ?_⟩
    refine ⟨_, rfl, _, rfl, c, k, rfl, k0, k1, fun on on0 => ?_⟩
    refine ⟨_, rfl, on, 69621, rfl, rfl, .inr ⟨by decide, by decide⟩, _, 2147483587, rfl, rfl, (by show (0 : Int) < 2147483587; decide), ?_⟩
    dsimp only
    generalize on * 69621 % 2147483587 = ot
    refine ⟨_, rfl, _, rfl, n, 1, rfl, rfl, on, _, rfl, rfl, (by show (0 : Int) < n + 1; omega), ?_⟩
    dsimp only
    have pg0 : 0 ≤ on % (n + 1) := Int.emod_nonneg _ (by omega)
    have pg1 : on % (n + 1) < n + 1 := Int.emod_lt_of_pos _ (by omega)
    generalize on % (n + 1) = pg at pg0 pg1 ⊢
    refine ⟨_, rfl, on, 32, rfl, rfl, ⟨by decide, by decide⟩, _, 16, rfl, rfl, (by show (0 : Int) < 16; decide), rfl, _, rfl, ite2 (fun _ => ?_) (fun _ => hR4 on ot pg pg0 (by omega))⟩
    refine ⟨2, 40, rfl, rfl, ⟨by decide, by decide, by decide⟩, _, 1, rfl, rfl, _, rfl, on, 512, rfl, rfl, ⟨by decide, by decide⟩, _, 5, rfl, rfl, (by show (0 : Int) < 5; decide), _, _, rfl, rfl, ?_⟩
    dsimp only
    rw [e40]
    exact hR4 on ot _ (by omega) (by omega)
theorem scTh : FnScope ["_law_pages_here", "_law_page"] ["_law_pages_here", "_law_page"] (defScope sThere) := ⟨rfl, rfl, rfl, by decide +kernel, rfl, by decide +kernel, by decide +kernel⟩
theorem ok_there {f : Addr} {fd : FuncData} (F : Fun K "_law_there" "_law_there" sThere f fd) (T : Txt K mg) : FnOk P w K mg base CX0 1 f fd ["_law_pages_here", "_law_page"] spThere := by
  refine F.ok scTh (fun vs H Q E h => ?_) (fun cdv A outer s H vs Q E hr h => ?_)
  · obtain ⟨D, ps, i, rfl, _⟩ := h
    rfl
  · obtain ⟨D, ps, i, rfl, g, q⟩ := h
    refine ⟨_, (pss_one (ps_ret (pe_and (pe_cmpR op_lt (pv 1) (pe_callB call_len_seq (by rfl) T.len PySem.boot_len (pa_cons (pv 0) pa_nil)) (nomark _)) (pe_one (pe_cmpR op_notN (pe_ix ix_list (pv 0) (pv 1) (fun _ _ => rfl)) pe_non (nomark _)))))), ?_⟩
    refine ⟨_, rfl, _, rfl, D, _, rfl, .inl (SqL.of g.top), _, _, rfl, rfl, _, rfl, ite2 (fun z => ?_) (fun z => ?_)⟩
    · have z' := of_decide_eq_true z
      rw [List.length_map] at z'
      have hi : i < ps.length := by omega
      obtain ⟨o, ho, hat⟩ := atI_pg (ps := ps) (i := i) hi
      rw [ho] at q
      refine ⟨_, rfl, _, rfl, D, _, _, _, rfl, rfl, SqL.of g.top, hat, rfl, ?_⟩
      cases o with
      | none => exact q
      | some y => exact q
    · have z' : ¬ ((i : Int) < ((ps.map pgV).length : Int)) := fun y => z (decide_eq_true y)
      rw [List.length_map] at z'
      rw [List.getElem?_eq_none (by omega)] at q
      exact q
theorem scLk : FnScope ["_law_pages_here", "_law_row_here", "_law_write", "_law_kernel"] ["_law_pages_here", "_law_row_here", "_law_write", "_law_kernel"] (defScope sLack) := ⟨rfl, rfl, rfl, by decide +kernel, rfl, by decide +kernel, by decide +kernel⟩
theorem ok_lack {f f1 : Addr} {fd fd1 : FuncData} (F : Fun K "_law_lack" "_law_lack" sLack f fd) (D1 : Dn K mg "_law_there" sThere ["_law_pages_here", "_law_page"] f1 fd1) (G1 : FnOk P w K mg base CX0 1 f1 fd1 ["_law_pages_here", "_law_page"] spThere) : FnOk P w K mg base CX0 2 f fd ["_law_pages_here", "_law_row_here", "_law_write", "_law_kernel"] spLack := by
  refine F.ok scLk (fun vs H Q E h => ?_) (fun cdv A outer s H vs Q E hr h => ?_)
  · obtain ⟨D, qs, w, wr, k, rfl, _⟩ := h
    rfl
  · obtain ⟨D, qs, w, wr, k, rfl, g, q⟩ := h
    rw [lack_eq] at q
    refine ⟨_, (pss_cons (ps_if (pt_cmpR op_eq (pe_op op_mod (pv 1) pe_int) pe_int (nomark _)) (pss_one (ps_ret pe_str)) pss_nil) (pss_cons (ps_if (pt_not (pt_val (pe_call G1 hr (by rfl) D1.m D1.F.kp D1.b .nil pass0 (pa_cons (pv 0) (pa_cons (pe_op op_fdiv (pv 1) pe_int) pa_nil))))) (pss_one (ps_ret pe_str)) pss_nil) (pss_cons (ps_if (PW.pt (pw_and (pt_cmpR op_eq (pe_op op_mod (pe_op op_fdiv (pv 1) pe_int) pe_int) pe_int (nomark _)) (pw_and1 (pt_not (pt_val (pv 3)))))) (pss_one (ps_ret pe_str)) pss_nil) (pss_cons (ps_if (PW.pt (pw_and (pt_val (pv 2)) (pw_and1 (pt_cmpR op_eq (pe_op op_mod (pe_op op_fdiv (pv 1) pe_int) pe_int) pe_int (nomark _))))) (pss_one (ps_ret pe_str)) pss_nil) (pss_one (ps_ret pe_str)))))), ?_⟩
    refine ⟨_, rfl, _, 2, rfl, rfl, (by show (0 : Int) < 2; decide), rfl, _, rfl, ite2 (fun c1 => ?_) (fun c1 => ?_)⟩
    · have c1 := V.int.inj (of_decide_eq_true c1)
      rw [if_pos (by omega)] at q
      exact q
    have c1 : ¬ w % 2 = 0 := fun z => c1 (decide_eq_true (congrArg V.int (by omega)))
    rw [if_neg c1] at q
    refine ⟨_, rfl, _, rfl, _, 256, rfl, rfl, ⟨by decide, by decide⟩, D, qs, w / 256, rfl, g, _, rfl, ?_⟩
    rw [has_there] at q
    cases hth : isThere qs[w / 256]? with
    | false =>
      rw [hth, if_pos rfl] at q
      exact iteT q
    | true =>
    rw [hth, if_neg (by decide)] at q
    refine iteF ⟨_, rfl, _, 4, rfl, rfl, ⟨by decide, by decide⟩, _, 2, rfl, rfl, (by show (0 : Int) < 2; decide), rfl, _, rfl, and3 (d := !k) (fun z => ⟨_, rfl, _, rfl, z⟩) (fun c4 ck => ?_) (fun c4 => ?_)⟩
    · have c4 := V.int.inj (of_decide_eq_true c4)
      rw [if_pos ⟨by omega, by simpa using ck⟩] at q
      exact q
    have c4 : ¬ (w / 4 % 2 = 1 ∧ k = false) := fun z => c4 ⟨decide_eq_true (congrArg V.int (by omega)), by rw [z.2]; rfl⟩
    rw [if_neg c4] at q
    refine ⟨_, rfl, _, rfl, and3 (d := decide (V.int ((w : Int) / 2 % 2) = V.int 0)) (fun z => ⟨_, rfl, _, 2, rfl, rfl, ⟨by decide, by decide⟩, _, 2, rfl, rfl, (by show (0 : Int) < 2; decide), rfl, _, rfl, z⟩) (fun c2 cw => ?_) (fun c2 => ?_)⟩
    · have cw := V.int.inj (of_decide_eq_true cw)
      rw [if_pos ⟨c2, by omega⟩] at q
      exact q
    have c2 : ¬ (wr = true ∧ w / 2 % 2 = 0) := fun z => c2 ⟨z.1, decide_eq_true (congrArg V.int (by omega))⟩
    rw [if_neg c2] at q
    exact q
end
end K14
end
section
namespace K14
open PySem L2
abbrev sPages : Stmt := top 45
abbrev sCopy : Stmt := top 46
abbrev sDueL : Stmt := top 49
abbrev sFound : Stmt := top 50
abbrev sPair : Stmt := top 51
abbrev sSame : Stmt := top 52
abbrev sLaw : Stmt := top 53
def spCopy : Sp := fun vs H Q _ => ∃ (p : Addr) (ps : Pgs), vs = [.ref p] ∧ Pg H p ps ∧ ps.length ≤ 1000 ∧ ∀ D H' qs, Same H H' → Pg H' D qs → cont qs = cont ps → (∀ b, At D qs b → H b = none) → Q (.ref D) H'
def spPages : Sp := fun vs H Q _ => ∃ (c : Int) (n : Nat), vs = [.int c, .int n] ∧ 1 ≤ n ∧ n ≤ 24 ∧ ∀ (D : Addr) (H' : Hp) (ps : Pgs), Same H H' → Pg H' D ps → Good ps → ps.length = n → isThere ps[(c % n).toNat]? = true → (∀ b, At D ps b → H b = none) → Q (.ref D) H'
def spDueL : Sp := fun vs H Q _ => ∃ (D : Addr) (qs : Pgs) (rt pl : Nat) (wr k : Bool), vs = [.ref D, .int (rt : Int), .int (pl : Int), .bl wr, .bl k] ∧ Pg H D qs ∧ Good qs ∧ (∀ z lv, lookN qs rt pl wr k = .fault z lv → ∀ t H', Same H H' → H' t = some (.lst [.str z, .int (pl : Int), .int (lv : Int)]) → Q (.ref t) H') ∧ ∀ p1 pg t l, lookN qs rt pl wr k = .trail p1 pg t l → ∀ (tt t1 t2 : Addr) (H' : Hp), Same H H' → H' tt = some (.tup [.ref t1, .ref t2, .int (pg : Int), .int ((rigN t l : Nat) : Int)]) → H' t1 = some (.tup [.int (rt : Int), .int ((pl / 8 / 8 : Nat) : Int)]) → H' t2 = some (.tup [.int (p1 : Int), .int ((pl / 8 % 8 : Nat) : Int)]) → Q (.ref tt) H'
def spFound (C : Addr) : Sp := fun vs H Q _ => ∃ (m h : Addr) (qs : Pgs) (rt pl : Nat) (wr k : Bool), vs = [.ref m, .int (rt : Int), .int (pl : Int), .bl wr, .bl k] ∧ Mem C H m h qs ∧ (∀ z lv, lookN qs rt pl wr k = .fault z lv → ∀ t H', Same H H' → H' t = some (.lst [.str z, .int (pl : Int), .int (lv : Int)]) → Q (.ref t) H') ∧ ∀ p1 pg t l, lookN qs rt pl wr k = .trail p1 pg t l → ∀ (tt t1 t2 : Addr) (H' : Hp), Same H H' → H' tt = some (.tup [.ref t1, .ref t2, .int (pg : Int), .int ((rigN t l : Nat) : Int)]) → H' t1 = some (.tup [.int (rt : Int), .int ((pl / 8 / 8 : Nat) : Int)]) → H' t2 = some (.tup [.int (p1 : Int), .int ((pl / 8 % 8 : Nat) : Int)]) → Q (.ref tt) H'
def spPair : Sp := fun vs H Q _ => ∃ (a b : Addr) (i j : Int), vs = [.ref a, .ref b] ∧ H a = some (.tup [.int i, .int j]) ∧ H b = some (.tup [.int i, .int j]) ∧ Q (.bl true) H
def spSame : Sp := fun vs H Q _ => ∃ (a b : Addr), vs = [.ref a, .ref b] ∧ Q (.bl true) H ∧ ((∃ (z : Str) (i j : Int), PyData.strOk z = true ∧ H a = some (.lst [.str z, .int i, .int j]) ∧ H b = some (.lst [.str z, .int i, .int j])) ∨
  ∃ (a1 a2 b1 b2 : Addr) (i j i1 j1 p r : Int), H a = some (.tup [.ref a1, .ref a2, .int p, .int r]) ∧ H b = some (.tup [.ref b1, .ref b2, .int p, .int r]) ∧ H a1 = some (.tup [.int i, .int j]) ∧ H b1 = some (.tup [.int i, .int j]) ∧ H a2 = some (.tup [.int i1, .int j1]) ∧ H b2 = some (.tup [.int i1, .int j1]))
structure Kf (K : PySem.W.Frag) (mg : Str → Option Value) (FA HE NP NL NW NR NI NF : Addr) : Prop where
  m0 : mg "NoPage" = some (.ref NP)
  m1 : mg "NoPlace" = some (.ref NL)
  m2 : mg "NoWord" = some (.ref NW)
  m3 : mg "NoRow" = some (.ref NR)
  m4 : mg "NoImage" = some (.ref NI)
  m5 : mg "NoFrame" = some (.ref NF)
  mh : mg "HouseError" = some (.ref HE)
  mv : mg "ValueError" = none
  i0 : IsC K FA (.ref NP) false
  i1 : IsC K FA (.ref NL) false
  i2 : IsC K FA (.ref NW) false
  i3 : IsC K FA (.ref NR) false
  i4 : IsC K FA (.ref NI) false
  i5 : IsC K FA (.ref NF) false
  ih : IsC K FA (.ref HE) true
  iv : IsC K FA (.ty "ValueError") true
theorem rig_due (t l : Nat) : 2 * (if (l : Int) / 2 % 2 < (t : Int) / 2 % 2 then (l : Int) / 2 % 2 else (t : Int) / 2 % 2) + 4 * (if (l : Int) / 4 % 2 > (t : Int) / 4 % 2 then (l : Int) / 4 % 2 else (t : Int) / 4 % 2) + 16 * ((l : Int) / 16 % 2) = ((rigN t l : Nat) : Int) := by
  rw [rigN_eq]
  have c1 : (t : Int) / 2 % 2 = ((t / 2 % 2 : Nat) : Int) := by omega
  have c2 : (l : Int) / 2 % 2 = ((l / 2 % 2 : Nat) : Int) := by omega
  have c3 : (t : Int) / 4 % 2 = ((t / 4 % 2 : Nat) : Int) := by omega
  have c4 : (l : Int) / 4 % 2 = ((l / 4 % 2 : Nat) : Int) := by omega
  have c5 : (l : Int) / 16 % 2 = ((l / 16 % 2 : Nat) : Int) := by omega
  rw [c1, c2, c3, c4, c5]
  rcases Nat.mod_two_eq_zero_or_one (t / 2) with h1 | h1 <;> rcases Nat.mod_two_eq_zero_or_one (l / 2) with h2 | h2 <;> rcases Nat.mod_two_eq_zero_or_one (t / 4) with h3 | h3 <;> rcases Nat.mod_two_eq_zero_or_one (l / 4) with h4 | h4 <;> rcases Nat.mod_two_eq_zero_or_one (l / 16) with h5 | h5 <;> rw [h1, h2, h3, h4, h5] <;> decide
section
variable {P : Program} {w : World} {K : PySem.W.Frag} {mg : Str → Option Value} {base : Heap} {C NP NL NW NI SC PL WC FA HE NR NF : Addr}
theorem scPa : FnScope ["_law_cell", "_law_size", "_law_pages_here", "_law_k"] ["_law_cell", "_law_size"] (defScope sPages) := ⟨rfl, rfl, rfl, by decide +kernel, rfl, by decide +kernel, by decide +kernel⟩
theorem ndPa : (compN "_law_j" ["_law_cell", "_law_size", "_law_pages_here", "_law_k"]).Nodup := by decide +kernel
theorem dotPa : (".0" : Str) ∉ (["_law_cell", "_law_size", "_law_pages_here", "_law_k"] : List Str) := by decide +kernel
theorem ok_pages {f f1 f2 : Addr} {fd fd1 fd2 : FuncData} (F : Fun K "_law_pages" "_law_pages" sPages f fd) (D1 : Dn K mg "_law_mixed" sMixed ["_law_cell", "_law_k"] f1 fd1) (G1 : FnOk P w K mg base CX0 1 f1 fd1 ["_law_cell", "_law_k"] spMixed)
    (D2 : Dn K mg "_law_row" sRowL ["_law_cell", "_law_k", "_law_size"] f2 fd2) (G2 : FnOk P w K mg base CX0 2 f2 fd2 ["_law_cell", "_law_k", "_law_size"] spRowL) (T : Txt K mg) : FnOk P w K mg base CX0 3 f fd ["_law_cell", "_law_size"] spPages := by
  refine F.ok scPa (fun vs H Q E h => ?_) (fun cdv A outer s H vs Q E hr h => ?_)
  · obtain ⟨c, n, rfl, _⟩ := h
    rfl
  · obtain ⟨c, n, rfl, n1, n2, q⟩ := h
    have hr1 : Room 1 _ := hr.mono (by decide)
    refine ⟨_, (pss_cons (ps_set (i := 2) scPa.nd rfl (Or.inl rfl) (pe_lst pa_nil)) (pss_cons (ps_for PassesOwn.never rfl (pi_range1 (by rfl) T.rng (pa_cons (pv 1) pa_nil)) (pg_name (i := 3) scPa.nd rfl (Or.inr rfl)) (pss_one (ps_if (PW.pt (pw_and (pt_cmpR op_ne (pv 3) (pe_op op_mod (pv 0) (pv 1)) (nomark _)) (pw_and1 (pt_cmpR op_eq (pe_op op_mod (pe_op op_fdiv (pe_call G1 hr1 (by rfl) D1.m D1.F.kp D1.b .nil pass0 (pa_cons (pv 0) (pa_cons (pv 3) pa_nil))) pe_int) pe_int) pe_int (nomark _))))) (pss_one (ps_expr (pe_bm PySem.F.plainAttrs_list PySem.F.slot_list_append PySem.F.type_list_append mt_append (pv 2) (pa_cons pe_non pa_nil)))) (pss_one (ps_expr (pe_bm PySem.F.plainAttrs_list PySem.F.slot_list_append PySem.F.type_list_append mt_append (pv 2) (pa_cons (pe_comp (cl := [("_law_size", s.heap.objs.size + 1 + 1), ("_law_k", s.heap.objs.size + 1 + 1 + 1), ("_law_cell", s.heap.objs.size + 1)]) (tc := tYes) (te := tCall spRowL [] E0 (tCons (tVar 1) (tCons (tOp (rI0 fun i j => .int (i + j)) (tOp (rI0 fun i j => .int (i + j)) (tOp (rI CMul fun i j => .int (i * j)) (tC (.int 8)) (tVar 4)) (tVar 0)) (tC (.int 30))) (tCons (tVar 2) tNil)))) rfl (pi_range1 (by rfl) T.rng (pa_cons pe_int pa_nil)) rfl (by repeat' (first | exact trivial | refine ⟨.inl ⟨.inr rfl, rfl⟩, ?_⟩ | refine ⟨.inl ⟨.inl rfl, rfl⟩, ?_⟩ | refine ⟨.inr (.inl ⟨by decide, by decide, by decide⟩), ?_⟩ | refine ⟨.inr (.inr ⟨rfl, by decide +kernel, by decide +kernel, rfl, rfl⟩), ?_⟩)) (show ClOk _ _ from ⟨rfl, rfl, rfl, trivial⟩) (fun C s₂ H₂ fp => .nil) (fun C s₂ H₂ fp => (pe_call G2 hr (by rfl) D2.m D2.F.kp D2.b .nil pass0 (pa_cons (pv 1) (pa_cons (pe_op op_add (pe_op op_add (pe_op op_mul pe_int (pv 4)) (pv 0)) pe_int) (pa_cons (pv 2) pa_nil))))) ndPa (hdot := dotPa)) pa_nil))))))) (pss_one (ps_ret (pv 2))))), ?_⟩
    refine ⟨by show 0 ≤ sizeLine; decide, fun D hD => ?_⟩
    have s0 := same_new (o := .lst []) hD
    refine ⟨_, rfl, n, rfl, (by omega), (by omega), ?_⟩
    rw [show ((n : Int)).toNat = n from Int.toNat_natCast n]
    refine for_range (lo := 0) (n := n) (fun i σ H' => ∃ (ps : Pgs) (v : Option V), σ = [some (.int c), some (.int n), some (.ref D), v] ∧ Same H H' ∧ Pg H' D ps ∧ Good ps ∧ ps.length = i ∧ (∀ b, At D ps b → H b = none) ∧ ∀ j : Nat, j < i → (j : Int) = c % n → isThere ps[j]? = true)
      ⟨[], none, rfl, s0, ⟨upd_same, fun i p ws e => by simp at e, fun i j p ws ws' e => by simp at e⟩, fun i p ws e => by simp at e, rfl, fun b hb => ?_, fun j hj => absurd hj (Nat.not_lt_zero _)⟩ ?_ ?_
    · rcases hb with rfl | ⟨i, ws, e⟩
      · exact hD
      · simp at e
    · rintro i σ H' hi ⟨ps, v, rfl, ss, g, hg, hl, hf, ht⟩
      rw [Int.zero_add]
      have lsz : (ps.map pgV).length < sizeLine := by
        rw [List.length_map, hl]
        exact Nat.lt_of_lt_of_le (by omega : i < 1001) (by decide)
      have wordsGo : ∀ (H2 : Hp), H2 = H' → ∀ R : Addr → Hp → Prop, (∀ (E2 : Addr) (H3 : Hp) (ws : List Int), H' E2 = none → Same H' H3 → H3 E2 = some (.lst (ws.map V.int)) → ws.length = 8 → (∀ w ∈ ws, 0 ≤ w ∧ w < 281474976710656) → R E2 H3) → True := fun _ _ _ _ => trivial
      have newp : ∀ (o : Option (Addr × List Int)) (H3 : Hp), Same H' H3 → (∀ (p : Addr) (ws : List Int), o = some (p, ws) → H3 p = some (.lst (ws.map V.int)) ∧ H' p = none ∧ ws.length = 8 ∧ ∀ w ∈ ws, 0 ≤ w ∧ w < 281474976710656) → ((i : Int) = c % n → isThere (some o) = true) →
          ∃ (ps' : Pgs) (v : Option V), ([some (.int c), some (.int n), some (.ref D), some (.int (i : Int))] : St) = [some (.int c), some (.int n), some (.ref D), v] ∧ Same H (upd H3 D (.lst (ps.map pgV ++ [pgV o]))) ∧ Pg (upd H3 D (.lst (ps.map pgV ++ [pgV o]))) D ps' ∧ Good ps' ∧ ps'.length = i + 1 ∧ (∀ b, At D ps' b → H b = none) ∧ ∀ j : Nat, j < i + 1 → (j : Int) = c % n → isThere ps'[j]? = true := fun o H3 s3 hn hth => by
        refine ⟨ps ++ [o], _, rfl, Same.set (ss.trans s3) hD, g.app s3 fun p ws e => ⟨(hn p ws e).1, (hn p ws e).2.1⟩, hg.app fun p ws e => (hn p ws e).2.2, by rw [List.length_append, hl]; rfl, fun b hb => ?_, fun j hj hjc => ?_⟩
        · rcases hb.app with z | ⟨ws, z⟩
          · exact hf b z
          · exact ss.free (hn b ws z).2.1
        · by_cases e : j = i
          · subst e
            rw [List.getElem?_append_right (by omega), hl, Nat.sub_self]
            exact hth hjc
          · rw [List.getElem?_append_left (by omega)]
            exact ht j (by omega) hjc
      have hnz : (n : Int) ≠ 0 := by omega
      refine ⟨_, rfl, _, rfl, _, rfl, c, n, rfl, rfl, (by show (0 : Int) < (n : Int); omega), rfl, _, rfl, ite2 (fun z => ?_) (fun z => ?_)⟩
      · have ne : ¬ ((i : Int) = c % n) := fun y => by
          have z' : (!decide (V.int (i : Int) = V.int (c % n))) = true := z
          rw [y, decide_eq_true rfl] at z'
          cases z'
        refine ⟨_, rfl, _, rfl, c, i, rfl, (by omega), (by omega), fun r r0 => ?_⟩
        refine ⟨r, 4, rfl, rfl, ⟨by decide, by decide⟩, _, 8, rfl, rfl, (by show (0 : Int) < 8; decide), rfl, _, rfl, ite2 (fun z2 => ?_) (fun z2 => ?_)⟩
        · refine ⟨_, rfl, .inl ⟨rfl, _, SqL.of g.top⟩, D, _, _, rfl, rfl, g.top, lsz, ?_⟩
          exact newp none H' (Same.refl _) (fun p ws e => by cases e) fun y => (ne y).elim
        · refine ⟨_, rfl, .inl ⟨rfl, _, SqL.of g.top⟩, 8, rfl, by decide, by decide, comp_words (lo := 0) (n := 8) (by decide) (fun j H2 R hj s2 k => ?_) fun E2 H3 ws hE s3 h3 hw hb => ?_⟩
          · exact ⟨_, rfl, _, rfl, 8, i, rfl, rfl, .inl ⟨by decide, by decide⟩, _, rfl, _, _, rfl, rfl, _, 30, rfl, rfl, _, rfl, c, _, (n : Int), rfl, (by omega), (by omega), (by omega), (by omega), k⟩
          · refine ⟨D, _, _, rfl, rfl, s3 _ _ g.top, lsz, ?_⟩
            exact newp (some (E2, ws)) H3 s3 (fun p vs e => by cases e; exact ⟨h3, hE, hw, hb⟩) fun _ => rfl
      · refine ⟨_, rfl, .inl ⟨rfl, _, SqL.of g.top⟩, 8, rfl, by decide, by decide, comp_words (lo := 0) (n := 8) (by decide) (fun j H2 R hj s2 k => ?_) fun E2 H3 ws hE s3 h3 hw hb => ?_⟩
        · exact ⟨_, rfl, _, rfl, 8, i, rfl, rfl, .inl ⟨by decide, by decide⟩, _, rfl, _, _, rfl, rfl, _, 30, rfl, rfl, _, rfl, c, _, (n : Int), rfl, (by omega), (by omega), (by omega), (by omega), k⟩
        · refine ⟨D, _, _, rfl, rfl, s3 _ _ g.top, lsz, ?_⟩
          exact newp (some (E2, ws)) H3 s3 (fun p vs e => by cases e; exact ⟨h3, hE, hw, hb⟩) fun _ => rfl
    · rintro σ H' ⟨ps, v, rfl, ss, g, hg, hl, hf, ht⟩
      have m0 : 0 ≤ c % n := Int.emod_nonneg _ (by omega)
      have m1 : c % n < n := Int.emod_lt_of_pos _ (by omega)
      exact ⟨_, rfl, q D H' ps ss g hg hl (ht _ (by omega) (by omega)) hf⟩
theorem scCo : FnScope ["_law_pages_here"] ["_law_pages_here"] (defScope sCopy) := ⟨rfl, rfl, rfl, by decide +kernel, rfl, by decide +kernel, by decide +kernel⟩
theorem ndCo : (compN "_law_words" ["_law_pages_here"]).Nodup := by decide +kernel
theorem dotCo : (".0" : Str) ∉ (["_law_pages_here"] : List Str) := by decide +kernel
theorem ok_copy {f : Addr} {fd : FuncData} (F : Fun K "_law_copy" "_law_copy" sCopy f fd) (T : Txt K mg) : FnOk P w K mg base CX0 1 f fd ["_law_pages_here"] spCopy := by
  refine F.ok scCo (fun vs H Q E h => ?_) (fun cdv A outer s H vs Q E hr h => ?_)
  · obtain ⟨p, ps, rfl, _⟩ := h
    rfl
  · obtain ⟨p, ps, rfl, g, hl, q⟩ := h
    refine ⟨_, (pss_one (ps_ret (pe_comp (cl := []) (tc := tYes) (te := tCopy K) rfl (pi_list (pv 0)) (closureFor_none (by decide +kernel)) (by repeat' (first | exact trivial | refine ⟨.inl ⟨.inr rfl, rfl⟩, ?_⟩ | refine ⟨.inl ⟨.inl rfl, rfl⟩, ?_⟩ | refine ⟨.inr (.inl ⟨by decide, by decide, by decide⟩), ?_⟩ | refine ⟨.inr (.inr ⟨rfl, by decide +kernel, by decide +kernel, rfl, rfl⟩), ?_⟩)) trivial (fun C s₂ H₂ fp => .nil) (fun C s₂ H₂ fp => (pe_ifExp (pt_cmpR op_isN (pv 0) pe_non (nomark _)) pe_non (pe_callTy call_list_of (by rfl) T.lst PyProof.Rows.boot_list (pa_cons (pv 0) pa_nil)))) ndCo (hdot := dotCo)))), ?_⟩
    exact ⟨_, rfl, p, rfl, ⟨_, SqL.of g.top⟩, copy_pages g hl q⟩
theorem scDu : FnScope ["_law_pages_here", "_law_root", "_law_place", "_law_write", "_law_kernel", "_law_high", "_law_lack_here", "_law_low", "_law_rights"] ["_law_pages_here", "_law_root", "_law_place", "_law_write", "_law_kernel"] (defScope sDueL) := ⟨rfl, rfl, rfl, by decide +kernel, rfl, by decide +kernel, by decide +kernel⟩
theorem ok_duel {f f1 f2 : Addr} {fd fd1 fd2 : FuncData} (F : Fun K "_law_due" "_law_due" sDueL f fd) (D1 : Dn K mg "_law_there" sThere ["_law_pages_here", "_law_page"] f1 fd1) (G1 : FnOk P w K mg base CX0 1 f1 fd1 ["_law_pages_here", "_law_page"] spThere) (D2 : Dn K mg "_law_lack" sLack ["_law_pages_here", "_law_row_here", "_law_write", "_law_kernel"] f2 fd2) (G2 : FnOk P w K mg base CX0 2 f2 fd2 ["_law_pages_here", "_law_row_here", "_law_write", "_law_kernel"] spLack) (T : Txt K mg) (ZM : mg "min" = none ∧ mg "max" = none) : FnOk P w K mg base CX0 3 f fd ["_law_pages_here", "_law_root", "_law_place", "_law_write", "_law_kernel"] spDueL := by
  refine F.ok scDu (fun vs H Q E h => ?_) (fun cdv A outer s H vs Q E hr h => ?_)
  · obtain ⟨D, qs, rt, pl, wr, k, rfl, _⟩ := h
    rfl
  · obtain ⟨D, qs, rt, pl, wr, k, rfl, g, gd, kf, kt⟩ := h
    have hr1 : Room 1 _ := hr.mono (by decide)
    refine ⟨_, (pss_cons (ps_if (pt_cmpR op_gt (pv 2) pe_int (nomark _)) (pss_one (ps_ret (pe_lst (pa_cons pe_str (pa_cons (pv 2) (pa_cons pe_int pa_nil)))))) pss_nil) (pss_cons (ps_if (pt_not (pt_val (pe_call G1 hr1 (by rfl) D1.m D1.F.kp D1.b .nil pass0 (pa_cons (pv 0) (pa_cons (pv 1) pa_nil))))) (pss_one (ps_ret (pe_lst (pa_cons pe_str (pa_cons (pv 2) (pa_cons pe_int pa_nil)))))) pss_nil) (pss_cons (ps_set (i := 5) scDu.nd rfl (Or.inl rfl) (pe_ix ix_list (pe_ix ix_list (pv 0) (pv 1) (fun _ _ => rfl)) (pe_op op_fdiv (pv 2) pe_int) (fun _ _ => rfl))) (pss_cons (ps_set (i := 6) scDu.nd rfl (Or.inl rfl) (pe_call G2 hr (by rfl) D2.m D2.F.kp D2.b .nil pass0 (pa_cons (pv 0) (pa_cons (pv 5) (pa_cons (pv 3) (pa_cons (pv 4) pa_nil)))))) (pss_cons (ps_if (pt_cmpR op_ne (pv 6) pe_str (nomark _)) (pss_one (ps_ret (pe_lst (pa_cons (pv 6) (pa_cons (pv 2) (pa_cons pe_int pa_nil)))))) pss_nil) (pss_cons (ps_set (i := 7) scDu.nd rfl (Or.inl rfl) (pe_ix ix_list (pe_ix ix_list (pv 0) (pe_op op_fdiv (pv 5) pe_int) (fun _ _ => rfl)) (pe_op op_mod (pe_op op_fdiv (pv 2) pe_int) pe_int) (fun _ _ => rfl))) (pss_cons (ps_set (i := 6) scDu.nd rfl (Or.inl rfl) (pe_call G2 hr (by rfl) D2.m D2.F.kp D2.b .nil pass0 (pa_cons (pv 0) (pa_cons (pv 7) (pa_cons (pv 3) (pa_cons (pv 4) pa_nil)))))) (pss_cons (ps_if (pt_cmpR op_ne (pv 6) pe_str (nomark _)) (pss_one (ps_ret (pe_lst (pa_cons (pv 6) (pa_cons (pv 2) (pa_cons pe_int pa_nil)))))) pss_nil) (pss_cons (ps_set (i := 8) scDu.nd rfl (Or.inl rfl) (pe_op op_add (pe_op op_add (pe_op op_mul pe_int (pe_callB (call_min2 rfl) (by rfl) ZM.1 PyProof.Rows.boot_min (pa_cons (pe_op op_mod (pe_op op_fdiv (pv 5) pe_int) pe_int) (pa_cons (pe_op op_mod (pe_op op_fdiv (pv 7) pe_int) pe_int) pa_nil)))) (pe_op op_mul pe_int (pe_callB (call_max2 rfl) (by rfl) ZM.2 PyProof.Rows.boot_max (pa_cons (pe_op op_mod (pe_op op_fdiv (pv 5) pe_int) pe_int) (pa_cons (pe_op op_mod (pe_op op_fdiv (pv 7) pe_int) pe_int) pa_nil))))) (pe_op op_mul pe_int (pe_op op_mod (pe_op op_fdiv (pv 7) pe_int) pe_int)))) (pss_one (ps_ret (pe_tup (pa_consK (pe_tup (pa_cons (pv 1) (pa_cons (pe_op op_fdiv (pv 2) pe_int) pa_nil))) (pa_consK (pe_tup (pa_cons (pe_op op_fdiv (pv 5) pe_int) (pa_cons (pe_op op_mod (pe_op op_fdiv (pv 2) pe_int) pe_int) pa_nil))) (pa_consK (pe_op op_fdiv (pv 7) pe_int) (pa_consK (pv 8) pa_nil)))))))))))))))), ?_⟩
    have L : lookN qs rt pl wr k = (if 512 ≤ pl then .fault "far" 0 else if hasP qs (.int (rt : Int)) = false then .fault "beyond" 0 else match lackN qs (wordN qs rt (pl / 8 / 8)) wr k with | some z => .fault z 1 | none => match lackN qs (wordN qs (wordN qs rt (pl / 8 / 8) / 256) (pl / 8 % 8)) wr k with | some z => .fault z 2 | none => .trail (wordN qs rt (pl / 8 / 8) / 256) (wordN qs (wordN qs rt (pl / 8 / 8) / 256) (pl / 8 % 8) / 256) (wordN qs rt (pl / 8 / 8)) (wordN qs (wordN qs rt (pl / 8 / 8) / 256) (pl / 8 % 8))) := rfl
    refine ⟨_, rfl, _, 511, rfl, rfl, _, rfl, ite2 (fun c => ?_) (fun c => ?_)⟩
    · have c : 511 < pl := by have := of_decide_eq_true c; omega
      exact ⟨_, rfl, by show 3 ≤ sizeLine; decide, fun t ht => kf _ 0 (look_far c) t _ (same_new ht) upd_same⟩
    have c : ¬ 511 < pl := fun z => c (decide_eq_true (by omega))
    rw [if_neg (by omega)] at L
    refine ⟨_, rfl, _, rfl, D, qs, rt, rfl, g, _, rfl, ?_⟩
    rw [has_there] at L
    cases hrt : isThere qs[rt]? with
    | false =>
      rw [hrt, if_pos rfl] at L
      exact iteT ⟨_, rfl, by show 3 ≤ sizeLine; decide, fun t ht => kf _ 0 L t _ (same_new ht) upd_same⟩
    | true =>
    rw [hrt, if_neg (by decide)] at L
    obtain ⟨p, ws, e1⟩ := there_some hrt
    obtain ⟨w0, _, w8⟩ := Good.word gd e1 (show pl / 8 / 8 < 8 by omega)
    have hw := wordN_of e1 w0
    refine iteF ⟨_, rfl, _, rfl, D, _, _, .ref p, rfl, rfl, SqL.of g.top, atI_nat (by rw [List.getElem?_map, e1]; rfl), _, rfl, _, 64, rfl, rfl, ⟨by decide, by decide⟩, p, _, _, .int (ws.getD (pl / 8 / 8) 0), rfl, rfl, SqL.of (g.each _ _ _ e1).1, (by show atI (ws.map V.int) ((pl : Int) / 64) = _; rw [show (pl : Int) / 64 = ((pl / 8 / 8 : Nat) : Int) by omega]; exact atI_word (by omega)), ?_⟩
    rw [hw]
    generalize hT : wordN qs rt (pl / 8 / 8) = T0 at *
    refine ⟨_, rfl, _, rfl, _, rfl, _, rfl, D, qs, T0, wr, k, rfl, g, ?_⟩
    cases hl0 : lackN qs T0 wr k with
    | some z =>
      rw [hl0] at L
      have zn : z ≠ ("" : Str) := fun y => absurd (lackD.mp (show (lackN qs T0 wr k).getD "" = ("" : Str) by rw [hl0, y]; rfl)) (by rw [hl0]; nofun)
      exact ⟨_, rfl, rfl, _, rfl, iteTS (by show (!decide (V.str z = V.str "")) = true; rw [decide_eq_false (fun y => zn (V.str.inj y))]; rfl) ⟨_, rfl, _, rfl, by show 3 ≤ sizeLine; decide, fun t ht => kf _ 1 L t _ (same_new ht) upd_same⟩⟩
    | none =>
    rw [hl0] at L
    refine ⟨_, rfl, rfl, _, rfl, iteFS (by show (!decide (V.str "" = V.str "")) = false; rw [decide_eq_true rfl]; rfl) ?_⟩
    have hp1 := lack_has hl0
    obtain ⟨n1, p1, ws1, en1, e2⟩ := hasP_int hp1
    obtain rfl : n1 = T0 / 256 := by have := V.int.inj en1; omega
    obtain ⟨v0, _, v8⟩ := Good.word gd e2 (show pl / 8 % 8 < 8 by omega)
    have hw1 := wordN_of e2 v0
    refine ⟨_, rfl, _, rfl, _, 256, rfl, rfl, ⟨by decide, by decide⟩, D, _, _, .ref p1, rfl, rfl, SqL.of g.top, (show atI (qs.map pgV) ((T0 / 256 : Nat) : Int) = _ from atI_nat (by rw [List.getElem?_map, e2]; rfl)), _, rfl, _, 8, rfl, rfl, ⟨by decide, by decide⟩, _, 8, rfl, rfl, (by show (0 : Int) < 8; decide), p1, _, _, .int (ws1.getD (pl / 8 % 8) 0), rfl, rfl, SqL.of (g.each _ _ _ e2).1, (show atI (ws1.map V.int) ((pl / 8 % 8 : Nat) : Int) = _ from atI_word (by omega)), ?_⟩
    rw [hw1]
    generalize hT1 : wordN qs (T0 / 256) (pl / 8 % 8) = T1 at *
    refine ⟨_, rfl, _, rfl, _, rfl, _, rfl, D, qs, T1, wr, k, rfl, g, ?_⟩
    cases hl1 : lackN qs T1 wr k with
    | some z =>
      rw [hl1] at L
      have zn : z ≠ ("" : Str) := fun y => absurd (lackD.mp (show (lackN qs T1 wr k).getD "" = ("" : Str) by rw [hl1, y]; rfl)) (by rw [hl1]; nofun)
      exact ⟨_, rfl, rfl, _, rfl, iteTS (by show (!decide (V.str z = V.str "")) = true; rw [decide_eq_false (fun y => zn (V.str.inj y))]; rfl) ⟨_, rfl, _, rfl, by show 3 ≤ sizeLine; decide, fun t ht => kf _ 2 L t _ (same_new ht) upd_same⟩⟩
    | none =>
    rw [hl1] at L
    refine ⟨_, rfl, rfl, _, rfl, iteFS (by show (!decide (V.str "" = V.str "")) = false; rw [decide_eq_true rfl]; rfl) ?_⟩
    refine ⟨_, rfl, _, 2, rfl, rfl, ⟨by decide, by decide⟩, _, 2, rfl, rfl, (by show (0 : Int) < 2; decide), _, rfl, _, 2, rfl, rfl, ⟨by decide, by decide⟩, _, 2, rfl, rfl, (by show (0 : Int) < 2; decide), _, _, rfl, 2, _, rfl, rfl, .inl ⟨by decide, by decide⟩, _, rfl, _, 4, rfl, rfl, ⟨by decide, by decide⟩, _, 2, rfl, rfl, (by show (0 : Int) < 2; decide), _, rfl, _, 4, rfl, rfl, ⟨by decide, by decide⟩, _, 2, rfl, rfl, (by show (0 : Int) < 2; decide), _, _, rfl, 4, _, rfl, rfl, .inl ⟨by decide, by decide⟩, _, _, rfl, rfl, _, rfl, _, 16, rfl, rfl, ⟨by decide, by decide⟩, _, 2, rfl, rfl, (by show (0 : Int) < 2; decide), 16, _, rfl, rfl, .inl ⟨by decide, by decide⟩, _, _, rfl, rfl, ?_⟩
    dsimp only
    rw [rig_due]
    refine ⟨_, rfl, _, rfl, _, 64, rfl, rfl, ⟨by decide, by decide⟩, by show 2 ≤ sizeLine; decide, fun t1 ht1 => ?_⟩
    dsimp only
    rw [show (pl : Int) / 64 = ((pl / 8 / 8 : Nat) : Int) by omega]
    have s1 := same_new (o := .tup [.int (rt : Int), .int ((pl / 8 / 8 : Nat) : Int)]) ht1
    have z1 : upd H t1 (.tup [.int (rt : Int), .int ((pl / 8 / 8 : Nat) : Int)]) t1 = some (.tup [.int (rt : Int), .int ((pl / 8 / 8 : Nat) : Int)]) := upd_same
    generalize upd H t1 (.tup [.int (rt : Int), .int ((pl / 8 / 8 : Nat) : Int)]) = H1 at *
    refine ⟨_, rfl, _, 256, rfl, rfl, ⟨by decide, by decide⟩, _, rfl, _, 8, rfl, rfl, ⟨by decide, by decide⟩, _, 8, rfl, rfl, (by show (0 : Int) < 8; decide), by show 2 ≤ sizeLine; decide, fun t2 ht2 => ?_⟩
    have s2 := same_new (o := .tup [.int ((T0 : Int) / 256), .int ((pl : Int) / 8 % 8)]) ht2
    have z2 : upd H1 t2 (.tup [.int ((T0 : Int) / 256), .int ((pl : Int) / 8 % 8)]) t2 = some (.tup [.int ((T0 : Int) / 256), .int ((pl : Int) / 8 % 8)]) := upd_same
    dsimp only
    generalize upd H1 t2 (.tup [.int ((T0 : Int) / 256), .int ((pl : Int) / 8 % 8)]) = H2 at *
    refine ⟨_, rfl, _, 256, rfl, rfl, ⟨by decide, by decide⟩, _, rfl, by show 4 ≤ sizeLine; decide, fun tt htt => ?_⟩
    have s3 := same_new (o := .tup [.ref t1, .ref t2, .int ((T1 : Int) / 256), .int ((rigN T0 T1 : Nat) : Int)]) htt
    exact kt _ _ _ _ L tt t1 t2 _ ((s1.trans s2).trans s3) upd_same (s3 _ _ (s2 _ _ z1)) (s3 _ _ z2)
end
end K14
end
section
namespace K14
open PySem L2
theorem op_in_seqK {X : Cx} {K : PySem.W.Frag} (h : X.K = K) : OpR X (compareOp .In) (rIn K false) := by subst h; exact op_in_seq
section
variable {P : Program} {w : World} {K : PySem.W.Frag} {mg : Str → Option Value} {base : Heap} {C NP NL NW NI SC PL WC FA HE NR NF : Addr}
theorem scFo : FnScope ["_law_store", "_law_root", "_law_place", "_law_write", "_law_kernel", "_law_found_here", "e", "_law_others"] ["_law_store", "_law_root", "_law_place", "_law_write", "_law_kernel"] (defScope sFound) := ⟨rfl, rfl, rfl, by decide +kernel, rfl, by decide +kernel, by decide +kernel⟩
theorem ok_found {f f1 fI : Addr} {fd fd1 : FuncData} (F : Fun K "_law_found" "_law_found" sFound f fd) (D1 : Dn K mg "look" sLook ["store", "root", "place", "write", "kernel"] f1 fd1) (G1 : FnOk P w K mg base (CXr P w) 8 f1 fd1 ["store", "root", "place", "write", "kernel"] (spLook C SC FA)) (FL : Flt K mg FA fI) (XF : PySem.W.exmOne K (.ref FA) (.ref FA) = some true) (N : Kf K mg FA HE NP NL NW NR NI NF) (T : Txt K mg) : FnOk P w K mg base CX0 9 f fd ["_law_store", "_law_root", "_law_place", "_law_write", "_law_kernel"] (spFound C) := by
  refine F.ok scFo (fun vs H Q E h' => ?_) (fun cdv A outer s H vs Q E hr h' => ?_)
  · obtain ⟨m, h, qs, rt, pl, wr, k, rfl, _⟩ := h'
    rfl
  · obtain ⟨m, h, qs, rt, pl, wr, k, rfl, M, kf, kt⟩ := h'
    refine ⟨_, (pss_cons (ps_set (i := 5) scFo.nd rfl (Or.inl rfl) (pe_lst pa_nil)) (pss_cons (ps_try (i := 6) scFo.nd rfl rfl rfl rfl FL.m (psx_set (i := 5) scFo.nd rfl (Or.inl rfl) (pex_call G1 hr (by rfl) D1.m D1.F.kp D1.b .nil (pa_cons (pv 0) (pa_cons (pv 1) (pa_cons (pv 2) (pa_cons (pv 3) (pa_cons (pv 4) pa_nil))))))) (fun e => (pss_cons (ps_set (i := 5) scFo.nd rfl (Or.inl rfl) (pe_lst (pa_cons (pe_xfldK (K := K) rfl (pv 6) rfl) (pa_cons (pe_xfldK (K := K) rfl (pv 6) rfl) (pa_cons (pe_xfldK (K := K) rfl (pv 6) rfl) pa_nil))))) (pss_cons (ps_set (i := 7) scFo.nd rfl (Or.inl rfl) (pe_lst (pa_consK (pe_callB (call_isexc N.i0) (by rfl) T.isi PyProof.Rows.boot_isinstance (pa_cons (pv 6) (pa_cons (pe_glob (by rfl) N.m0 (show RelV (.ref NP) (.ref NP) from rfl)) pa_nil))) (pa_consK (pe_callB (call_isexc N.i1) (by rfl) T.isi PyProof.Rows.boot_isinstance (pa_cons (pv 6) (pa_cons (pe_glob (by rfl) N.m1 (show RelV (.ref NL) (.ref NL) from rfl)) pa_nil))) (pa_consK (pe_callB (call_isexc N.i2) (by rfl) T.isi PyProof.Rows.boot_isinstance (pa_cons (pv 6) (pa_cons (pe_glob (by rfl) N.m2 (show RelV (.ref NW) (.ref NW) from rfl)) pa_nil))) (pa_consK (pe_callB (call_isexc N.i3) (by rfl) T.isi PyProof.Rows.boot_isinstance (pa_cons (pv 6) (pa_cons (pe_glob (by rfl) N.m3 (show RelV (.ref NR) (.ref NR) from rfl)) pa_nil))) pa_nil)))))) (pss_cons (ps_set (i := 7) scFo.nd rfl (Or.inl rfl) (pe_op op_cat (pv 7) (pe_lst (pa_cons (pe_callB (call_isexc N.i4) (by rfl) T.isi PyProof.Rows.boot_isinstance (pa_cons (pv 6) (pa_cons (pe_glob (by rfl) N.m4 (show RelV (.ref NI) (.ref NI) from rfl)) pa_nil))) (pa_cons (pe_callB (call_isexc N.i5) (by rfl) T.isi PyProof.Rows.boot_isinstance (pa_cons (pv 6) (pa_cons (pe_glob (by rfl) N.m5 (show RelV (.ref NF) (.ref NF) from rfl)) pa_nil))) pa_nil))))) (pss_one (ps_if (PW.pt (pw_or (pt_cmpR (op_in_seqK (K := K) rfl) pe_bl (pv 7) rfl) (pw_or (pt_not (pt_val (pe_callB (call_isexc N.ih) (by rfl) T.isi PyProof.Rows.boot_isinstance (pa_cons (pv 6) (pa_cons (pe_glob (by rfl) N.mh (show RelV (.ref HE) (.ref HE) from rfl)) pa_nil))))) (pw_or1 (pt_not (pt_val (pe_callB (call_isexc N.iv) (by rfl) T.isi PyProof.Rows.boot_isinstance (pa_cons (pv 6) (pa_cons (pe_bltn (by rfl) N.mv PyProof.Rows.Boot.«ValueError» (show RelV (.ty "ValueError") (.type "ValueError") from rfl)) pa_nil))))))))) (pss_one (ps_set (i := 5) scFo.nd rfl (Or.inl rfl) (pe_lst pa_nil))) pss_nil))))))) (pss_one (ps_ret (pv 5))))), ?_⟩
    refine ⟨by show 0 ≤ sizeLine; decide, fun l0 hl0 => ?_⟩
    have s0 := same_new (o := .lst []) hl0
    generalize upd H l0 (.lst []) = H0 at *
    refine ⟨_, rfl, _, rfl, _, rfl, _, rfl, _, rfl, m, m, h, m, m, m, qs, 0, [], [], 0, rt, pl, wr, k, rfl, ⟨M.same s0⟩, fun z lv hz H1 s1 d hd => ⟨XF, fun e he => ?_⟩, fun p1 pg t l hz tt t1 t2 H1 s1 z0 z1 z2 => ⟨_, rfl, kt p1 pg t l hz tt t1 t2 H1 (s0.trans s1) z0 z1 z2⟩⟩
    have ze : upd (upd H1 d (xdo d (ffF [.str z, .int (pl : Int), .int (lv : Int)]))) e (xob e (.ref FA) (some d)) e = some (xob e (.ref FA) (some d)) := upd_same
    have zd : upd (upd H1 d (xdo d (ffF [.str z, .int (pl : Int), .int (lv : Int)]))) e (xob e (.ref FA) (some d)) d = some (xdo d (ffF [.str z, .int (pl : Int), .int (lv : Int)])) := by
      rw [upd_ne (ne_of_none upd_same he)]
      exact upd_same
    have s2 : Same H (upd (upd H1 d (xdo d (ffF [.str z, .int (pl : Int), .int (lv : Int)]))) e (xob e (.ref FA) (some d))) := (s0.trans s1).trans ((same_new hd).trans (same_new he))
    generalize upd (upd H1 d (xdo d (ffF [.str z, .int (pl : Int), .int (lv : Int)]))) e (xob e (.ref FA) (some d)) = H2 at *
    refine ⟨_, rfl, e, FA, d, _, _, rfl, ze, zd, FL.x, FL.nk, ffF_kind _ _ _, _, rfl, e, FA, d, _, _, rfl, ze, zd, FL.x, FL.np, ffF_place _ _ _, _, rfl, e, FA, d, _, _, rfl, ze, zd, FL.x, FL.nl, ffF_level _ _ _,  by show 3 ≤ sizeLine; decide, fun t ht => ?_⟩
    have s3 := same_new (o := .lst [.str z, .int (pl : Int), .int (lv : Int)]) ht
    have zt : upd H2 t (.lst [.str z, .int (pl : Int), .int (lv : Int)]) t = some (.lst [.str z, .int (pl : Int), .int (lv : Int)]) := upd_same
    have ze3 := s3 _ _ ze
    generalize upd H2 t (.lst [.str z, .int (pl : Int), .int (lv : Int)]) = H3 at *
    refine ⟨_, rfl, e, _, rfl, ze3,  _, rfl, e, _, rfl, ze3,  _, rfl, e, _, rfl, ze3,  _, rfl, e, _, rfl, ze3,  by show 4 ≤ sizeLine; decide, fun o1 ho1 => ?_⟩
    have s4 := same_new (o := .lst [.bl false, .bl false, .bl false, .bl false]) ho1
    have zo1 : upd H3 o1 (.lst [.bl false, .bl false, .bl false, .bl false]) o1 = some (.lst [.bl false, .bl false, .bl false, .bl false]) := upd_same
    have ze4 := s4 _ _ ze3
    generalize upd H3 o1 (.lst [.bl false, .bl false, .bl false, .bl false]) = H4 at *
    refine ⟨_, rfl, _, rfl, e, _, rfl, ze4,  _, rfl, e, _, rfl, ze4,  by show 2 ≤ sizeLine; decide, fun o2 ho2 => ?_⟩
    have s5 := same_new (o := .lst [.bl false, .bl false]) ho2
    have zo2 : upd H4 o2 (.lst [.bl false, .bl false]) o2 = some (.lst [.bl false, .bl false]) := upd_same
    have ze5 := s5 _ _ ze4
    have zo15 := s5 _ _ zo1
    generalize upd H4 o2 (.lst [.bl false, .bl false]) = H5 at *
    refine ⟨o1, o2, _, _, rfl, rfl, zo15, zo2, by show 4 + 2 ≤ sizeLine; decide, fun o3 ho3 => ?_⟩
    have s6 := same_new (o := .lst ([.bl false, .bl false, .bl false, .bl false] ++ [.bl false, .bl false])) ho3
    have zo3 : upd H5 o3 (.lst ([.bl false, .bl false, .bl false, .bl false] ++ [.bl false, .bl false])) o3 = some (.lst ([.bl false, .bl false, .bl false, .bl false] ++ [.bl false, .bl false])) := upd_same
    have ze6 := s6 _ _ ze5
    generalize upd H5 o3 (.lst ([.bl false, .bl false, .bl false, .bl false] ++ [.bl false, .bl false])) = H6 at *
    refine ⟨_, rfl, o3, _, rfl, .inl (SqL.of zo3), rfl, rfl, _, rfl, iteFS rfl ⟨_, rfl, e, _, rfl, ze6,  _, rfl, iteFS rfl ⟨_, rfl, e, _, rfl, ze6,  _, rfl, iteFS rfl ?_⟩⟩⟩
    exact ⟨_, rfl, kf z lv hz t _ ((((s2.trans s3).trans s4).trans s5).trans s6) (s6 _ _ (s5 _ _ (s4 _ _ zt)))⟩
theorem scPr : FnScope ["_law_found_here", "_law_due_here"] ["_law_found_here", "_law_due_here"] (defScope sPair) := ⟨rfl, rfl, rfl, by decide +kernel, rfl, by decide +kernel, by decide +kernel⟩
theorem shP (i j : Int) : SeqAt.shaped (.tuple [.int i, .int j]) = true := by simp [SeqAt.shaped, PyData.canLay0, PyData.canLayAll0, PyData.depth, PyData.depthAll]
theorem eqP (i j : Int) : PyData.eqv (.tuple [.int i, .int j]) (.tuple [.int i, .int j]) = true := by simp [PyData.eqv, PyData.eqvAll]
theorem ok_pair {f f1 : Addr} {fd fd1 : FuncData} (F : Fun K "_law_pair" "_law_pair" sPair f fd) (D1 : Dn K mg "_law_whole" sLWhole ["_law_found_here"] f1 fd1) (G1 : FnOk P w K mg base CX0 1 f1 fd1 ["_law_found_here"] spWhole) (T : Txt K mg) (TU : mg "tuple" = none) : FnOk P w K mg base CX0 2 f fd ["_law_found_here", "_law_due_here"] spPair := by
  refine F.ok scPr (fun vs H Q E h => ?_) (fun cdv A outer s H vs Q E hr h => ?_)
  · obtain ⟨a, b, i, j, rfl, _⟩ := h
    rfl
  · obtain ⟨a, b, i, j, rfl, ea, eb, q⟩ := h
    refine ⟨_, (pss_cons (ps_if (PW.pt (pw_or (pt_not (pt_val (pe_callB call_istupT (by rfl) T.isi PyProof.Rows.boot_isinstance (pa_cons (pv 0) (pa_cons (pe_bltn (by rfl) TU PyProof.Rows.boot_tuple (show RelV (.ty "tuple") (.type "tuple") from rfl)) pa_nil))))) (pw_or1 (pt_cmpR op_ne (pe_callB call_len_seq (by rfl) T.len PySem.boot_len (pa_cons (pv 0) pa_nil)) pe_int (nomark _))))) (pss_one (ps_ret pe_bl)) pss_nil) (pss_one (ps_ret (pe_and (pe_call G1 hr (by rfl) D1.m D1.F.kp D1.b .nil pass0 (pa_cons (pe_ix ix_tup (pv 0) pe_int (fun _ _ => rfl)) pa_nil)) (pe_and (pe_call G1 hr (by rfl) D1.m D1.F.kp D1.b .nil pass0 (pa_cons (pe_ix ix_tup (pv 0) pe_int (fun _ _ => rfl)) pa_nil)) (pe_one (pe_cmpR (op_eqD hr.units) (pv 0) (pv 1) (nomark _)))))))), ?_⟩
    refine ⟨_, rfl, _, rfl, .tup ea, _, rfl, iteFS (by show (!isTup H (.ref a)) = false; simp only [isTup, ea]; rfl) ?_⟩
    refine ⟨_, rfl, a, _, rfl, .inr (SqT.of ea), rfl, _, rfl, iteFS rfl ?_⟩
    refine ⟨_, rfl, a, _, _, .int i, rfl, rfl, SqT.of ea, rfl, _, rfl, .int _, _, rfl, iteT ⟨_, rfl, a, _, _, .int j, rfl, rfl, SqT.of ea, rfl, _, rfl, .int _, _, rfl, iteT ⟨_, rfl, _, rfl, _, _, .tup (SqT.of ea) (.cons (.int _) (.cons (.int _) .nil)), .tup (SqT.of eb) (.cons (.int _) (.cons (.int _) .nil)), shP _ _, shP _ _, ?_⟩⟩⟩
    rw [eqP]
    exact q
theorem scSm : FnScope ["_law_found_here", "_law_due_here"] ["_law_found_here", "_law_due_here"] (defScope sSame) := ⟨rfl, rfl, rfl, by decide +kernel, rfl, by decide +kernel, by decide +kernel⟩
theorem shL {z : Str} (hz : PyData.strOk z = true) (i j : Int) : SeqAt.shaped (.list [.str z, .int i, .int j]) = true := by simp [SeqAt.shaped, PyData.canLay0, PyData.canLayAll0, PyData.depth, PyData.depthAll, hz]
theorem eqL3 (z : Str) (i j : Int) : PyData.eqv (.list [.str z, .int i, .int j]) (.list [.str z, .int i, .int j]) = true := by simp [PyData.eqv, PyData.eqvAll]
theorem ok_same {f f1 f2 : Addr} {fd fd1 fd2 : FuncData} (F : Fun K "_law_same" "_law_same" sSame f fd) (D1 : Dn K mg "_law_whole" sLWhole ["_law_found_here"] f1 fd1) (G1 : FnOk P w K mg base CX0 1 f1 fd1 ["_law_found_here"] spWhole) (D2 : Dn K mg "_law_pair" sPair ["_law_found_here", "_law_due_here"] f2 fd2) (G2 : FnOk P w K mg base CX0 2 f2 fd2 ["_law_found_here", "_law_due_here"] spPair) (T : Txt K mg) (TU : mg "tuple" = none ∧ mg "str" = none) : FnOk P w K mg base CX0 3 f fd ["_law_found_here", "_law_due_here"] spSame := by
  refine F.ok scSm (fun vs H Q E h => ?_) (fun cdv A outer s H vs Q E hr h => ?_)
  · obtain ⟨a, b, rfl, _⟩ := h
    rfl
  · obtain ⟨a, b, rfl, q, h⟩ := h
    have hr1 : Room 1 _ := hr.mono (by decide)
    refine ⟨_, (pss_cons (ps_if (pt_val (pe_callB call_islist (by rfl) T.isi PyProof.Rows.boot_isinstance (pa_cons (pv 1) (pa_cons (pe_bltn (by rfl) T.lst PyProof.Rows.boot_list (show RelV (.ty "list") (.type "list") from rfl)) pa_nil)))) (pss_cons (ps_if (PW.pt (pw_or (pt_not (pt_val (pe_callB call_islist (by rfl) T.isi PyProof.Rows.boot_isinstance (pa_cons (pv 0) (pa_cons (pe_bltn (by rfl) T.lst PyProof.Rows.boot_list (show RelV (.ty "list") (.type "list") from rfl)) pa_nil))))) (pw_or (pt_cmpR op_ne (pe_callB call_len_seq (by rfl) T.len PySem.boot_len (pa_cons (pv 0) pa_nil)) pe_int (nomark _)) (pw_or1 (pt_not (pt_val (pe_callB call_isstr (by rfl) T.isi PyProof.Rows.boot_isinstance (pa_cons (pe_ix ix_list (pv 0) pe_int (fun _ _ => rfl)) (pa_cons (pe_bltn (by rfl) TU.2 PyProof.Rows.boot_str (show RelV (.ty "str") (.type "str") from rfl)) pa_nil))))))))) (pss_one (ps_ret pe_bl)) pss_nil) (pss_one (ps_ret (pe_and (pe_call G1 hr1 (by rfl) D1.m D1.F.kp D1.b .nil pass0 (pa_cons (pe_ix ix_list (pv 0) pe_int (fun _ _ => rfl)) pa_nil)) (pe_and (pe_call G1 hr1 (by rfl) D1.m D1.F.kp D1.b .nil pass0 (pa_cons (pe_ix ix_list (pv 0) pe_int (fun _ _ => rfl)) pa_nil)) (pe_one (pe_cmpR (op_eqD hr.units) (pv 0) (pv 1) (nomark _)))))))) pss_nil) (pss_cons (ps_if (PW.pt (pw_or (pt_not (pt_val (pe_callB call_istupT (by rfl) T.isi PyProof.Rows.boot_isinstance (pa_cons (pv 0) (pa_cons (pe_bltn (by rfl) TU.1 PyProof.Rows.boot_tuple (show RelV (.ty "tuple") (.type "tuple") from rfl)) pa_nil))))) (pw_or1 (pt_cmpR op_ne (pe_callB call_len_seq (by rfl) T.len PySem.boot_len (pa_cons (pv 0) pa_nil)) pe_int (nomark _))))) (pss_one (ps_ret pe_bl)) pss_nil) (pss_cons (ps_if (PW.pt (pw_or (pt_not (pt_val (pe_call G2 hr (by rfl) D2.m D2.F.kp D2.b .nil pass0 (pa_cons (pe_ix ix_tup (pv 0) pe_int (fun _ _ => rfl)) (pa_cons (pe_ix ix_tup (pv 1) pe_int (fun _ _ => rfl)) pa_nil))))) (pw_or1 (pt_not (pt_val (pe_call G2 hr (by rfl) D2.m D2.F.kp D2.b .nil pass0 (pa_cons (pe_ix ix_tup (pv 0) pe_int (fun _ _ => rfl)) (pa_cons (pe_ix ix_tup (pv 1) pe_int (fun _ _ => rfl)) pa_nil)))))))) (pss_one (ps_ret pe_bl)) pss_nil) (pss_one (ps_ret (pe_and (pe_call G1 hr1 (by rfl) D1.m D1.F.kp D1.b .nil pass0 (pa_cons (pe_ix ix_tup (pv 0) pe_int (fun _ _ => rfl)) pa_nil)) (pe_and (pe_call G1 hr1 (by rfl) D1.m D1.F.kp D1.b .nil pass0 (pa_cons (pe_ix ix_tup (pv 0) pe_int (fun _ _ => rfl)) pa_nil)) (pe_and (pe_cmpR op_eq (pe_ix ix_tup (pv 0) pe_int (fun _ _ => rfl)) (pe_ix ix_tup (pv 1) pe_int (fun _ _ => rfl)) (nomark _)) (pe_one (pe_cmpR op_eq (pe_ix ix_tup (pv 0) pe_int (fun _ _ => rfl)) (pe_ix ix_tup (pv 1) pe_int (fun _ _ => rfl)) (nomark _))))))))))), ?_⟩
    rcases h with ⟨z, i, j, zk, ea, eb⟩ | ⟨a1, a2, b1, b2, i, j, i1, j1, p, r, ea, eb, ea1, eb1, ea2, eb2⟩
    · refine ⟨_, rfl, _, rfl, .lst eb, _, rfl, iteTS (by show isLst H (.ref b) = true; rw [isLst_of eb]) ?_⟩
      refine ⟨_, rfl, _, rfl, .lst ea, _, rfl, iteFS (by show (!isLst H (.ref a)) = false; rw [isLst_of ea]; rfl) ?_⟩
      refine ⟨_, rfl, a, _, rfl, .inl (SqL.of ea), rfl, _, rfl, iteFS rfl ?_⟩
      refine ⟨_, rfl, a, _, _, .str z, rfl, rfl, SqL.of ea, rfl, _, rfl, .str _, _, rfl, iteFS rfl ?_⟩
      refine ⟨_, rfl, a, _, _, .int i, rfl, rfl, SqL.of ea, rfl, _, rfl, .int _, _, rfl, iteT ⟨_, rfl, a, _, _, .int j, rfl, rfl, SqL.of ea, rfl, _, rfl, .int _, _, rfl, iteT ⟨_, rfl, _, rfl, _, _, .lst (SqL.of ea) (.cons (.str _) (.cons (.int _) (.cons (.int _) .nil))), .lst (SqL.of eb) (.cons (.str _) (.cons (.int _) (.cons (.int _) .nil))), shL zk _ _, shL zk _ _, ?_⟩⟩⟩
      rw [eqL3]
      exact q
    · refine ⟨_, rfl, _, rfl, .tup eb, _, rfl, iteFS (by show isLst H (.ref b) = false; simp only [isLst, eb]) ?_⟩
      refine ⟨_, rfl, _, rfl, .tup ea, _, rfl, iteFS (by show (!isTup H (.ref a)) = false; simp only [isTup, ea]; rfl) ?_⟩
      refine ⟨_, rfl, a, _, rfl, .inr (SqT.of ea), rfl, _, rfl, iteFS rfl ?_⟩
      refine ⟨_, rfl, a, _, _, .ref a1, rfl, rfl, SqT.of ea, rfl, _, rfl, b, _, _, .ref b1, rfl, rfl, SqT.of eb, rfl, a1, b1, i, j, rfl, ea1, eb1, _, rfl, iteFS rfl ⟨_, rfl, a, _, _, .ref a2, rfl, rfl, SqT.of ea, rfl, _, rfl, b, _, _, .ref b2, rfl, rfl, SqT.of eb, rfl, a2, b2, i1, j1, rfl, ea2, eb2, _, rfl, iteFS rfl ?_⟩⟩
      refine ⟨_, rfl, a, _, _, .int p, rfl, rfl, SqT.of ea, rfl, _, rfl, .int _, _, rfl, iteT ⟨_, rfl, a, _, _, .int r, rfl, rfl, SqT.of ea, rfl, _, rfl, .int _, _, rfl, iteT ⟨_, rfl, a, _, _, .int p, rfl, rfl, SqT.of ea, rfl, _, rfl, b, _, _, .int p, rfl, rfl, SqT.of eb, rfl, rfl, _, rfl, ?_⟩⟩⟩
      rw [decide_eq_true rfl]
      refine iteT ⟨_, rfl, a, _, _, .int r, rfl, rfl, SqT.of ea, rfl, _, rfl, b, _, _, .int r, rfl, rfl, SqT.of eb, rfl, rfl, ?_⟩
      rw [decide_eq_true rfl]
      exact q
end
end K14
end
section
namespace K14
open PySem L2
def forBody : Stmt → List Stmt
  | .For _ _ b .. => b
  | _ => []
def spLaw (K : PySem.W.Frag) : Sp := fun vs H Q _ => ∃ (a : Addr) (ns : List Int), vs = [.ref a] ∧ SqL K H a (ns.map V.int) ∧ ns.length ≤ 63 ∧ ∀ H', Q (.bl true) H'
def DueAt (H : Hp) (t : Addr) (qs : Pgs) (rt pl : Nat) (wr k : Bool) : Prop := (∃ z lv, lookN qs rt pl wr k = .fault z lv ∧ H t = some (.lst [.str z, .int (pl : Int), .int (lv : Int)])) ∨
  ∃ p1 pg tw lw t1 t2, lookN qs rt pl wr k = .trail p1 pg tw lw ∧ H t = some (.tup [.ref t1, .ref t2, .int (pg : Int), .int ((rigN tw lw : Nat) : Int)]) ∧ H t1 = some (.tup [.int (rt : Int), .int ((pl / 8 / 8 : Nat) : Int)]) ∧ H t2 = some (.tup [.int (p1 : Int), .int ((pl / 8 % 8 : Nat) : Int)])
theorem DueAt.same {H H' : Hp} {t : Addr} {qs : Pgs} {rt pl : Nat} {wr k : Bool} (d : DueAt H t qs rt pl wr k) (s : Same H H') : DueAt H' t qs rt pl wr k := by
  rcases d with ⟨z, lv, h, e⟩ | ⟨p1, pg, tw, lw, t1, t2, h, e, e1, e2⟩
  · exact .inl ⟨z, lv, h, s _ _ e⟩
  · exact .inr ⟨p1, pg, tw, lw, t1, t2, h, s _ _ e, s _ _ e1, s _ _ e2⟩
section
variable {P : Program} {w : World} {K : PySem.W.Frag} {mg : Str → Option Value} {base : Heap} {C NP NL NW NI SC PL WC FA HE NR NF : Addr}
theorem scLa : FnScope ["_law_script", "_law_first", "_law_size", "_law_pages_here", "_law_there_here", "_law_gone", "_law_store", "_law_cell", "_law_some", "_law_root", "_law_place", "_law_due_here", "_law_again"] ["_law_script"] (defScope sLaw) := ⟨rfl, rfl, rfl, by decide +kernel, rfl, by decide +kernel, by decide +kernel⟩
theorem ndLa : (compN "_law_k" ["_law_script", "_law_first", "_law_size", "_law_pages_here", "_law_there_here", "_law_gone", "_law_store", "_law_cell", "_law_some", "_law_root", "_law_place", "_law_due_here", "_law_again"]).Nodup := by decide +kernel
theorem dotLa : (".0" : Str) ∉ (["_law_script", "_law_first", "_law_size", "_law_pages_here", "_law_there_here", "_law_gone", "_law_store", "_law_cell", "_law_some", "_law_root", "_law_place", "_law_due_here", "_law_again"] : List Str) := by decide +kernel
theorem ok_law {f f0 f1 f2 f3 f4 f5 f6 f7 f8 : Addr} {fd fd0 fd1 fd2 fd3 fd4 fd5 fd6 fd7 fd8 : FuncData} (F : Fun K "law" "law" sLaw f fd) (D1 : Dn K mg "_law_cell_at" sCell ["_law_script", "_law_k"] f1 fd1) (G1 : FnOk P w K mg base CX0 1 f1 fd1 ["_law_script", "_law_k"] (spCell K)) (D2 : Dn K mg "_law_pages" sPages ["_law_cell", "_law_size"] f2 fd2) (G2 : FnOk P w K mg base CX0 3 f2 fd2 ["_law_cell", "_law_size"] spPages) (D3 : Dn K mg "_law_copy" sCopy ["_law_pages_here"] f3 fd3) (G3 : FnOk P w K mg base CX0 1 f3 fd3 ["_law_pages_here"] spCopy) (D4 : Dn K mg "_law_mixed" sMixed ["_law_cell", "_law_k"] f4 fd4) (G4 : FnOk P w K mg base CX0 1 f4 fd4 ["_law_cell", "_law_k"] spMixed) (D5 : Dn K mg "_law_due" sDueL ["_law_pages_here", "_law_root", "_law_place", "_law_write", "_law_kernel"] f5 fd5) (G5 : FnOk P w K mg base CX0 3 f5 fd5 ["_law_pages_here", "_law_root", "_law_place", "_law_write", "_law_kernel"] spDueL) (D6 : Dn K mg "_law_found" sFound ["_law_store", "_law_root", "_law_place", "_law_write", "_law_kernel"] f6 fd6) (G6 : FnOk P w K mg base CX0 9 f6 fd6 ["_law_store", "_law_root", "_law_place", "_law_write", "_law_kernel"] (spFound C)) (D7 : Dn K mg "_law_same" sSame ["_law_found_here", "_law_due_here"] f7 fd7) (G7 : FnOk P w K mg base CX0 3 f7 fd7 ["_law_found_here", "_law_due_here"] spSame) (M1 : Me K C "told" "Memory.told" sTold ["self"] f8 fd8) (GM1 : FnOk P w K mg base CX0 1 f8 fd8 ["self"] (spTold C)) (MK : Mk K C f0) (mC : mg "Memory" = some (.ref C)) (BI : Binds K fd0 ["self", "pages"] []) (GI : FnOk P w K mg base (CXr P w) 6 f0 fd0 ["self", "pages"] (spInit C)) (S0 : Sto K mg C NP NL NW NI) (T : Txt K mg) : FnOk P w K mg base CX0 10 f fd ["_law_script"] (spLaw K) := by
  refine F.ok scLa (fun vs H Q E h => ?_) (fun cdv A1 outer s H vs Q E hr h => ?_)
  · obtain ⟨x, ns, rfl, _⟩ := h
    rfl
  · obtain ⟨x, ns, rfl, hS, _, q0⟩ := h
    have hr7 : Room 7 _ := hr.mono (by decide)
    have hr3 : Room 3 _ := hr.mono (by decide)
    have hr1 : Room 1 _ := hr.mono (by decide)
    have e48 : (2 : Int) ^ (48 : Int).toNat = 281474976710656 := by decide
    obtain ⟨t6, R6, hR6⟩ : ∃ tr, PSs (cxOf CX0 P w K mg base ["_law_script", "_law_first", "_law_size", "_law_pages_here", "_law_there_here", "_law_gone", "_law_store", "_law_cell", "_law_some", "_law_root", "_law_place", "_law_due_here", "_law_again"] "law" (defScope sLaw) f cdv A1 outer s H E).nox ((forBody ((defBody sLaw).getD 7 (.Pass ⟨0, 0, 0, 0⟩))).drop 6) tr ∧ ∀ (Dn' : Ends) (H1 H2 : Hp) (D m h TH GO td : Addr) (qs ps : Pgs) (v1 v2 v8 v12 : Option V) (c : Int) (rt pl : Nat) (wr kn : Bool), decide (V.int (c % 2) = V.int 1) = wr → decide (V.int (c / 2 % 2) = V.int 1) = kn → Mem C H1 m h ps → cont ps = cont qs → Same H1 H2 → DueAt H2 td qs rt pl wr kn → (∀ (H' : Hp) (v11 v12 : Option V), Same H1 H' → Dn'.nx [some (.ref x), v1, v2, some (.ref D), some (.ref TH), some (.ref GO), some (.ref m), some (.int c), v8, some (.int (rt : Int)), some (.int (pl : Int)), v11, v12] H') →
        tr Dn' [some (.ref x), v1, v2, some (.ref D), some (.ref TH), some (.ref GO), some (.ref m), some (.int c), v8, some (.int (rt : Int)), some (.int (pl : Int)), some (.ref td), v12] H2 := by
      refine ⟨_, (pss_one (ps_for PassesOwn.never rfl (pi_range1 (by rfl) T.rng (pa_cons pe_int pa_nil)) (pg_name (i := 12) scLa.nd rfl (Or.inl rfl)) (pss_one (ps_if (pt_not (pt_val (pe_call G7 hr3 (by rfl) D7.m D7.F.kp D7.b .nil pass0 (pa_cons (pe_call G6 hr (by rfl) D6.m D6.F.kp D6.b .nil pass0 (pa_cons (pv 6) (pa_cons (pv 9) (pa_cons (pv 10) (pa_cons (pe_cmpR op_eq (pe_op op_mod (pv 7) pe_int) pe_int (nomark _)) (pa_cons (pe_cmpR op_eq (pe_op op_mod (pe_op op_fdiv (pv 7) pe_int) pe_int) pe_int (nomark _)) pa_nil)))))) (pa_cons (pv 11) pa_nil))))) (pss_one (ps_ret pe_bl)) pss_nil)))), fun Dn' H1 H2 D m h TH GO td qs ps v1 v2 v8 v12 c rt pl wr kn hwr hkn M cc s2 du nx => ?_⟩
      refine ⟨2, rfl, by decide, by decide, for_range (lo := 0) (n := 2) (fun i σ H' => ∃ (v12 : Option V), σ = [some (.ref x), v1, v2, some (.ref D), some (.ref TH), some (.ref GO), some (.ref m), some (.int c), v8, some (.int (rt : Int)), some (.int (pl : Int)), some (.ref td), v12] ∧ Same H1 H' ∧ DueAt H' td qs rt pl wr kn) ?_ ?_ ?_⟩
      · exact ⟨_, rfl, s2, du⟩
      · rintro i σ H' hi ⟨v12, rfl, ss, du'⟩
        refine ⟨_, rfl, _, rfl, _, rfl, _, rfl, c, 2, rfl, rfl, (by show (0 : Int) < 2; decide), rfl, _, rfl, c, 2, rfl, rfl, ⟨by decide, by decide⟩, _, 2, rfl, rfl, (by show (0 : Int) < 2; decide), rfl, ?_⟩
        dsimp only
        rw [hwr, hkn]
        refine ⟨m, h, ps, rt, pl, wr, kn, rfl, M.same ss, fun z lv hz t3 H3 s3 z3 => ?_, fun p1 pg tw lw hz tt t1 t2 H3 s3 z0 z1 z2 => ?_⟩
        · rw [lookN_cont cc] at hz
          rcases du'.same s3 with ⟨z', lv', hz', e⟩ | ⟨p1, pg, tw, lw, t1, t2, hz', _⟩
          · cases hz.symm.trans hz'
            exact ⟨_, rfl, t3, td, rfl, ⟨_, rfl, iteF ⟨_, rfl, ss.trans s3, du'.same s3⟩⟩, .inl ⟨z, _, _, look_ok hz, z3, e⟩⟩
          · exact absurd (hz.symm.trans hz') nofun
        · rw [lookN_cont cc] at hz
          rcases du'.same s3 with ⟨z', lv', hz', e⟩ | ⟨p1', pg', tw', lw', u1, u2, hz', e, e1, e2⟩
          · exact absurd (hz.symm.trans hz') nofun
          · cases hz.symm.trans hz'
            exact ⟨_, rfl, tt, td, rfl, ⟨_, rfl, iteF ⟨_, rfl, ss.trans s3, du'.same s3⟩⟩, .inr ⟨t1, t2, u1, u2, _, _, _, _, _, _, z0, e, z1, e1, z2, e2⟩⟩
      · rintro σ H' ⟨v12, rfl, ss, _⟩
        exact nx H' _ _ ss
    obtain ⟨t5, R5, hR5⟩ : ∃ tr, PSs (cxOf CX0 P w K mg base ["_law_script", "_law_first", "_law_size", "_law_pages_here", "_law_there_here", "_law_gone", "_law_store", "_law_cell", "_law_some", "_law_root", "_law_place", "_law_due_here", "_law_again"] "law" (defScope sLaw) f cdv A1 outer s H E).nox ((forBody ((defBody sLaw).getD 7 (.Pass ⟨0, 0, 0, 0⟩))).drop 5) tr ∧ ∀ (Dn' : Ends) (H1 : Hp) (D m h TH GO : Addr) (qs ps : Pgs) (v1 v2 v8 v11 v12 : Option V) (c : Int) (rt pl : Nat), Pg H1 D qs → Good qs → Mem C H1 m h ps → cont ps = cont qs → (∀ (H' : Hp) (v11 v12 : Option V), Same H1 H' → Dn'.nx [some (.ref x), v1, v2, some (.ref D), some (.ref TH), some (.ref GO), some (.ref m), some (.int c), v8, some (.int (rt : Int)), some (.int (pl : Int)), v11, v12] H') →
        tr Dn' [some (.ref x), v1, v2, some (.ref D), some (.ref TH), some (.ref GO), some (.ref m), some (.int c), v8, some (.int (rt : Int)), some (.int (pl : Int)), v11, v12] H1 := by
      refine ⟨_, pss_cons (ps_set (i := 11) scLa.nd rfl (Or.inl rfl) (pe_call G5 hr3 (by rfl) D5.m D5.F.kp D5.b .nil pass0 (pa_cons (pv 3) (pa_cons (pv 9) (pa_cons (pv 10) (pa_cons (pe_cmpR op_eq (pe_op op_mod (pv 7) pe_int) pe_int (nomark _)) (pa_cons (pe_cmpR op_eq (pe_op op_mod (pe_op op_fdiv (pv 7) pe_int) pe_int) pe_int (nomark _)) pa_nil))))))) R6, fun Dn' H1 D m h TH GO qs ps v1 v2 v8 v11 v12 c rt pl g gd M cc nx => ?_⟩
      refine ⟨_, rfl, _, rfl, _, rfl, _, rfl, c, 2, rfl, rfl, (by show (0 : Int) < 2; decide), rfl, _, rfl, c, 2, rfl, rfl, ⟨by decide, by decide⟩, _, 2, rfl, rfl, (by show (0 : Int) < 2; decide), rfl, ?_⟩
      exact ⟨D, qs, rt, pl, _, _, rfl, g, gd, fun z lv hz t H2 s2 z2 => hR6 Dn' H1 H2 D m h TH GO t qs ps v1 v2 v8 v12 c rt pl _ _ rfl rfl M cc s2 (.inl ⟨z, lv, hz, z2⟩) nx, fun p1 pg tw lw hz tt t1 t2 H2 s2 y0 y1 y2 => hR6 Dn' H1 H2 D m h TH GO tt qs ps v1 v2 v8 v12 c rt pl _ _ rfl rfl M cc s2 (.inr ⟨p1, pg, tw, lw, t1, t2, hz, y0, y1, y2⟩) nx⟩
    obtain ⟨t3, R3, hR3⟩ : ∃ tr, PSs (cxOf CX0 P w K mg base ["_law_script", "_law_first", "_law_size", "_law_pages_here", "_law_there_here", "_law_gone", "_law_store", "_law_cell", "_law_some", "_law_root", "_law_place", "_law_due_here", "_law_again"] "law" (defScope sLaw) f cdv A1 outer s H E).nox ((forBody ((defBody sLaw).getD 7 (.Pass ⟨0, 0, 0, 0⟩))).drop 3) tr ∧ ∀ (Dn' : Ends) (H1 : Hp) (D m h TH GO : Addr) (qs ps : Pgs) (v1 v2 v10 v11 v12 : Option V) (c so : Int) (rt : Nat), Pg H1 D qs → Good qs → Mem C H1 m h ps → cont ps = cont qs → (∀ (H' : Hp) (v10 v11 v12 : Option V), Same H1 H' → Dn'.nx [some (.ref x), v1, v2, some (.ref D), some (.ref TH), some (.ref GO), some (.ref m), some (.int c), some (.int so), some (.int (rt : Int)), v10, v11, v12] H') →
        tr Dn' [some (.ref x), v1, v2, some (.ref D), some (.ref TH), some (.ref GO), some (.ref m), some (.int c), some (.int so), some (.int (rt : Int)), v10, v11, v12] H1 := by
      refine ⟨_, pss_cons (ps_set (i := 10) scLa.nd rfl (Or.inl rfl) (pe_op op_mod (pe_call G4 hr1 (by rfl) D4.m D4.F.kp D4.b .nil pass0 (pa_cons (pe_op op_fdiv (pv 7) pe_int) (pa_cons pe_int pa_nil))) pe_int)) (pss_cons (ps_if (pt_cmpR (op_in_seqK (K := K) rfl) (pe_op op_mod (pe_op op_fdiv (pv 7) pe_int) pe_int) (pe_tup (pa_cons pe_int (pa_cons pe_int pa_nil))) rfl) (pss_one (ps_set (i := 10) scLa.nd rfl (Or.inl rfl) (pe_ix ix_list (pe_lst (pa_cons pe_int (pa_cons (pe_op op_add pe_int (pe_op op_mod (pv 8) (pe_op op_sub (pe_op op_pow pe_int pe_int) pe_int))) pa_nil))) (pe_op op_mod (pv 8) pe_int) (fun _ _ => rfl)))) pss_nil) R5), fun Dn' H1 D m h TH GO qs ps v1 v2 v10 v11 v12 c so rt g gd M cc nx => ?_⟩
      refine ⟨_, rfl, c, 4, rfl, rfl, ⟨by decide, by decide⟩, _, 302, rfl, by decide, by decide, fun r r0 => ⟨r, 512, rfl, rfl, (by show (0 : Int) < 512; decide), ?_⟩⟩
      dsimp only
      obtain ⟨pl, hpl⟩ : ∃ pl : Nat, r % 512 = (pl : Int) := ⟨(r % 512).toNat, by omega⟩
      rw [hpl]
      refine ⟨_, rfl, c, 4, rfl, rfl, ⟨by decide, by decide⟩, _, 16, rfl, rfl, (by show (0 : Int) < 16; decide), by show 2 ≤ sizeLine; decide, fun u hu => ?_⟩
      have s2 := same_new (o := .tup [.int 5, .int 7]) hu
      have zu : upd H1 u (.tup [.int 5, .int 7]) u = some (.tup [.int 5, .int 7]) := upd_same
      generalize upd H1 u (.tup [.int 5, .int 7]) = H2 at *
      refine ⟨u, _, rfl, .inr (SqT.of zu), rfl, rfl, _, rfl, ite2 (fun _ => ?_) (fun _ => hR5 Dn' H2 D m h TH GO qs ps v1 v2 _ v11 v12 c rt pl (g.same s2) gd (M.same s2) cc fun H' v11 v12 ss => nx H' _ v11 v12 (s2.trans ss))⟩
      refine ⟨_, rfl, 2, 48, rfl, rfl, ⟨by decide, by decide, by decide⟩, _, 512, rfl, rfl, so, _, rfl, rfl, (by show (0 : Int) < 2 ^ (48 : Int).toNat - 512; decide), 512, _, rfl, rfl, by show 2 ≤ sizeLine; decide, fun l2 hl2 => ?_⟩
      dsimp only
      rw [e48]
      have s3 := same_new (o := .lst (([512, 512 + so % (281474976710656 - 512)] : List Int).map V.int)) hl2
      have zl2 : upd H2 l2 (.lst (([512, 512 + so % (281474976710656 - 512)] : List Int).map V.int)) l2 = some (.lst (([512, 512 + so % (281474976710656 - 512)] : List Int).map V.int)) := upd_same
      have d0 : 0 ≤ so % (281474976710656 - 512) := Int.emod_nonneg _ (by decide)
      obtain ⟨g1, hg, hat⟩ := atI_mem (gs := [512, 512 + so % (281474976710656 - 512)]) (i := so % 2) (by omega) (by show so % 2 < 2; omega)
      have g0 : 0 ≤ g1 := by
        rcases List.mem_cons.mp hg with y | y
        · omega
        · rw [List.mem_singleton.mp y]; omega
      obtain ⟨pl2, rfl⟩ : ∃ pl2 : Nat, g1 = (pl2 : Int) := ⟨g1.toNat, by omega⟩
      refine ⟨_, rfl, so, 2, rfl, rfl, (by show (0 : Int) < 2; decide), l2, _, _, .int (pl2 : Int), rfl, rfl, SqL.of zl2, hat, ?_⟩
      have s23 := s2.trans s3
      exact hR5 Dn' _ D m h TH GO qs ps v1 v2 _ v11 v12 c rt pl2 (g.same s23) gd (M.same s23) cc fun H' v11 v12 ss => nx H' _ v11 v12 (s23.trans ss)
    obtain ⟨t8, R8, hR8⟩ : ∃ tr, PSs (cxOf CX0 P w K mg base ["_law_script", "_law_first", "_law_size", "_law_pages_here", "_law_there_here", "_law_gone", "_law_store", "_law_cell", "_law_some", "_law_root", "_law_place", "_law_due_here", "_law_again"] "law" (defScope sLaw) f cdv A1 outer s H E).nox ((defBody sLaw).drop 3) tr ∧ ∀ (v1 : Option V) (n : Nat), 2 ≤ n → n ≤ 24 → tr { nx := fun _ H' => Q .non H', rt := Q } [some (.ref x), v1, some (.int (n : Int)), none, none, none, none, none, none, none, none, none, none] H := by
      refine ⟨_, pss_cons (ps_set (i := 3) scLa.nd rfl (Or.inr rfl) (pe_call G2 hr3 (by rfl) D2.m D2.F.kp D2.b .nil pass0 (pa_cons (pe_call G1 hr1 (by rfl) D1.m D1.F.kp D1.b .nil pass0 (pa_cons (pv 0) (pa_cons pe_int pa_nil))) (pa_cons (pv 2) pa_nil)))) (pss_cons (ps_setC (i := 4) scLa.nd rfl rfl rfl (cl := [("_law_pages_here", s.heap.objs.size + 1)]) (tc := tTest (tOp (fun x y H Q => y = .non ∧ Q (.bl (!decide (x = .non))) H) (tOp (rIxL K) (tVar 4) (tVar 0)) (tC .non))) (te := tVar 0) rfl (pi_range1 (by rfl) T.rng (pa_cons (pv 2) pa_nil)) rfl (by repeat' (first | exact trivial | refine ⟨.inl ⟨.inr rfl, rfl⟩, ?_⟩ | refine ⟨.inl ⟨.inl rfl, rfl⟩, ?_⟩ | refine ⟨.inr (.inl ⟨by decide, by decide, by decide⟩), ?_⟩ | refine ⟨.inr (.inr ⟨rfl, by decide +kernel, by decide +kernel, rfl, rfl⟩), ?_⟩)) (show ClOk _ _ from ⟨rfl, trivial⟩) (fun C s₂ H₂ fp => .one (pt_cmpR op_notN (pe_ix ix_list (pv 4) (pv 0) (fun _ _ => rfl)) pe_non (nomark _))) (fun C s₂ H₂ fp => (pv 0)) ndLa (hdot := dotLa)) (pss_cons (ps_set (i := 5) scLa.nd rfl (Or.inl rfl) (pe_op op_cat (pe_comp (cl := [("_law_pages_here", s.heap.objs.size + 1)]) (tc := tTest (tOp (fun x y H Q => y = .non ∧ Q (.bl (decide (x = .non))) H) (tOp (rIxL K) (tVar 4) (tVar 0)) (tC .non))) (te := tVar 0) rfl (pi_range1 (by rfl) T.rng (pa_cons (pv 2) pa_nil)) rfl (by repeat' (first | exact trivial | refine ⟨.inl ⟨.inr rfl, rfl⟩, ?_⟩ | refine ⟨.inl ⟨.inl rfl, rfl⟩, ?_⟩ | refine ⟨.inr (.inl ⟨by decide, by decide, by decide⟩), ?_⟩ | refine ⟨.inr (.inr ⟨rfl, by decide +kernel, by decide +kernel, rfl, rfl⟩), ?_⟩)) (show ClOk _ _ from ⟨rfl, trivial⟩) (fun C s₂ H₂ fp => .one (pt_cmpR op_isN (pe_ix ix_list (pv 4) (pv 0) (fun _ _ => rfl)) pe_non (nomark _))) (fun C s₂ H₂ fp => (pv 0)) ndLa (hdot := dotLa)) (pe_lst (pa_cons (pv 2) pa_nil)))) (pss_cons (ps_set (i := 6) scLa.nd rfl (Or.inl rfl) (pe_make MK GI hr7 (by rfl) mC BI .nil passX0 (pa_cons (pe_call G3 hr1 (by rfl) D3.m D3.F.kp D3.b .nil pass0 (pa_cons (pv 3) pa_nil)) pa_nil))) (pss_cons (ps_for PassesOwn.never rfl (pi_list (pe_slice sl_list (pv 0) (po_some pe_int) (po_some pe_int))) (pg_name (i := 7) scLa.nd rfl (Or.inl rfl)) (pss_cons (ps_set (i := 8) scLa.nd rfl (Or.inl rfl) (pe_op op_fdiv (pv 7) pe_int)) (pss_cons (ps_set (i := 9) scLa.nd rfl (Or.inl rfl) (pe_ix ix_list (pv 4) (pe_op op_mod (pe_call G4 hr1 (by rfl) D4.m D4.F.kp D4.b .nil pass0 (pa_cons (pe_op op_fdiv (pv 7) pe_int) (pa_cons pe_int pa_nil))) (pe_callB call_len_seq (by rfl) T.len PySem.boot_len (pa_cons (pv 4) pa_nil))) (fun _ _ => rfl))) (pss_cons (ps_if (pt_cmpR (op_in_seqK (K := K) rfl) (pe_op op_mod (pe_op op_fdiv (pv 7) pe_int) pe_int) (pe_tup (pa_cons pe_int (pa_cons pe_int (pa_cons pe_int pa_nil)))) rfl) (pss_one (ps_set (i := 9) scLa.nd rfl (Or.inl rfl) (pe_ix ix_list (pe_lst (pa_cons (pe_ix ix_list (pv 5) (pe_op op_mod (pv 8) (pe_callB call_len_seq (by rfl) T.len PySem.boot_len (pa_cons (pv 5) pa_nil))) (fun _ _ => rfl)) (pa_cons (pe_op op_add (pv 2) (pe_op op_mod (pv 8) (pe_op op_sub (pe_op op_pow pe_int pe_int) (pv 2)))) (pa_cons (pe_ix ix_list (pv 5) pe_int (fun _ _ => rfl)) pa_nil)))) (pe_op op_mod (pe_call G4 hr1 (by rfl) D4.m D4.F.kp D4.b .nil pass0 (pa_cons (pe_op op_fdiv (pv 7) pe_int) (pa_cons pe_int pa_nil))) pe_int) (fun _ _ => rfl)))) pss_nil) R3)))) (pss_one (ps_ret (pe_cmpR (op_eqD hr.units) (pe_meth0 (pv 6) S0.cl M1.m GM1 hr1 M1.b .nil pass0) (pv 3) (nomark _)))))))), fun v1 n n1 n2 => ?_⟩
      refine ⟨_, rfl, x, ns, 1, rfl, hS, _, rfl, _, n, rfl, by omega, n2, fun D H1 qs s1 g gd hl ht hf => ?_⟩
      have m0 : 0 ≤ ns.getD 1 0 % (n : Int) := Int.emod_nonneg _ (by omega)
      have m1 : ns.getD 1 0 % (n : Int) < n := Int.emod_lt_of_pos _ (by omega)
      obtain ⟨k0, hk0, hk1⟩ : ∃ k0 : Nat, (ns.getD 1 0 % (n : Int)).toNat = k0 ∧ k0 < n := ⟨_, rfl, by omega⟩
      rw [hk0] at ht
      refine ⟨_, rfl, n, rfl, (by omega), (by omega), ?_⟩
      rw [show ((n : Int)).toNat = n from Int.toNat_natCast n]
      refine comp_range (lo := 0) (n := n) (fun E2 k ys H' => H1 E2 = none ∧ Same H1 H' ∧ H' E2 = some (.lst ys) ∧ ∃ ts : List Int, ys = ts.map V.int ∧ ts.length ≤ k ∧ (∀ t ∈ ts, 0 ≤ t) ∧ (k0 < k → ts ≠ [])) ?_ ?_ ?_ ?_
      · exact fun E2 hE => ⟨hE, same_new hE, upd_same, [], rfl, Nat.le_refl _, (fun t ht => by cases ht), fun hj => absurd hj (Nat.not_lt_zero _)⟩
      · rintro E2 k ys H' _ ⟨_, _, hy, _⟩
        exact hy
      · rintro E2 k ys H' hk ⟨hE, ss, hy, ts, rfl, hlt, hts, hin⟩
        rw [Int.zero_add]
        obtain ⟨o, ho, ha⟩ := atI_pg (ps := qs) (i := k) (by omega)
        refine ⟨_, rfl, _, rfl, D, _, _, _, rfl, rfl, SqL.of (ss _ _ g.top), ha, rfl, _, rfl, ?_⟩
        cases o with
        | none =>
          refine iteF ⟨hE, ss, hy, ts, rfl, by omega, hts, fun hj => hin ?_⟩
          by_cases e : k0 = k
          · subst e
            rw [ho] at ht
            cases ht
          · omega
        | some z =>
          refine iteT ⟨_, rfl, hy, ?_, hE, Same.set ss hE, upd_same, ts ++ [(k : Int)], by rw [List.map_append]; rfl, by rw [List.length_append]; show ts.length + 1 ≤ k + 1; omega, fun t hm' => ?_, fun _ z => by simp at z⟩
          · rw [List.length_map]
            exact Nat.lt_of_le_of_lt hlt (Nat.lt_of_lt_of_le (by omega : k < 1001) (by decide))
          · rcases List.mem_append.mp hm' with z' | z'
            · exact hts t z'
            · rw [List.mem_singleton.mp z']; omega
      rintro TH ys H2 ⟨hTH, s2, zTH, ts, rfl, hlt, hts, hin⟩
      have htn := hin hk1
      refine ⟨_, rfl, n, rfl, (by omega), (by omega), ?_⟩
      rw [show ((n : Int)).toNat = n from Int.toNat_natCast n]
      refine comp_range (lo := 0) (n := n) (fun E2 k ys H' => H2 E2 = none ∧ Same H2 H' ∧ H' E2 = some (.lst ys) ∧ ∃ ts : List Int, ys = ts.map V.int ∧ ts.length ≤ k ∧ (∀ t ∈ ts, 0 ≤ t)) ?_ ?_ ?_ ?_
      · exact fun E2 hE => ⟨hE, same_new hE, upd_same, [], rfl, Nat.le_refl _, (fun t ht => by cases ht)⟩
      · rintro E2 k ys H' _ ⟨_, _, hy, _⟩
        exact hy
      · rintro E2 k ys H' hk ⟨hE, ss, hy, ts, rfl, hlt, hts⟩
        rw [Int.zero_add]
        obtain ⟨o, ho, ha⟩ := atI_pg (ps := qs) (i := k) (by omega)
        refine ⟨_, rfl, _, rfl, D, _, _, _, rfl, rfl, SqL.of (ss _ _ (s2 _ _ g.top)), ha, rfl, _, rfl, ?_⟩
        cases o with
        | some z => exact iteFS (by show decide (pgV (some z) = V.non) = false; exact decide_eq_false nofun) ⟨hE, ss, hy, ts, rfl, by omega, hts⟩
        | none =>
          refine iteTS (by show decide (V.non = V.non) = true; exact decide_eq_true rfl) ⟨_, rfl, hy, ?_, hE, Same.set ss hE, upd_same, ts ++ [(k : Int)], by rw [List.map_append]; rfl, by rw [List.length_append]; show ts.length + 1 ≤ k + 1; omega, fun t hm' => ?_⟩
          · rw [List.length_map]
            exact Nat.lt_of_le_of_lt hlt (Nat.lt_of_lt_of_le (by omega : k < 1001) (by decide))
          · rcases List.mem_append.mp hm' with z' | z'
            · exact hts t z'
            · rw [List.mem_singleton.mp z']; omega
      rintro G0 ys H3 ⟨hG0, s3, zG0, us, rfl, hlu, hus⟩
      refine ⟨_, rfl, by show 1 ≤ sizeLine; decide, fun l1 hl1 => ?_⟩
      have s4 := same_new (o := .lst [.int (n : Int)]) hl1
      have zl1 : upd H3 l1 (.lst [.int (n : Int)]) l1 = some (.lst [.int (n : Int)]) := upd_same
      have zG04 := s4 _ _ zG0
      generalize upd H3 l1 (.lst [.int (n : Int)]) = H4 at *
      refine ⟨G0, l1, _, _, rfl, rfl, zG04, zl1, by rw [List.length_map]; exact Nat.le_trans (show us.length + 1 ≤ 25 by omega) (by decide), fun GO hGO => ?_⟩
      have s5 := same_new (o := .lst ((us ++ [(n : Int)]).map V.int)) hGO
      have zGO : upd H4 GO (.lst ((us ++ [(n : Int)]).map V.int)) GO = some (.lst ((us ++ [(n : Int)]).map V.int)) := upd_same
      have eGO : us.map V.int ++ [V.int (n : Int)] = (us ++ [(n : Int)]).map V.int := by rw [List.map_append]; rfl
      rw [eGO]
      have gos : ∀ t ∈ us ++ [(n : Int)], 0 ≤ t := fun t ht => by
        rcases List.mem_append.mp ht with z | z
        · exact hus t z
        · rw [List.mem_singleton.mp z]; omega
      have gol : 1 ≤ (us ++ [(n : Int)]).length := by rw [List.length_append]; show 1 ≤ us.length + 1; omega
      obtain ⟨go0, go0i, hgo0⟩ := atI_mem (gs := us ++ [(n : Int)]) (i := 0) (by decide) (by omega)
      generalize us ++ [(n : Int)] = gs at *
      generalize upd H4 GO (.lst (gs.map V.int)) = H5 at *
      have s15 : Same H1 H5 := (s2.trans s3).trans (s4.trans s5)
      have zTH5 := (s3.trans (s4.trans s5)) _ _ zTH
      have tl1 : 1 ≤ ts.length := by cases ts with
        | nil => exact absurd rfl htn
        | cons a b => exact Nat.succ_le_succ (Nat.zero_le _)
      refine ⟨_, rfl, D, qs, rfl, g.same s15, (by omega), fun hd H6 hs s6 gh hch hfh => ?_⟩
      have hlh := cont_len hch
      refine fun m dx nx ndx ne => ?_
      have sM : Same H6 (upd (upd H6 dx (.own m)) m (.ins C dx [])) := (same_new ndx).trans (same_new (by rw [upd_ne (Ne.symm ne)]; exact nx))
      refine ⟨m, dx, hd, hs, rfl, upd_same, gh.same sM, good_cont hch gd, (by omega), (by omega), fun hh H7 ps keep M hcp hfp => ⟨rfl, ?_⟩⟩
      have s7 : Same H6 H7 := fun b o e => keep b o (ne_of_none e nx) (sM b o e)
      have cc : cont ps = cont qs := hcp.trans hch
      have s17 := (s15.trans s6).trans s7
      have sH7 := s1.trans s17
      refine ⟨_, rfl, 2, rfl, 62, rfl, x, _, rfl, sH7.seq hS, fun sl hsl => ?_⟩
      obtain ⟨ms, hms, hml⟩ := cut_ints ns (some 2) (some 62)
      rw [hms]
      have s8 := same_new (o := .lst (ms.map V.int)) hsl
      have zsl : upd H7 sl (.lst (ms.map V.int)) sl = some (.lst (ms.map V.int)) := upd_same
      have M8 := M.same s8
      have g8 := (g.same s17).same s8
      have zTH8 := s8 _ _ ((s6.trans s7) _ _ zTH5)
      have zGO8 := s8 _ _ ((s6.trans s7) _ _ zGO)
      generalize upd H7 sl (.lst (ms.map V.int)) = H8 at *
      refine ⟨sl, rfl, ⟨_, SqL.of zsl⟩, for_list (K := K) (a := sl) (xs := ms.map V.int) (fun i σ H' => ∃ (v7 v8 v9 v10 v11 v12 : Option V), σ = [some (.ref x), v1, some (.int (n : Int)), some (.ref D), some (.ref TH), some (.ref GO), some (.ref m), v7, v8, v9, v10, v11, v12] ∧ Same H8 H') ?_ ?_ ?_ ?_⟩
      · exact ⟨_, _, _, _, _, _, rfl, Same.refl _⟩
      · rintro i σ H' _ ⟨_, _, _, _, _, _, _, ss⟩
        exact SqL.of (ss _ _ zsl)
      · rintro i vv σ H' hi ⟨v7, v8, v9, v10, v11, v12, rfl, ss⟩
        rw [List.getElem?_map] at hi
        cases ec : ms[i]? with
        | none => rw [ec] at hi; cases hi
        | some c =>
        rw [ec] at hi
        cases hi
        have gX := g8.same ss
        have MX := M8.same ss
        have zTH9 := ss _ _ zTH8
        have zGO9 := ss _ _ zGO8
        refine ⟨_, rfl, c, 64, rfl, rfl, ⟨by decide, by decide⟩, ?_⟩
        dsimp only
        generalize c / 64 = so
        refine ⟨_, rfl, _, rfl, c, 4, rfl, rfl, ⟨by decide, by decide⟩, _, 301, rfl, by decide, by decide, fun r r0 => ?_⟩
        have lp : (0 : Int) < ((ts.map V.int).length : Int) := by rw [List.length_map]; omega
        obtain ⟨rg, hrg, hat⟩ := atI_mem (gs := ts) (i := r % ((ts.map V.int).length : Int)) (Int.emod_nonneg _ (by omega)) (by have := Int.emod_lt_of_pos r lp; rw [List.length_map] at this ⊢; exact this)
        have rg0 := hts rg hrg
        obtain ⟨rt, rfl⟩ : ∃ rt : Nat, rg = (rt : Int) := ⟨rg.toNat, by omega⟩
        refine ⟨_, rfl, TH, _, rfl, .inl (SqL.of zTH9), r, _, rfl, rfl, lp, TH, _, _, .int (rt : Int), rfl, rfl, SqL.of zTH9, hat, ?_⟩
        refine ⟨_, rfl, c, 4, rfl, rfl, ⟨by decide, by decide⟩, _, 16, rfl, rfl, (by show (0 : Int) < 16; decide), by show 3 ≤ sizeLine; decide, fun u hu => ?_⟩
        have s9 := same_new (o := .tup [.int 3, .int 7, .int 11]) hu
        have zu : upd H' u (.tup [.int 3, .int 7, .int 11]) u = some (.tup [.int 3, .int 7, .int 11]) := upd_same
        generalize upd H' u (.tup [.int 3, .int 7, .int 11]) = H9 at *
        refine ⟨u, _, rfl, .inr (SqT.of zu), rfl, rfl, _, rfl, ite2 (fun _ => ?_) (fun _ => hR3 _ H9 D m hh TH GO qs ps v1 _ v10 v11 v12 c so rt (gX.same s9) gd (MX.same s9) cc fun H' v10 v11 v12 s' => ⟨_, _, _, _, _, _, rfl, (ss.trans s9).trans s'⟩)⟩
        have zGO10 := s9 _ _ zGO9
        have lg : (0 : Int) < ((gs.map V.int).length : Int) := by rw [List.length_map]; omega
        obtain ⟨ga, hga, hata⟩ := atI_mem (gs := gs) (i := so % ((gs.map V.int).length : Int)) (Int.emod_nonneg _ (by omega)) (by have := Int.emod_lt_of_pos so lg; rw [List.length_map] at this ⊢; exact this)
        refine ⟨_, rfl, _, rfl, _, rfl, GO, _, rfl, .inl (SqL.of zGO10), so, _, rfl, rfl, lg, GO, _, _, .int ga, rfl, rfl, SqL.of zGO10, hata, _, rfl, _, rfl, 2, 48, rfl, rfl, ⟨by decide, by decide, by decide⟩, _, rfl, _, _, rfl, rfl, so, _, rfl, rfl, (by show (0 : Int) < 2 ^ (48 : Int).toNat - (n : Int); rw [e48]; omega), _, _, rfl, rfl, _, rfl, GO, _, _, .int go0, rfl, rfl, SqL.of zGO10, hgo0, by show 3 ≤ sizeLine; decide, fun l3 hl3 => ?_⟩
        dsimp only
        rw [e48]
        have d0 : 0 ≤ so % (281474976710656 - (n : Int)) := Int.emod_nonneg _ (by omega)
        generalize so % (281474976710656 - (n : Int)) = dd at d0 ⊢
        have s10 := same_new (o := .lst (([ga, (n : Int) + dd, go0] : List Int).map V.int)) hl3
        have zl3 : upd H9 l3 (.lst (([ga, (n : Int) + dd, go0] : List Int).map V.int)) l3 = some (.lst (([ga, (n : Int) + dd, go0] : List Int).map V.int)) := upd_same
        refine ⟨_, rfl, c, 4, rfl, rfl, ⟨by decide, by decide⟩, _, 303, rfl, by decide, by decide, fun r2 r20 => ?_⟩
        obtain ⟨g1, hg1, hat1⟩ := atI_mem (gs := [ga, (n : Int) + dd, go0]) (i := r2 % 3) (by omega) (by show r2 % 3 < 3; omega)
        have g10 : 0 ≤ g1 := by
          have a0 := gos ga hga
          have b0 := gos go0 go0i
          rcases List.mem_cons.mp hg1 with y | y
          · omega
          · rcases List.mem_cons.mp y with y | y
            · omega
            · rw [List.mem_singleton.mp y]; exact b0
        obtain ⟨rt2, rfl⟩ : ∃ rt : Nat, g1 = (rt : Int) := ⟨g1.toNat, by omega⟩
        refine ⟨r2, 3, rfl, rfl, (by show (0 : Int) < 3; decide), l3, _, _, .int (rt2 : Int), rfl, rfl, SqL.of zl3, hat1, ?_⟩
        have s11 := s9.trans s10
        exact hR3 _ _ D m hh TH GO qs ps v1 _ v10 v11 v12 c so rt2 (gX.same s11) gd (MX.same s11) cc fun H' v10 v11 v12 s' => ⟨_, _, _, _, _, _, rfl, (ss.trans s11).trans s'⟩
      · rintro σ H' ⟨v7, v8, v9, v10, v11, v12, rfl, ss⟩
        have MX := M8.same ss
        have gX := g8.same ss
        obtain ⟨dm, em⟩ := MX.ob
        refine ⟨_, rfl, m, dm, _, rfl, em, flds_no hh (by decide +kernel), m, hh, ps, rfl, MX, fun D3 H10 qs3 s10 g10 c10 f10 => ?_⟩
        refine ⟨_, rfl, _, _, datPg g10, datPg (gX.same s10), shapedC _, shapedC _, ?_⟩
        rw [c10, cc, eqvC]
        exact q0 _
    refine ⟨_, pss_cons (ps_set (i := 1) scLa.nd rfl (Or.inl rfl) (pe_call G1 hr1 (by rfl) D1.m D1.F.kp D1.b .nil pass0 (pa_cons (pv 0) (pa_cons pe_int pa_nil)))) (pss_cons (ps_set (i := 2) scLa.nd rfl (Or.inl rfl) (pe_op op_add pe_int (pe_op op_mod (pe_op op_fdiv (pv 1) pe_int) pe_int))) (pss_cons (ps_if (pt_cmpR op_eq (pe_op op_mod (pv 1) pe_int) pe_int (nomark _)) (pss_one (ps_set (i := 2) scLa.nd rfl (Or.inl rfl) (pe_op op_add pe_int (pe_op op_mod (pe_op op_fdiv (pv 1) pe_int) pe_int)))) pss_nil) R8)), ?_⟩
    refine ⟨_, rfl, x, ns, 0, rfl, hS, ?_⟩
    generalize ns.getD 0 0 = c0
    refine ⟨_, rfl, c0, 8, rfl, rfl, ⟨by decide, by decide⟩, _, 5, rfl, rfl, (by show (0 : Int) < 5; decide), 2, _, rfl, rfl, ?_⟩
    dsimp only
    obtain ⟨n, hn⟩ : ∃ n : Nat, 2 + c0 / 8 % 5 = (n : Int) := ⟨(2 + c0 / 8 % 5).toNat, by omega⟩
    rw [hn]
    refine ⟨_, rfl, c0, 8, rfl, rfl, (by show (0 : Int) < 8; decide), rfl, _, rfl, ite2 (fun _ => ?_) (fun _ => hR8 _ n (by omega) (by omega))⟩
    refine ⟨_, rfl, c0, 40, rfl, rfl, ⟨by decide, by decide⟩, _, 18, rfl, rfl, (by show (0 : Int) < 18; decide), 7, _, rfl, rfl, ?_⟩
    dsimp only
    obtain ⟨n7, hn7⟩ : ∃ n : Nat, 7 + c0 / 40 % 18 = (n : Int) := ⟨(7 + c0 / 40 % 18).toNat, by omega⟩
    rw [hn7]
    exact hR8 _ n7 (by omega) (by omega)
end
end K14
end
section
open PySem PySem.W PyProof.Rows
namespace K14
open PySem L2
theorem ba1 {fd : FuncData} {p1 : Str} (h : ∀ a1 : Value, bindArgs fd ⟨[a1], []⟩ = pure ([p1].zip [a1])) : ∀ us : List Value, us.length = [p1].length → bindArgs fd ⟨us, []⟩ = pure ([p1].zip us)
  | [_], _ => h _
theorem ba2 {fd : FuncData} {p1 p2 : Str} (h : ∀ a1 a2 : Value, bindArgs fd ⟨[a1, a2], []⟩ = pure ([p1, p2].zip [a1, a2])) : ∀ us : List Value, us.length = [p1, p2].length → bindArgs fd ⟨us, []⟩ = pure ([p1, p2].zip us)
  | [_, _], _ => h _ _
theorem ba3 {fd : FuncData} {p1 p2 p3 : Str} (h : ∀ a1 a2 a3 : Value, bindArgs fd ⟨[a1, a2, a3], []⟩ = pure ([p1, p2, p3].zip [a1, a2, a3])) : ∀ us : List Value, us.length = [p1, p2, p3].length → bindArgs fd ⟨us, []⟩ = pure ([p1, p2, p3].zip us)
  | [_, _, _], _ => h _ _ _
theorem ba4 {fd : FuncData} {p1 p2 p3 p4 : Str} (h : ∀ a1 a2 a3 a4 : Value, bindArgs fd ⟨[a1, a2, a3, a4], []⟩ = pure ([p1, p2, p3, p4].zip [a1, a2, a3, a4])) : ∀ us : List Value, us.length = [p1, p2, p3, p4].length → bindArgs fd ⟨us, []⟩ = pure ([p1, p2, p3, p4].zip us)
  | [_, _, _, _], _ => h _ _ _ _
theorem ba5 {fd : FuncData} {p1 p2 p3 p4 p5 : Str} (h : ∀ a1 a2 a3 a4 a5 : Value, bindArgs fd ⟨[a1, a2, a3, a4, a5], []⟩ = pure ([p1, p2, p3, p4, p5].zip [a1, a2, a3, a4, a5])) : ∀ us : List Value, us.length = [p1, p2, p3, p4, p5].length → bindArgs fd ⟨us, []⟩ = pure ([p1, p2, p3, p4, p5].zip us)
  | [_, _, _, _, _], _ => h _ _ _ _ _
theorem ba6 {fd : FuncData} {p1 p2 p3 p4 p5 p6 : Str} (h : ∀ a1 a2 a3 a4 a5 a6 : Value, bindArgs fd ⟨[a1, a2, a3, a4, a5, a6], []⟩ = pure ([p1, p2, p3, p4, p5, p6].zip [a1, a2, a3, a4, a5, a6])) : ∀ us : List Value, us.length = [p1, p2, p3, p4, p5, p6].length → bindArgs fd ⟨us, []⟩ = pure ([p1, p2, p3, p4, p5, p6].zip us)
  | [_, _, _, _, _, _], _ => h _ _ _ _ _ _
theorem all_mk {l : PySem.W.OpenLaw} {w : World} {K : PySem.W.Frag} {h : Heap} {mg : Str → Option Value} {fa f0 f1 f2 f3 f4 f5 f6 f7 f8 f9 f10 f11 f12 f13 f14 f15 f16 f17 f18 f19 f20 f21 f22 f23 f24 f25 f26 f27 f28 f29 f30 f31 f32 f33 xC xSC xNP xNL xNW xNI xNR xNF xFA xHE : Addr} (X : K.In h) (G : h.Ns mainGlobals mg) (hfa : mg "law" = some (.ref fa))
    {od0 an0 od1 an1 od2 an2 od3 an3 od4 an4 od5 an5 od6 an6 od7 an7 od8 an8 od9 an9 od10 an10 od11 an11 od12 an12 od13 an13 od14 an14 od15 an15 od16 an16 od17 an17 od18 an18 od19 an19 od20 an20 od21 an21 od22 an22 od23 an23 od24 an24 od25 an25 od26 an26 od27 an27 od28 an28 od29 an29 od30 an30 od31 an31 od32 an32 od33 an33 : Option Addr} {sl0 sl1 sl2 sl3 sl4 sl5 sl6 sl7 sl8 sl9 sl10 sl11 sl12 sl13 sl14 sl15 sl16 sl17 sl18 sl19 sl20 sl21 sl22 sl23 sl24 sl25 sl26 sl27 sl28 sl29 sl30 sl31 sl32 sl33 : Array (Option Value)} {oc0 kV0 dc0 pm0 cd0 ct0 oc1 kV1 dc1 pm1 cd1 ct1 oc2 kV2 dc2 pm2 cd2 ct2 oc3 kV3 dc3 pm3 cd3 ct3 oc4 kV4 dc4 pm4 cd4 ct4 oc5 kV5 dc5 pm5 cd5 ct5 oc6 kV6 dc6 pm6 cd6 ct6 oc7 kV7 dc7 pm7 cd7 ct7 oc8 kV8 dc8 pm8 cd8 ct8 oc9 kV9 dc9 pm9 cd9 ct9 oc10 kV10 dc10 pm10 cd10 ct10 oc11 kV11 dc11 pm11 cd11 ct11 oc12 kV12 dc12 pm12 cd12 ct12 oc13 kV13 dc13 pm13 cd13 ct13 oc14 kV14 dc14 pm14 cd14 ct14 oc15 kV15 dc15 pm15 cd15 ct15 oc16 kV16 dc16 pm16 cd16 ct16 oc17 kV17 dc17 pm17 cd17 ct17 oc18 kV18 dc18 pm18 cd18 ct18 oc19 kV19 dc19 pm19 cd19 ct19 oc20 kV20 dc20 pm20 cd20 ct20 oc21 kV21 dc21 pm21 cd21 ct21 oc22 kV22 dc22 pm22 cd22 ct22 oc23 kV23 dc23 pm23 cd23 ct23 oc24 kV24 dc24 pm24 cd24 ct24 oc25 kV25 dc25 pm25 cd25 ct25 oc26 kV26 dc26 pm26 cd26 ct26 oc27 kV27 dc27 pm27 cd27 ct27 oc28 kV28 dc28 pm28 cd28 ct28 oc29 kV29 dc29 pm29 cd29 ct29 oc30 kV30 dc30 pm30 cd30 ct30 oc31 kV31 dc31 pm31 cd31 ct31 oc32 kV32 dc32 pm32 cd32 ct32 oc33 kV33 dc33 pm33 cd33 ct33 : Value} {tk0 tk1 tk2 tk3 tk4 tk5 tk6 tk7 tk8 tk9 : Tok}
    (n_C : PySem.W.nsIn K mainGlobals "Memory" = some (some (.ref xC)))
    (n_SC : PySem.W.nsIn K mainGlobals "Memory" = some (some (.ref xSC)))
    (n_NP : PySem.W.nsIn K mainGlobals "NoPage" = some (some (.ref xNP)))
    (n_NL : PySem.W.nsIn K mainGlobals "NoPlace" = some (some (.ref xNL)))
    (n_NW : PySem.W.nsIn K mainGlobals "NoWord" = some (some (.ref xNW)))
    (n_NI : PySem.W.nsIn K mainGlobals "NoImage" = some (some (.ref xNI)))
    (n_NR : PySem.W.nsIn K mainGlobals "NoRow" = some (some (.ref xNR)))
    (n_NF : PySem.W.nsIn K mainGlobals "NoFrame" = some (some (.ref xNF)))
    (n_FA : PySem.W.nsIn K mainGlobals "Fault" = some (some (.ref xFA)))
    (n_HE : PySem.W.nsIn K mainGlobals "HouseError" = some (some (.ref xHE)))
    (a0 : PySem.W.nsIn K mainGlobals "is_whole" = some (some (.ref f0)))
    (l0 : K.lookup f0 = some ⟨oc0, od0, .func (PySem.W.fnOf "is_whole" "is_whole" (defArgs sWhole) (defBody sWhole) (defScope sWhole) .none kV0 dc0 pm0 an0 cd0 ct0), sl0⟩)
    (c0 : PySem.W.codeIn K cd0 "is_whole" = true)
    (k0 : PySem.W.keepIn K (.ref f0) = true)
    (a1 : PySem.W.nsIn K mainGlobals "is_below" = some (some (.ref f1)))
    (l1 : K.lookup f1 = some ⟨oc1, od1, .func (PySem.W.fnOf "is_below" "is_below" (defArgs sBelow) (defBody sBelow) (defScope sBelow) .none kV1 dc1 pm1 an1 cd1 ct1), sl1⟩)
    (c1 : PySem.W.codeIn K cd1 "is_below" = true)
    (k1 : PySem.W.keepIn K (.ref f1) = true)
    (a2 : PySem.W.nsIn K mainGlobals "is_word" = some (some (.ref f2)))
    (l2 : K.lookup f2 = some ⟨oc2, od2, .func (PySem.W.fnOf "is_word" "is_word" (defArgs sWord) (defBody sWord) (defScope sWord) .none kV2 dc2 pm2 an2 cd2 ct2), sl2⟩)
    (c2 : PySem.W.codeIn K cd2 "is_word" = true)
    (k2 : PySem.W.keepIn K (.ref f2) = true)
    (a3 : PySem.W.findIn K (.ref xC) "size" = some (some (.ref f3)))
    (l3 : K.lookup f3 = some ⟨oc3, od3, .func (PySem.W.fnOf "size" "Memory.size" (defArgs sSize) (defBody sSize) (defScope sSize) .none kV3 dc3 pm3 an3 cd3 ct3), sl3⟩)
    (c3 : PySem.W.codeIn K cd3 "Memory.size" = true)
    (k3 : PySem.W.keepIn K (.ref f3) = true)
    (a4 : PySem.W.findIn K (.ref xC) "has" = some (some (.ref f4)))
    (l4 : K.lookup f4 = some ⟨oc4, od4, .func (PySem.W.fnOf "has" "Memory.has" (defArgs sHas) (defBody sHas) (defScope sHas) .none kV4 dc4 pm4 an4 cd4 ct4), sl4⟩)
    (c4 : PySem.W.codeIn K cd4 "Memory.has" = true)
    (k4 : PySem.W.keepIn K (.ref f4) = true)
    (a5 : PySem.W.findIn K (.ref xC) "check_page" = some (some (.ref f5)))
    (l5 : K.lookup f5 = some ⟨oc5, od5, .func (PySem.W.fnOf "check_page" "Store.check_page" (defArgs sCPage) (defBody sCPage) (defScope sCPage) .none kV5 dc5 pm5 an5 cd5 ct5), sl5⟩)
    (c5 : PySem.W.codeIn K cd5 "Store.check_page" = true)
    (k5 : PySem.W.keepIn K (.ref f5) = true)
    (a6 : PySem.W.findIn K (.ref xC) "check_spot" = some (some (.ref f6)))
    (l6 : K.lookup f6 = some ⟨oc6, od6, .func (PySem.W.fnOf "check_spot" "Store.check_spot" (defArgs sSpot) (defBody sSpot) (defScope sSpot) .none kV6 dc6 pm6 an6 cd6 ct6), sl6⟩)
    (c6 : PySem.W.codeIn K cd6 "Store.check_spot" = true)
    (k6 : PySem.W.keepIn K (.ref f6) = true)
    (a7 : PySem.W.findIn K (.ref xC) "word_at" = some (some (.ref f7)))
    (l7 : K.lookup f7 = some ⟨oc7, od7, .func (PySem.W.fnOf "word_at" "Memory.word_at" (defArgs sWordAt) (defBody sWordAt) (defScope sWordAt) .none kV7 dc7 pm7 an7 cd7 ct7), sl7⟩)
    (c7 : PySem.W.codeIn K cd7 "Memory.word_at" = true)
    (k7 : PySem.W.keepIn K (.ref f7) = true)
    (a8 : PySem.W.findIn K (.ref xC) "told" = some (some (.ref f8)))
    (l8 : K.lookup f8 = some ⟨oc8, od8, .func (PySem.W.fnOf "told" "Memory.told" (defArgs sTold) (defBody sTold) (defScope sTold) .none kV8 dc8 pm8 an8 cd8 ct8), sl8⟩)
    (c8 : PySem.W.codeIn K cd8 "Memory.told" = true)
    (k8 : PySem.W.keepIn K (.ref f8) = true)
    (a9 : PySem.W.nsIn K mainGlobals "is_eight_words" = some (some (.ref f9)))
    (l9 : K.lookup f9 = some ⟨oc9, od9, .func (PySem.W.fnOf "is_eight_words" "is_eight_words" (defArgs sEight) (defBody sEight) (defScope sEight) .none kV9 dc9 pm9 an9 cd9 ct9), sl9⟩)
    (c9 : PySem.W.codeIn K cd9 "is_eight_words" = true)
    (k9 : PySem.W.keepIn K (.ref f9) = true)
    (a10 : PySem.W.nsIn K mainGlobals "check_image" = some (some (.ref f10)))
    (l10 : K.lookup f10 = some ⟨oc10, od10, .func (PySem.W.fnOf "check_image" "check_image" (defArgs sImage) (defBody sImage) (defScope sImage) .none kV10 dc10 pm10 an10 cd10 ct10), sl10⟩)
    (c10 : PySem.W.codeIn K cd10 "check_image" = true)
    (k10 : PySem.W.keepIn K (.ref f10) = true)
    (a11 : PySem.W.findIn K (.ref xC) "__init__" = some (some (.ref f11)))
    (l11 : K.lookup f11 = some ⟨oc11, od11, .func (PySem.W.fnOf "__init__" "Memory.__init__" (defArgs sInit) (defBody sInit) (defScope sInit) .none kV11 dc11 pm11 an11 cd11 ct11), sl11⟩)
    (c11 : PySem.W.codeIn K cd11 "Memory.__init__" = true)
    (k11 : PySem.W.keepIn K (.ref f11) = true)
    (a12 : PySem.W.findIn K (.ref xFA) "__init__" = some (some (.ref f12)))
    (l12 : K.lookup f12 = some ⟨oc12, od12, .func (PySem.W.fnOf "__init__" "Fault.__init__" (defArgs sFI) (defBody sFI) (defScope sFI) .none kV12 dc12 pm12 an12 cd12 ct12), sl12⟩)
    (c12 : PySem.W.codeIn K cd12 "Fault.__init__" = true)
    (k12 : PySem.W.keepIn K (.ref f12) = true)
    (a13 : PySem.W.findIn K (.ref xC) "read" = some (some (.ref f13)))
    (l13 : K.lookup f13 = some ⟨oc13, od13, .func (PySem.W.fnOf "read" "Store.read" (defArgs sRead) (defBody sRead) (defScope sRead) .none kV13 dc13 pm13 an13 cd13 ct13), sl13⟩)
    (c13 : PySem.W.codeIn K cd13 "Store.read" = true)
    (k13 : PySem.W.keepIn K (.ref f13) = true)
    (a14 : PySem.W.nsIn K mainGlobals "page_of" = some (some (.ref f14)))
    (l14 : K.lookup f14 = some ⟨oc14, od14, .func (PySem.W.fnOf "page_of" "page_of" (defArgs sPgOf) (defBody sPgOf) (defScope sPgOf) .none kV14 dc14 pm14 an14 cd14 ct14), sl14⟩)
    (c14 : PySem.W.codeIn K cd14 "page_of" = true)
    (k14 : PySem.W.keepIn K (.ref f14) = true)
    (a15 : PySem.W.nsIn K mainGlobals "has" = some (some (.ref f15)))
    (l15 : K.lookup f15 = some ⟨oc15, od15, .func (PySem.W.fnOf "has" "has" (defArgs sRHas) (defBody sRHas) (defScope sRHas) .none kV15 dc15 pm15 an15 cd15 ct15), sl15⟩)
    (c15 : PySem.W.codeIn K cd15 "has" = true)
    (k15 : PySem.W.keepIn K (.ref f15) = true)
    (a16 : PySem.W.nsIn K mainGlobals "rights_of" = some (some (.ref f16)))
    (l16 : K.lookup f16 = some ⟨oc16, od16, .func (PySem.W.fnOf "rights_of" "rights_of" (defArgs sRig) (defBody sRig) (defScope sRig) .none kV16 dc16 pm16 an16 cd16 ct16), sl16⟩)
    (c16 : PySem.W.codeIn K cd16 "rights_of" = true)
    (k16 : PySem.W.keepIn K (.ref f16) = true)
    (a17 : PySem.W.nsIn K mainGlobals "number_of" = some (some (.ref f17)))
    (l17 : K.lookup f17 = some ⟨oc17, od17, .func (PySem.W.fnOf "number_of" "number_of" (defArgs sNum) (defBody sNum) (defScope sNum) .none kV17 dc17 pm17 an17 cd17 ct17), sl17⟩)
    (c17 : PySem.W.codeIn K cd17 "number_of" = true)
    (k17 : PySem.W.keepIn K (.ref f17) = true)
    (a18 : PySem.W.nsIn K mainGlobals "parts_of" = some (some (.ref f18)))
    (l18 : K.lookup f18 = some ⟨oc18, od18, .func (PySem.W.fnOf "parts_of" "parts_of" (defArgs sParts) (defBody sParts) (defScope sParts) .none kV18 dc18 pm18 an18 cd18 ct18), sl18⟩)
    (c18 : PySem.W.codeIn K cd18 "parts_of" = true)
    (k18 : PySem.W.keepIn K (.ref f18) = true)
    (a19 : PySem.W.nsIn K mainGlobals "check_row" = some (some (.ref f19)))
    (l19 : K.lookup f19 = some ⟨oc19, od19, .func (PySem.W.fnOf "check_row" "check_row" (defArgs sCRow) (defBody sCRow) (defScope sCRow) .none kV19 dc19 pm19 an19 cd19 ct19), sl19⟩)
    (c19 : PySem.W.codeIn K cd19 "check_row" = true)
    (k19 : PySem.W.keepIn K (.ref f19) = true)
    (a20 : PySem.W.nsIn K mainGlobals "look" = some (some (.ref f20)))
    (l20 : K.lookup f20 = some ⟨oc20, od20, .func (PySem.W.fnOf "look" "look" (defArgs sLook) (defBody sLook) (defScope sLook) .none kV20 dc20 pm20 an20 cd20 ct20), sl20⟩)
    (c20 : PySem.W.codeIn K cd20 "look" = true)
    (k20 : PySem.W.keepIn K (.ref f20) = true)
    (a21 : PySem.W.nsIn K mainGlobals "_law_cell_at" = some (some (.ref f21)))
    (l21 : K.lookup f21 = some ⟨oc21, od21, .func (PySem.W.fnOf "_law_cell_at" "_law_cell_at" (defArgs sCell) (defBody sCell) (defScope sCell) .none kV21 dc21 pm21 an21 cd21 ct21), sl21⟩)
    (c21 : PySem.W.codeIn K cd21 "_law_cell_at" = true)
    (k21 : PySem.W.keepIn K (.ref f21) = true)
    (a22 : PySem.W.nsIn K mainGlobals "_law_whole" = some (some (.ref f22)))
    (l22 : K.lookup f22 = some ⟨oc22, od22, .func (PySem.W.fnOf "_law_whole" "_law_whole" (defArgs sLWhole) (defBody sLWhole) (defScope sLWhole) .none kV22 dc22 pm22 an22 cd22 ct22), sl22⟩)
    (c22 : PySem.W.codeIn K cd22 "_law_whole" = true)
    (k22 : PySem.W.keepIn K (.ref f22) = true)
    (a23 : PySem.W.nsIn K mainGlobals "_law_mixed" = some (some (.ref f23)))
    (l23 : K.lookup f23 = some ⟨oc23, od23, .func (PySem.W.fnOf "_law_mixed" "_law_mixed" (defArgs sMixed) (defBody sMixed) (defScope sMixed) .none kV23 dc23 pm23 an23 cd23 ct23), sl23⟩)
    (c23 : PySem.W.codeIn K cd23 "_law_mixed" = true)
    (k23 : PySem.W.keepIn K (.ref f23) = true)
    (a24 : PySem.W.nsIn K mainGlobals "_law_row" = some (some (.ref f24)))
    (l24 : K.lookup f24 = some ⟨oc24, od24, .func (PySem.W.fnOf "_law_row" "_law_row" (defArgs sRowL) (defBody sRowL) (defScope sRowL) .none kV24 dc24 pm24 an24 cd24 ct24), sl24⟩)
    (c24 : PySem.W.codeIn K cd24 "_law_row" = true)
    (k24 : PySem.W.keepIn K (.ref f24) = true)
    (a25 : PySem.W.nsIn K mainGlobals "_law_there" = some (some (.ref f25)))
    (l25 : K.lookup f25 = some ⟨oc25, od25, .func (PySem.W.fnOf "_law_there" "_law_there" (defArgs sThere) (defBody sThere) (defScope sThere) .none kV25 dc25 pm25 an25 cd25 ct25), sl25⟩)
    (c25 : PySem.W.codeIn K cd25 "_law_there" = true)
    (k25 : PySem.W.keepIn K (.ref f25) = true)
    (a26 : PySem.W.nsIn K mainGlobals "_law_lack" = some (some (.ref f26)))
    (l26 : K.lookup f26 = some ⟨oc26, od26, .func (PySem.W.fnOf "_law_lack" "_law_lack" (defArgs sLack) (defBody sLack) (defScope sLack) .none kV26 dc26 pm26 an26 cd26 ct26), sl26⟩)
    (c26 : PySem.W.codeIn K cd26 "_law_lack" = true)
    (k26 : PySem.W.keepIn K (.ref f26) = true)
    (a27 : PySem.W.nsIn K mainGlobals "_law_pages" = some (some (.ref f27)))
    (l27 : K.lookup f27 = some ⟨oc27, od27, .func (PySem.W.fnOf "_law_pages" "_law_pages" (defArgs sPages) (defBody sPages) (defScope sPages) .none kV27 dc27 pm27 an27 cd27 ct27), sl27⟩)
    (c27 : PySem.W.codeIn K cd27 "_law_pages" = true)
    (k27 : PySem.W.keepIn K (.ref f27) = true)
    (a28 : PySem.W.nsIn K mainGlobals "_law_copy" = some (some (.ref f28)))
    (l28 : K.lookup f28 = some ⟨oc28, od28, .func (PySem.W.fnOf "_law_copy" "_law_copy" (defArgs sCopy) (defBody sCopy) (defScope sCopy) .none kV28 dc28 pm28 an28 cd28 ct28), sl28⟩)
    (c28 : PySem.W.codeIn K cd28 "_law_copy" = true)
    (k28 : PySem.W.keepIn K (.ref f28) = true)
    (a29 : PySem.W.nsIn K mainGlobals "_law_due" = some (some (.ref f29)))
    (l29 : K.lookup f29 = some ⟨oc29, od29, .func (PySem.W.fnOf "_law_due" "_law_due" (defArgs sDueL) (defBody sDueL) (defScope sDueL) .none kV29 dc29 pm29 an29 cd29 ct29), sl29⟩)
    (c29 : PySem.W.codeIn K cd29 "_law_due" = true)
    (k29 : PySem.W.keepIn K (.ref f29) = true)
    (a30 : PySem.W.nsIn K mainGlobals "_law_found" = some (some (.ref f30)))
    (l30 : K.lookup f30 = some ⟨oc30, od30, .func (PySem.W.fnOf "_law_found" "_law_found" (defArgs sFound) (defBody sFound) (defScope sFound) .none kV30 dc30 pm30 an30 cd30 ct30), sl30⟩)
    (c30 : PySem.W.codeIn K cd30 "_law_found" = true)
    (k30 : PySem.W.keepIn K (.ref f30) = true)
    (a31 : PySem.W.nsIn K mainGlobals "_law_pair" = some (some (.ref f31)))
    (l31 : K.lookup f31 = some ⟨oc31, od31, .func (PySem.W.fnOf "_law_pair" "_law_pair" (defArgs sPair) (defBody sPair) (defScope sPair) .none kV31 dc31 pm31 an31 cd31 ct31), sl31⟩)
    (c31 : PySem.W.codeIn K cd31 "_law_pair" = true)
    (k31 : PySem.W.keepIn K (.ref f31) = true)
    (a32 : PySem.W.nsIn K mainGlobals "_law_same" = some (some (.ref f32)))
    (l32 : K.lookup f32 = some ⟨oc32, od32, .func (PySem.W.fnOf "_law_same" "_law_same" (defArgs sSame) (defBody sSame) (defScope sSame) .none kV32 dc32 pm32 an32 cd32 ct32), sl32⟩)
    (c32 : PySem.W.codeIn K cd32 "_law_same" = true)
    (k32 : PySem.W.keepIn K (.ref f32) = true)
    (a33 : PySem.W.nsIn K mainGlobals "law" = some (some (.ref f33)))
    (l33 : K.lookup f33 = some ⟨oc33, od33, .func (PySem.W.fnOf "law" "law" (defArgs sLaw) (defBody sLaw) (defScope sLaw) .none kV33 dc33 pm33 an33 cd33 ct33), sl33⟩)
    (c33 : PySem.W.codeIn K cd33 "law" = true)
    (k33 : PySem.W.keepIn K (.ref f33) = true)
    (v0 : PySem.W.nsIn K mainGlobals "WORDS" = some (some (.int 281474976710656 tk0)))
    (v1 : PySem.W.nsIn K mainGlobals "CELLS" = some (some (.int 8 tk1)))
    (v2 : PySem.W.nsIn K mainGlobals "MOST_PAGES" = some (some (.int 24 tk2)))
    (v3 : PySem.W.nsIn K mainGlobals "MARKS" = some (some (.int 256 tk3)))
    (v4 : PySem.W.nsIn K mainGlobals "PARTS" = some (some (.int 8 tk4)))
    (v5 : PySem.W.nsIn K mainGlobals "PLACES" = some (some (.int 512 tk5)))
    (v6 : PySem.W.nsIn K mainGlobals "PRESENT" = some (some (.int 1 tk6)))
    (v7 : PySem.W.nsIn K mainGlobals "WRITABLE" = some (some (.int 2 tk7)))
    (v8 : PySem.W.nsIn K mainGlobals "KERNEL" = some (some (.int 4 tk8)))
    (v9 : PySem.W.nsIn K mainGlobals "SOILED" = some (some (.int 16 tk9)))
    (z_isinstance : PySem.W.nsIn K mainGlobals "isinstance" = some none)
    (z_int : PySem.W.nsIn K mainGlobals "int" = some none)
    (z_bool : PySem.W.nsIn K mainGlobals "bool" = some none)
    (z_list : PySem.W.nsIn K mainGlobals "list" = some none)
    (z_len : PySem.W.nsIn K mainGlobals "len" = some none)
    (z_all : PySem.W.nsIn K mainGlobals "all" = some none)
    (z_range : PySem.W.nsIn K mainGlobals "range" = some none)
    (z_tuple : PySem.W.nsIn K mainGlobals "tuple" = some none)
    (z_str : PySem.W.nsIn K mainGlobals "str" = some none)
    (z_min : PySem.W.nsIn K mainGlobals "min" = some none)
    (z_max : PySem.W.nsIn K mainGlobals "max" = some none)
    (z_ValueError : PySem.W.nsIn K mainGlobals "ValueError" = some none)
    (xi_NP : L2.excIn K xNP = true)
    (xi_NL : L2.excIn K xNL = true)
    (xi_NW : L2.excIn K xNW = true)
    (xi_NI : L2.excIn K xNI = true)
    (nh : PySem.W.findIn K (.ref xC) "held" = some none)
    (nfk : PySem.W.findIn K (.ref xFA) "kind" = some none)
    (nfp : PySem.W.findIn K (.ref xFA) "place" = some none)
    (nfl : PySem.W.findIn K (.ref xFA) "level" = some none)
    (fsa : PySem.W.findIn K (.ref xFA) "__setattr__" = some (some (.builtin "object.__setattr__")))
    (fov : L2.overIn K xFA = true)
    (fhd : PySem.W.hasDictIn K xFA = true)
    (fga : PySem.W.findIn K (.ref xFA) "__getattribute__" = some (some (.builtin "BaseException.__getattribute__")))
    (fgh : PySem.W.findIn K (.ref xFA) "__getattr__" = some none)
    (fmb : PySem.W.mroIn K xFA (.type "BaseException") = some true)
    (fxm : PySem.W.exmOne K (.ref xFA) (.ref xFA) = some true)
    (k_e1 : PySem.W.findIn K (.ref xFA) "__getattribute__" = some (some (.builtin "BaseException.__getattribute__")))
    (k_e2 : PySem.W.findIn K (.ref xFA) "__getattr__" = some none)
    (k_e3 : PySem.W.findIn K (.ref xFA) "__class__" = some (some (.builtin "object.__class__")))
    (k_e4 : PySem.W.specialIn K (.builtin "object.__class__") "__get__" = some (some (.builtin "getset_descriptor.__get__")))
    (k_e5 : PySem.W.takesIn K (.builtin "object.__class__") = some true)
    (k_e6 : PySem.W.mroIn K xFA (.type "object") = some true)
    (k_e7 : PySem.W.mroIn K xFA (.type "BaseException") = some true)
    (k_t4 : PySem.W.subIn K (.ref xFA) (.type "ValueError") = some true)
    (u_NP : PySem.W.kin_not K xFA xNP = true)
    (u_NL : PySem.W.kin_not K xFA xNL = true)
    (u_NW : PySem.W.kin_not K xFA xNW = true)
    (u_NR : PySem.W.kin_not K xFA xNR = true)
    (u_NI : PySem.W.kin_not K xFA xNI = true)
    (u_NF : PySem.W.kin_not K xFA xNF = true)
    (he1 : PySem.W.typeIn K (.ref xHE) = some (.type "type"))
    (he2 : PySem.W.mroIn K xHE (.type "object") = some true)
    (he3 : PySem.W.subIn K (.ref xFA) (.ref xHE) = some true)
    (fex : L2.excInI K xFA f12 = true)
    (i3 : PySem.W.isFn K (.ref f3) = true)
    (i4 : PySem.W.isFn K (.ref f4) = true)
    (i5 : PySem.W.isFn K (.ref f5) = true)
    (i6 : PySem.W.isFn K (.ref f6) = true)
    (i7 : PySem.W.isFn K (.ref f7) = true)
    (i8 : PySem.W.isFn K (.ref f8) = true)
    (i11 : PySem.W.isFn K (.ref f11) = true)
    (i12 : PySem.W.isFn K (.ref f12) = true)
    (i13 : PySem.W.isFn K (.ref f13) = true)
    (pg_C : PySem.W.plainGet K xC Str.empty = true)
    (hd_C : PySem.W.hasDictIn K xC = true)
    (po_C : PySem.W.plainOver K xC = true)
    (sa_C : PySem.W.findIn K (.ref xC) "__setattr__" = some (some (.builtin "object.__setattr__")))
    (mk_C : PySem.W.makesIn K xC = true)
    (kc_C : PySem.W.keepIn K (.ref xC) = true)
    : ∃ fd : FuncData, (∀ (s : Shared) (v : Value), BindsTo s fd ⟨[v], []⟩ [("_law_script", v)]) ∧ ∀ base : Heap, K.In base → base.Ns mainGlobals mg → FnOk l.prog w K mg base CX0 10 fa fd ["_law_script"] (spLaw K) := by
  have e := hfa.symm.trans (PySem.W.mg_of X G a33)
  cases e
  have F0 := fun_mk (st := sWhole) l0 c0 k0
  have D0 : Dn K mg "is_whole" sWhole ["thing"] f0 _ := ⟨F0, PySem.W.mg_of X G a0, F0.binds (ps := ["thing"]) fun _ _ _ _ _ _ us hl => ba1 (fun _ => rfl) us hl⟩
  have F1 := fun_mk (st := sBelow) l1 c1 k1
  have D1 : Dn K mg "is_below" sBelow ["thing", "bound"] f1 _ := ⟨F1, PySem.W.mg_of X G a1, F1.binds (ps := ["thing", "bound"]) fun _ _ _ _ _ _ us hl => ba2 (fun _ _ => rfl) us hl⟩
  have F2 := fun_mk (st := sWord) l2 c2 k2
  have D2 : Dn K mg "is_word" sWord ["thing"] f2 _ := ⟨F2, PySem.W.mg_of X G a2, F2.binds (ps := ["thing"]) fun _ _ _ _ _ _ us hl => ba1 (fun _ => rfl) us hl⟩
  have F3 := fun_mk (st := sSize) l3 c3 k3
  have B3 := F3.binds (ps := ["self"]) fun _ _ _ _ _ _ us hl => ba1 (fun _ => rfl) us hl
  have F4 := fun_mk (st := sHas) l4 c4 k4
  have B4 := F4.binds (ps := ["self", "page"]) fun _ _ _ _ _ _ us hl => ba2 (fun _ _ => rfl) us hl
  have F5 := fun_mk (st := sCPage) l5 c5 k5
  have B5 := F5.binds (ps := ["self", "page"]) fun _ _ _ _ _ _ us hl => ba2 (fun _ _ => rfl) us hl
  have F6 := fun_mk (st := sSpot) l6 c6 k6
  have B6 := F6.binds (ps := ["self", "page", "cell"]) fun _ _ _ _ _ _ us hl => ba3 (fun _ _ _ => rfl) us hl
  have F7 := fun_mk (st := sWordAt) l7 c7 k7
  have B7 := F7.binds (ps := ["self", "page", "cell"]) fun _ _ _ _ _ _ us hl => ba3 (fun _ _ _ => rfl) us hl
  have F8 := fun_mk (st := sTold) l8 c8 k8
  have B8 := F8.binds (ps := ["self"]) fun _ _ _ _ _ _ us hl => ba1 (fun _ => rfl) us hl
  have F9 := fun_mk (st := sEight) l9 c9 k9
  have D9 : Dn K mg "is_eight_words" sEight ["thing"] f9 _ := ⟨F9, PySem.W.mg_of X G a9, F9.binds (ps := ["thing"]) fun _ _ _ _ _ _ us hl => ba1 (fun _ => rfl) us hl⟩
  have F10 := fun_mk (st := sImage) l10 c10 k10
  have D10 : Dn K mg "check_image" sImage ["pages"] f10 _ := ⟨F10, PySem.W.mg_of X G a10, F10.binds (ps := ["pages"]) fun _ _ _ _ _ _ us hl => ba1 (fun _ => rfl) us hl⟩
  have F11 := fun_mk (st := sInit) l11 c11 k11
  have B11 := F11.binds (ps := ["self", "pages"]) fun _ _ _ _ _ _ us hl => ba2 (fun _ _ => rfl) us hl
  have F12 := fun_mk (st := sFI) l12 c12 k12
  have B12 := F12.binds (ps := ["self", "kind", "place", "level"]) fun _ _ _ _ _ _ us hl => ba4 (fun _ _ _ _ => rfl) us hl
  have F13 := fun_mk (st := sRead) l13 c13 k13
  have B13 := F13.binds (ps := ["self", "page", "cell"]) fun _ _ _ _ _ _ us hl => ba3 (fun _ _ _ => rfl) us hl
  have F14 := fun_mk (st := sPgOf) l14 c14 k14
  have D14 : Dn K mg "page_of" sPgOf ["row"] f14 _ := ⟨F14, PySem.W.mg_of X G a14, F14.binds (ps := ["row"]) fun _ _ _ _ _ _ us hl => ba1 (fun _ => rfl) us hl⟩
  have F15 := fun_mk (st := sRHas) l15 c15 k15
  have D15 : Dn K mg "has" sRHas ["row", "marks"] f15 _ := ⟨F15, PySem.W.mg_of X G a15, F15.binds (ps := ["row", "marks"]) fun _ _ _ _ _ _ us hl => ba2 (fun _ _ => rfl) us hl⟩
  have F16 := fun_mk (st := sRig) l16 c16 k16
  have D16 : Dn K mg "rights_of" sRig ["top_row", "low_row"] f16 _ := ⟨F16, PySem.W.mg_of X G a16, F16.binds (ps := ["top_row", "low_row"]) fun _ _ _ _ _ _ us hl => ba2 (fun _ _ => rfl) us hl⟩
  have F17 := fun_mk (st := sNum) l17 c17 k17
  have D17 : Dn K mg "number_of" sNum ["place"] f17 _ := ⟨F17, PySem.W.mg_of X G a17, F17.binds (ps := ["place"]) fun _ _ _ _ _ _ us hl => ba1 (fun _ => rfl) us hl⟩
  have F18 := fun_mk (st := sParts) l18 c18 k18
  have D18 : Dn K mg "parts_of" sParts ["place"] f18 _ := ⟨F18, PySem.W.mg_of X G a18, F18.binds (ps := ["place"]) fun _ _ _ _ _ _ us hl => ba1 (fun _ => rfl) us hl⟩
  have F19 := fun_mk (st := sCRow) l19 c19 k19
  have D19 : Dn K mg "check_row" sCRow ["store", "row", "write", "kernel", "place", "level"] f19 _ := ⟨F19, PySem.W.mg_of X G a19, F19.binds (ps := ["store", "row", "write", "kernel", "place", "level"]) fun _ _ _ _ _ _ us hl => ba6 (fun _ _ _ _ _ _ => rfl) us hl⟩
  have F20 := fun_mk (st := sLook) l20 c20 k20
  have D20 : Dn K mg "look" sLook ["store", "root", "place", "write", "kernel"] f20 _ := ⟨F20, PySem.W.mg_of X G a20, F20.binds (ps := ["store", "root", "place", "write", "kernel"]) fun _ _ _ _ _ _ us hl => ba5 (fun _ _ _ _ _ => rfl) us hl⟩
  have F21 := fun_mk (st := sCell) l21 c21 k21
  have D21 : Dn K mg "_law_cell_at" sCell ["_law_script", "_law_k"] f21 _ := ⟨F21, PySem.W.mg_of X G a21, F21.binds (ps := ["_law_script", "_law_k"]) fun _ _ _ _ _ _ us hl => ba2 (fun _ _ => rfl) us hl⟩
  have F22 := fun_mk (st := sLWhole) l22 c22 k22
  have D22 : Dn K mg "_law_whole" sLWhole ["_law_found_here"] f22 _ := ⟨F22, PySem.W.mg_of X G a22, F22.binds (ps := ["_law_found_here"]) fun _ _ _ _ _ _ us hl => ba1 (fun _ => rfl) us hl⟩
  have F23 := fun_mk (st := sMixed) l23 c23 k23
  have D23 : Dn K mg "_law_mixed" sMixed ["_law_cell", "_law_k"] f23 _ := ⟨F23, PySem.W.mg_of X G a23, F23.binds (ps := ["_law_cell", "_law_k"]) fun _ _ _ _ _ _ us hl => ba2 (fun _ _ => rfl) us hl⟩
  have F24 := fun_mk (st := sRowL) l24 c24 k24
  have D24 : Dn K mg "_law_row" sRowL ["_law_cell", "_law_k", "_law_size"] f24 _ := ⟨F24, PySem.W.mg_of X G a24, F24.binds (ps := ["_law_cell", "_law_k", "_law_size"]) fun _ _ _ _ _ _ us hl => ba3 (fun _ _ _ => rfl) us hl⟩
  have F25 := fun_mk (st := sThere) l25 c25 k25
  have D25 : Dn K mg "_law_there" sThere ["_law_pages_here", "_law_page"] f25 _ := ⟨F25, PySem.W.mg_of X G a25, F25.binds (ps := ["_law_pages_here", "_law_page"]) fun _ _ _ _ _ _ us hl => ba2 (fun _ _ => rfl) us hl⟩
  have F26 := fun_mk (st := sLack) l26 c26 k26
  have D26 : Dn K mg "_law_lack" sLack ["_law_pages_here", "_law_row_here", "_law_write", "_law_kernel"] f26 _ := ⟨F26, PySem.W.mg_of X G a26, F26.binds (ps := ["_law_pages_here", "_law_row_here", "_law_write", "_law_kernel"]) fun _ _ _ _ _ _ us hl => ba4 (fun _ _ _ _ => rfl) us hl⟩
  have F27 := fun_mk (st := sPages) l27 c27 k27
  have D27 : Dn K mg "_law_pages" sPages ["_law_cell", "_law_size"] f27 _ := ⟨F27, PySem.W.mg_of X G a27, F27.binds (ps := ["_law_cell", "_law_size"]) fun _ _ _ _ _ _ us hl => ba2 (fun _ _ => rfl) us hl⟩
  have F28 := fun_mk (st := sCopy) l28 c28 k28
  have D28 : Dn K mg "_law_copy" sCopy ["_law_pages_here"] f28 _ := ⟨F28, PySem.W.mg_of X G a28, F28.binds (ps := ["_law_pages_here"]) fun _ _ _ _ _ _ us hl => ba1 (fun _ => rfl) us hl⟩
  have F29 := fun_mk (st := sDueL) l29 c29 k29
  have D29 : Dn K mg "_law_due" sDueL ["_law_pages_here", "_law_root", "_law_place", "_law_write", "_law_kernel"] f29 _ := ⟨F29, PySem.W.mg_of X G a29, F29.binds (ps := ["_law_pages_here", "_law_root", "_law_place", "_law_write", "_law_kernel"]) fun _ _ _ _ _ _ us hl => ba5 (fun _ _ _ _ _ => rfl) us hl⟩
  have F30 := fun_mk (st := sFound) l30 c30 k30
  have D30 : Dn K mg "_law_found" sFound ["_law_store", "_law_root", "_law_place", "_law_write", "_law_kernel"] f30 _ := ⟨F30, PySem.W.mg_of X G a30, F30.binds (ps := ["_law_store", "_law_root", "_law_place", "_law_write", "_law_kernel"]) fun _ _ _ _ _ _ us hl => ba5 (fun _ _ _ _ _ => rfl) us hl⟩
  have F31 := fun_mk (st := sPair) l31 c31 k31
  have D31 : Dn K mg "_law_pair" sPair ["_law_found_here", "_law_due_here"] f31 _ := ⟨F31, PySem.W.mg_of X G a31, F31.binds (ps := ["_law_found_here", "_law_due_here"]) fun _ _ _ _ _ _ us hl => ba2 (fun _ _ => rfl) us hl⟩
  have F32 := fun_mk (st := sSame) l32 c32 k32
  have D32 : Dn K mg "_law_same" sSame ["_law_found_here", "_law_due_here"] f32 _ := ⟨F32, PySem.W.mg_of X G a32, F32.binds (ps := ["_law_found_here", "_law_due_here"]) fun _ _ _ _ _ _ us hl => ba2 (fun _ _ => rfl) us hl⟩
  have F33 := fun_mk (st := sLaw) l33 c33 k33
  have D33 : Dn K mg "law" sLaw ["_law_script"] fa _ := ⟨F33, PySem.W.mg_of X G a33, F33.binds (ps := ["_law_script"]) fun _ _ _ _ _ _ us hl => ba1 (fun _ => rfl) us hl⟩
  have T : Txt K mg := ⟨PySem.W.mg_none_of X G z_isinstance, PySem.W.mg_none_of X G z_int, PySem.W.mg_none_of X G z_bool, PySem.W.mg_none_of X G z_list, PySem.W.mg_none_of X G z_len, PySem.W.mg_none_of X G z_all, PySem.W.mg_none_of X G z_range⟩
  have S0 : Sto K mg xC xNP xNL xNW xNI := ⟨⟨pg_C, hd_C, po_C, sa_C⟩, nh, ⟨tk0, PySem.W.mg_of X G v0⟩, ⟨tk1, PySem.W.mg_of X G v1⟩, ⟨tk2, PySem.W.mg_of X G v2⟩, PySem.W.mg_of X G n_NP, xi_NP, PySem.W.mg_of X G n_NL, xi_NL, PySem.W.mg_of X G n_NW, xi_NW, PySem.W.mg_of X G n_NI, xi_NI⟩
  have RR : Rws0 K mg := ⟨⟨tk3, PySem.W.mg_of X G v3⟩, ⟨tk4, PySem.W.mg_of X G v4⟩, ⟨tk5, PySem.W.mg_of X G v5⟩, ⟨tk6, PySem.W.mg_of X G v6⟩, ⟨tk7, PySem.W.mg_of X G v7⟩, ⟨tk8, PySem.W.mg_of X G v8⟩, ⟨tk9, PySem.W.mg_of X G v9⟩⟩
  have PC : Plc K xC := ⟨⟨pg_C, hd_C, po_C, sa_C⟩⟩
  have FL : Flt K mg xFA f12 := ⟨⟨fsa, fov, fhd, fga, fgh, fmb⟩, nfk, nfp, nfl, fex, i12, PySem.W.mg_of X G n_FA⟩
  have XF : PySem.W.exmOne K (.ref xFA) (.ref xFA) = some true := fxm
  have ek : EX.Cls K xFA := ⟨k_e1, k_e2, k_e3, k_e4, k_e5, k_e6, k_e7⟩
  have KF0 : Kf K mg xFA xHE xNP xNL xNW xNR xNI xNF := ⟨PySem.W.mg_of X G n_NP, PySem.W.mg_of X G n_NL, PySem.W.mg_of X G n_NW, PySem.W.mg_of X G n_NR, PySem.W.mg_of X G n_NI, PySem.W.mg_of X G n_NF, PySem.W.mg_of X G n_HE, PySem.W.mg_none_of X G z_ValueError, ⟨ek, .inl ⟨_, rfl, rfl, u_NP⟩⟩, ⟨ek, .inl ⟨_, rfl, rfl, u_NL⟩⟩, ⟨ek, .inl ⟨_, rfl, rfl, u_NW⟩⟩, ⟨ek, .inl ⟨_, rfl, rfl, u_NR⟩⟩, ⟨ek, .inl ⟨_, rfl, rfl, u_NI⟩⟩, ⟨ek, .inl ⟨_, rfl, rfl, u_NF⟩⟩, ⟨ek, .inr (.inl ⟨_, rfl, rfl, he1, he2, he3⟩)⟩, ⟨ek, .inr (.inr ⟨_, rfl, rfl, by kernel_rfl, k_t4⟩)⟩⟩
  have M3_C : Me K xC "size" "Memory.size" sSize ["self"] f3 _ := ⟨F3, ⟨a3, i3, k3⟩, B3⟩
  have M4_C : Me K xC "has" "Memory.has" sHas ["self", "page"] f4 _ := ⟨F4, ⟨a4, i4, k4⟩, B4⟩
  have M5_C : Me K xC "check_page" "Store.check_page" sCPage ["self", "page"] f5 _ := ⟨F5, ⟨a5, i5, k5⟩, B5⟩
  have M6_C : Me K xC "check_spot" "Store.check_spot" sSpot ["self", "page", "cell"] f6 _ := ⟨F6, ⟨a6, i6, k6⟩, B6⟩
  have M7_C : Me K xC "word_at" "Memory.word_at" sWordAt ["self", "page", "cell"] f7 _ := ⟨F7, ⟨a7, i7, k7⟩, B7⟩
  have M8_C : Me K xC "told" "Memory.told" sTold ["self"] f8 _ := ⟨F8, ⟨a8, i8, k8⟩, B8⟩
  have M13_C : Me K xC "read" "Store.read" sRead ["self", "page", "cell"] f13 _ := ⟨F13, ⟨a13, i13, k13⟩, B13⟩
  refine ⟨PySem.W.fnOf "law" "law" (defArgs sLaw) (defBody sLaw) (defScope sLaw) .none kV33 dc33 pm33 an33 cd33 ct33, fun s v => .of_eq rfl, fun base _ _ => ?_⟩
  have g0_whole : FnOk l.prog w K mg base CX0 1 f0 _ ["thing"] spWhole := ok_whole F0 T
  have g1_below : FnOk l.prog w K mg base CX0 2 f1 _ ["thing", "bound"] spBelow := ok_below F1 D0 T
  have g2_word : FnOk l.prog w K mg base CX0 3 f2 _ ["thing"] spWord := ok_word F2 D1 g1_below S0
  have g3_size : FnOk l.prog w K mg base CX0 1 f3 _ ["self"] (spSize xC) := ok_size F3 S0 T
  have g4_has : FnOk l.prog w K mg base CX0 3 f4 _ ["self", "page"] (spHas xC) := ok_has F4 D1 g1_below M3_C g3_size S0
  have g5_cpage : FnOk l.prog w K mg base (CXr l.prog w) 4 f5 _ ["self", "page"] (spCPage xC xNP) := ok_cpage F5 M4_C g4_has S0
  have g6_spot : FnOk l.prog w K mg base (CXr l.prog w) 5 f6 _ ["self", "page", "cell"] (spSpot xC xNP xNL) := ok_spot F6 D1 g1_below M5_C g5_cpage S0
  have g7_wordat : FnOk l.prog w K mg base CX0 1 f7 _ ["self", "page", "cell"] (spWordAt xC) := ok_wordat F7 S0
  have g8_told : FnOk l.prog w K mg base CX0 1 f8 _ ["self"] (spTold xC) := ok_told F8 S0 T
  have g9_eight : FnOk l.prog w K mg base CX0 4 f9 _ ["thing"] spEight := ok_eight F9 D2 g2_word S0 T
  have g10_image : FnOk l.prog w K mg base (CXr l.prog w) 5 f10 _ ["pages"] spImage := ok_image F10 D9 g9_eight S0 T
  have g11_init : FnOk l.prog w K mg base (CXr l.prog w) 6 f11 _ ["self", "pages"] (spInit xC) := ok_init F11 D10 g10_image S0 T
  have g12_finit : FnOk l.prog w K mg base CX0 1 f12 _ ["self", "kind", "place", "level"] (spXI xFA 3 ffF) := ok_finit F12 FL
  have g4_phas : FnOk l.prog w K mg base CX0 4 f4 _ ["self", "page"] (spPHas xC xSC) := ok_phas F4 D1 g1_below M3_C g3_size S0
  have g13_wread : FnOk l.prog w K mg base (CXr l.prog w) 7 f13 _ ["self", "page", "cell"] (spWRead xC xSC xNP xNL) := ok_wread F13 M6_C g6_spot M7_C g7_wordat S0
  have g14_pgof : FnOk l.prog w K mg base CX0 1 f14 _ ["row"] spPgOf := ok_pgof F14 RR
  have g15_rhas : FnOk l.prog w K mg base CX0 1 f15 _ ["row", "marks"] spRHas := ok_rhas F15 RR
  have g16_rig : FnOk l.prog w K mg base CX0 1 f16 _ ["top_row", "low_row"] spRig := ok_rig F16 RR
  have g17_num : FnOk l.prog w K mg base CX0 3 f17 _ ["place"] spNum := ok_num F17 D1 g1_below RR
  have g18_parts : FnOk l.prog w K mg base CX0 4 f18 _ ["place"] spParts := ok_parts F18 D17 g17_num RR
  have g19_crow : FnOk l.prog w K mg base (CXr l.prog w) 5 f19 _ ["store", "row", "write", "kernel", "place", "level"] (spCRow xC xSC xFA) := ok_crow F19 D15 g15_rhas D14 g14_pgof M4_C g4_phas FL g12_finit B12 PC RR
  have g20_look : FnOk l.prog w K mg base (CXr l.prog w) 8 f20 _ ["store", "root", "place", "write", "kernel"] (spLook xC xSC xFA) := ok_look F20 D18 g18_parts D14 g14_pgof D16 g16_rig M4_C g4_phas M13_C g13_wread D19 g19_crow FL g12_finit B12 PC RR
  have g21_cell : FnOk l.prog w K mg base CX0 1 f21 _ ["_law_script", "_law_k"] (spCell K) := ok_cell F21 T
  have g22_lwhole : FnOk l.prog w K mg base CX0 1 f22 _ ["_law_found_here"] spWhole := ok_lwhole F22 T
  have g23_mixed : FnOk l.prog w K mg base CX0 1 f23 _ ["_law_cell", "_law_k"] spMixed := ok_mixed F23
  have g24_rowl : FnOk l.prog w K mg base CX0 2 f24 _ ["_law_cell", "_law_k", "_law_size"] spRowL := ok_rowl F24 D23 g23_mixed T
  have g25_there : FnOk l.prog w K mg base CX0 1 f25 _ ["_law_pages_here", "_law_page"] spThere := ok_there F25 T
  have g26_lack : FnOk l.prog w K mg base CX0 2 f26 _ ["_law_pages_here", "_law_row_here", "_law_write", "_law_kernel"] spLack := ok_lack F26 D25 g25_there
  have g27_pages : FnOk l.prog w K mg base CX0 3 f27 _ ["_law_cell", "_law_size"] spPages := ok_pages F27 D23 g23_mixed D24 g24_rowl T
  have g28_copy : FnOk l.prog w K mg base CX0 1 f28 _ ["_law_pages_here"] spCopy := ok_copy F28 T
  have g29_duel : FnOk l.prog w K mg base CX0 3 f29 _ ["_law_pages_here", "_law_root", "_law_place", "_law_write", "_law_kernel"] spDueL := ok_duel F29 D25 g25_there D26 g26_lack T ⟨PySem.W.mg_none_of X G z_min, PySem.W.mg_none_of X G z_max⟩
  have g30_found : FnOk l.prog w K mg base CX0 9 f30 _ ["_law_store", "_law_root", "_law_place", "_law_write", "_law_kernel"] (spFound xC) := ok_found F30 D20 g20_look FL XF KF0 T
  have g31_pair : FnOk l.prog w K mg base CX0 2 f31 _ ["_law_found_here", "_law_due_here"] spPair := ok_pair F31 D22 g22_lwhole T (PySem.W.mg_none_of X G z_tuple)
  have g32_same : FnOk l.prog w K mg base CX0 3 f32 _ ["_law_found_here", "_law_due_here"] spSame := ok_same F32 D22 g22_lwhole D31 g31_pair T ⟨PySem.W.mg_none_of X G z_tuple, PySem.W.mg_none_of X G z_str⟩
  exact ok_law F33 D21 g21_cell D27 g27_pages D28 g28_copy D23 g23_mixed D29 g29_duel D30 g30_found D32 g32_same M8_C g8_told ⟨mk_C, a11, i11, kc_C⟩ (PySem.W.mg_of X G n_C) B11 g11_init S0 T
theorem walk {l : PySem.W.OpenLaw} {q : Program} {loose : List Str} {XP : (Str → Option Value) → Heap → Prop} {YP : World → Heap → Prop} {d : DefRec} {K : Params → PySem.W.Frag} (hn : l.most = some 63) (hdf : d.params.defaults = [])
    (hY : ∀ (w : World) (h : Heap), YP w h → (K w.params).In h)
    (F : ∀ (w : World) (mg : Str → Option Value) (fa : Addr) (h : Heap), (K w.params).In h → h.Ns mainGlobals mg → mg d.name = some (.ref fa) →
      ∃ fd : FuncData, (∀ (s : Shared) (u : Value), BindsTo s fd ⟨[u], []⟩ [("_law_script", u)]) ∧ ∀ base : Heap, (K w.params).In base → base.Ns mainGlobals mg → FnOk l.prog w (K w.params) mg base CX0 10 fa fd ["_law_script"] (spLaw (K w.params))) :
    PySem.W.WalkO q loose XP YP l.row.toRowW d [] (fun f vs => PySem.call f vs) :=
  L2.walk_of (n := 63) (k := 10) (x := "_law_script") (CX := fun _ => CX0) (sp := fun w => spLaw (K w.params)) hn (by decide) hdf ⟨rfl, by decide, by decide⟩ hY F (fun _ _ a ns hl _ hS => ⟨a, ns, rfl, hS, hl, fun _ => rfl⟩) fun _ _ _ _ _ z => z
end K14
open PySem PySem.W PyProof.Rows
set_option maxRecDepth 100000 in
set_option maxHeartbeats 0 in
theorem PySem.Challenge.cw_shadowpages_k14_looked_at_holds : PySem.Challenge.rw_shadowpages_k14_looked_at.Holds := by
  w_on; o_law
  refine holds_open (q := K14.vw) (loose := []) (Xt := fun s => xlAt K14.vw [] s && recOk [] s) (XP := XL K14.vw []) (Yf := Hook.obs (kHook K14.KF K14.asF K14.hF)) (Ya := Hook.val (kHook K14.KF K14.asF K14.hF)) (YP := Hook.says (kHook K14.KF K14.asF K14.hF)) (N := 7392) ?hl (Hook.of (kHook K14.KF K14.asF K14.hF)) (Hook.keeps (kHook K14.KF K14.asF K14.hF)) (fun s e => xl_of s (Bool.and_eq_true_iff.mp e).1) XL.keeps (by rfl) (by rfl) (by rfl) (fun s e => recFacts_of (Bool.and_eq_true_iff.mp e).2) (by rfl) (by first | assumption | decide +kernel) (by decide +kernel) ⟨rfl, rfl, rfl, rfl, rfl, by decide +kernel⟩ ?hw ?hc
  case hl => exact K14.hl
  case hw => w_witness2
  k_fill
  refine K14.walk (l := PySem.Challenge.rw_shadowpages_k14_looked_at) rfl rfl (fun w h Y => PySem.W.kIn_of Y) ?F
  case F =>
    intro w mg fa h KX G hmg
    refine' K14.all_mk KX G hmg ?n_C ?n_SC ?n_NP ?n_NL ?n_NW ?n_NI ?n_NR ?n_NF ?n_FA ?n_HE ?a0 ?l0 ?c0 ?k0 ?a1 ?l1 ?c1 ?k1 ?a2 ?l2 ?c2 ?k2 ?a3 ?l3 ?c3 ?k3 ?a4 ?l4 ?c4 ?k4 ?a5 ?l5 ?c5 ?k5 ?a6 ?l6 ?c6 ?k6 ?a7 ?l7 ?c7 ?k7 ?a8 ?l8 ?c8 ?k8 ?a9 ?l9 ?c9 ?k9 ?a10 ?l10 ?c10 ?k10 ?a11 ?l11 ?c11 ?k11 ?a12 ?l12 ?c12 ?k12 ?a13 ?l13 ?c13 ?k13 ?a14 ?l14 ?c14 ?k14 ?a15 ?l15 ?c15 ?k15 ?a16 ?l16 ?c16 ?k16 ?a17 ?l17 ?c17 ?k17 ?a18 ?l18 ?c18 ?k18 ?a19 ?l19 ?c19 ?k19 ?a20 ?l20 ?c20 ?k20 ?a21 ?l21 ?c21 ?k21 ?a22 ?l22 ?c22 ?k22 ?a23 ?l23 ?c23 ?k23 ?a24 ?l24 ?c24 ?k24 ?a25 ?l25 ?c25 ?k25 ?a26 ?l26 ?c26 ?k26 ?a27 ?l27 ?c27 ?k27 ?a28 ?l28 ?c28 ?k28 ?a29 ?l29 ?c29 ?k29 ?a30 ?l30 ?c30 ?k30 ?a31 ?l31 ?c31 ?k31 ?a32 ?l32 ?c32 ?k32 ?a33 ?l33 ?c33 ?k33 ?v0 ?v1 ?v2 ?v3 ?v4 ?v5 ?v6 ?v7 ?v8 ?v9 ?z_isinstance ?z_int ?z_bool ?z_list ?z_len ?z_all ?z_range ?z_tuple ?z_str ?z_min ?z_max ?z_ValueError ?xi_NP ?xi_NL ?xi_NW ?xi_NI ?nh ?nfk ?nfp ?nfl ?fsa ?fov ?fhd ?fga ?fgh ?fmb ?fxm ?k_e1 ?k_e2 ?k_e3 ?k_e4 ?k_e5 ?k_e6 ?k_e7 ?k_t4 ?u_NP ?u_NL ?u_NW ?u_NR ?u_NI ?u_NF ?he1 ?he2 ?he3 ?fex ?i3 ?i4 ?i5 ?i6 ?i7 ?i8 ?i11 ?i12 ?i13 ?pg_C ?hd_C ?po_C ?sa_C ?mk_C ?kc_C
    (case n_C => k_is)
    (case n_SC => k_is)
    (case n_NP => k_is)
    (case n_NL => k_is)
    (case n_NW => k_is)
    (case n_NI => k_is)
    (case n_NR => k_is)
    (case n_NF => k_is)
    (case n_FA => k_is)
    (case n_HE => k_is)
    (case a0 => k_is)
    (case l0 => k_is)
    (case c0 => k_is)
    (case k0 => k_is)
    (case a1 => k_is)
    (case l1 => k_is)
    (case c1 => k_is)
    (case k1 => k_is)
    (case a2 => k_is)
    (case l2 => k_is)
    (case c2 => k_is)
    (case k2 => k_is)
    (case a3 => k_is)
    (case l3 => k_is)
    (case c3 => k_is)
    (case k3 => k_is)
    (case a4 => k_is)
    (case l4 => k_is)
    (case c4 => k_is)
    (case k4 => k_is)
    (case a5 => k_is)
    (case l5 => k_is)
    (case c5 => k_is)
    (case k5 => k_is)
    (case a6 => k_is)
    (case l6 => k_is)
    (case c6 => k_is)
    (case k6 => k_is)
    (case a7 => k_is)
    (case l7 => k_is)
    (case c7 => k_is)
    (case k7 => k_is)
    (case a8 => k_is)
    (case l8 => k_is)
    (case c8 => k_is)
    (case k8 => k_is)
    (case a9 => k_is)
    (case l9 => k_is)
    (case c9 => k_is)
    (case k9 => k_is)
    (case a10 => k_is)
    (case l10 => k_is)
    (case c10 => k_is)
    (case k10 => k_is)
    (case a11 => k_is)
    (case l11 => k_is)
    (case c11 => k_is)
    (case k11 => k_is)
    (case a12 => k_is)
    (case l12 => k_is)
    (case c12 => k_is)
    (case k12 => k_is)
    (case a13 => k_is)
    (case l13 => k_is)
    (case c13 => k_is)
    (case k13 => k_is)
    (case a14 => k_is)
    (case l14 => k_is)
    (case c14 => k_is)
    (case k14 => k_is)
    (case a15 => k_is)
    (case l15 => k_is)
    (case c15 => k_is)
    (case k15 => k_is)
    (case a16 => k_is)
    (case l16 => k_is)
    (case c16 => k_is)
    (case k16 => k_is)
    (case a17 => k_is)
    (case l17 => k_is)
    (case c17 => k_is)
    (case k17 => k_is)
    (case a18 => k_is)
    (case l18 => k_is)
    (case c18 => k_is)
    (case k18 => k_is)
    (case a19 => k_is)
    (case l19 => k_is)
    (case c19 => k_is)
    (case k19 => k_is)
    (case a20 => k_is)
    (case l20 => k_is)
    (case c20 => k_is)
    (case k20 => k_is)
    (case a21 => k_is)
    (case l21 => k_is)
    (case c21 => k_is)
    (case k21 => k_is)
    (case a22 => k_is)
    (case l22 => k_is)
    (case c22 => k_is)
    (case k22 => k_is)
    (case a23 => k_is)
    (case l23 => k_is)
    (case c23 => k_is)
    (case k23 => k_is)
    (case a24 => k_is)
    (case l24 => k_is)
    (case c24 => k_is)
    (case k24 => k_is)
    (case a25 => k_is)
    (case l25 => k_is)
    (case c25 => k_is)
    (case k25 => k_is)
    (case a26 => k_is)
    (case l26 => k_is)
    (case c26 => k_is)
    (case k26 => k_is)
    (case a27 => k_is)
    (case l27 => k_is)
    (case c27 => k_is)
    (case k27 => k_is)
    (case a28 => k_is)
    (case l28 => k_is)
    (case c28 => k_is)
    (case k28 => k_is)
    (case a29 => k_is)
    (case l29 => k_is)
    (case c29 => k_is)
    (case k29 => k_is)
    (case a30 => k_is)
    (case l30 => k_is)
    (case c30 => k_is)
    (case k30 => k_is)
    (case a31 => k_is)
    (case l31 => k_is)
    (case c31 => k_is)
    (case k31 => k_is)
    (case a32 => k_is)
    (case l32 => k_is)
    (case c32 => k_is)
    (case k32 => k_is)
    (case a33 => k_is)
    (case l33 => k_is)
    (case c33 => k_is)
    (case k33 => k_is)
    (case v0 => k_is)
    (case v1 => k_is)
    (case v2 => k_is)
    (case v3 => k_is)
    (case v4 => k_is)
    (case v5 => k_is)
    (case v6 => k_is)
    (case v7 => k_is)
    (case v8 => k_is)
    (case v9 => k_is)
    (case z_isinstance => k_is)
    (case z_int => k_is)
    (case z_bool => k_is)
    (case z_list => k_is)
    (case z_len => k_is)
    (case z_all => k_is)
    (case z_range => k_is)
    (case z_tuple => k_is)
    (case z_str => k_is)
    (case z_min => k_is)
    (case z_max => k_is)
    (case z_ValueError => k_is)
    (case xi_NP => kernel_rfl)
    (case xi_NL => kernel_rfl)
    (case xi_NW => kernel_rfl)
    (case xi_NI => kernel_rfl)
    (case nh => k_is)
    (case nfk => k_is)
    (case nfp => k_is)
    (case nfl => k_is)
    (case fsa => k_is)
    (case fov => kernel_rfl)
    (case fhd => k_is)
    (case fga => k_is)
    (case fgh => k_is)
    (case fmb => k_is)
    (case fxm => kernel_rfl)
    (case k_e1 => k_is)
    (case k_e2 => k_is)
    (case k_e3 => k_is)
    (case k_e4 => k_is)
    (case k_e5 => k_is)
    (case k_e6 => k_is)
    (case k_e7 => k_is)
    (case k_t4 => k_is)
    (case u_NP => kin_no)
    (case u_NL => kin_no)
    (case u_NW => kin_no)
    (case u_NR => kin_no)
    (case u_NI => kin_no)
    (case u_NF => kin_no)
    (case he1 => k_is)
    (case he2 => k_is)
    (case he3 => k_is)
    (case fex => kernel_rfl)
    (case i3 => k_is)
    (case i4 => k_is)
    (case i5 => k_is)
    (case i6 => k_is)
    (case i7 => k_is)
    (case i8 => k_is)
    (case i11 => k_is)
    (case i12 => k_is)
    (case i13 => k_is)
    (case pg_C => k_is)
    (case hd_C => k_is)
    (case po_C => k_is)
    (case sa_C => k_is)
    (case mk_C => k_is)
    (case kc_C => k_is)
end
