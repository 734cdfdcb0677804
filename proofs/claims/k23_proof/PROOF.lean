import PyProof.Rows.All
import Wide.All
import OpenK.AllK
import Wide.FinOn
import Lean
import PyProof.EqAt
import PyProof.EqKinds
import PyProof.TupleCall
import PySem.Challenge.RW_shadowpages_k23_refused_makings
section
set_option Elab.async false
set_option linter.all false
set_option maxRecDepth 100000
set_option maxHeartbeats 4000000
namespace L2
open PySem
def inClass (s : Stmt) (j : Nat) : Stmt := match s with
  | .ClassDef _ _ _ body _ _ _ _ _ _ _ => body.getD j (.Pass ⟨0, 0, 0, 0⟩)
  | _ => .Pass ⟨0, 0, 0, 0⟩
def defArgs (s : Stmt) : Arguments := match s with
  | .FunctionDef _ a _ _ _ _ _ _ _ _ => a
  | _ => { posonlyargs := [], args := [], vararg := none, kwonlyargs := [], kw_defaults := [], kwarg := none, defaults := [] }
def defBody (s : Stmt) : List Stmt := match s with
  | .FunctionDef _ _ b _ _ _ _ _ _ _ => b
  | _ => []
def defScope (s : Stmt) : Scope := match s with
  | .FunctionDef _ _ _ _ _ _ sc _ _ _ => sc
  | _ => { kind := .function, names := [], isGenerator := false, isCoroutine := false }

end L2

end
section
set_option Elab.async false
set_option linter.all false
set_option maxRecDepth 100000
set_option maxHeartbeats 4000000
namespace HT1
open PySem PySem.W PyProof.Rows

def topRunT (tb : String → Option Builtin) (p : Program) (w : World) (n₀ : Nat) (ann : Option Value) : Nat → SharedT → Thread → Option SharedT
  | 0, _, _ => none
  | n + 1, s, t => match through t with
    | true => some s
    | false => match stepOk n₀ ann t with
      | false => none
      | true => match stepT (denote tb) p w s t with
        | some (s', t') => topRunT tb p w n₀ ann n s' t'
        | none => none
theorem topRun_of {tb : String → Option Builtin} {p : Program} {w : World} {n₀ : Nat} {ann : Option Value} : ∀ {n : Nat} {s s' : SharedT} {t : Thread}, topRunT tb p w n₀ ann n s t = some s' → topRun tb p w n₀ ann n s.abs t = some s'.abs
  | 0, _, _, _, h => by cases h
  | n + 1, s, s', t, h => by
    unfold topRunT at h
    unfold topRun
    cases ht : through t with
    | true => rw [ht] at h; cases h; rfl
    | false =>
      rw [ht] at h
      cases hk : stepOk n₀ ann t with
      | false => rw [hk] at h; cases h
      | true =>
        rw [hk] at h
        cases hs : stepT (denote tb) p w s t with
        | none => rw [hs] at h; cases h
        | some r => obtain ⟨s₂, t₂⟩ := r; rw [hs] at h; rw [stepT_spec hs]; exact topRun_of h

def ofL : List Obj → Nat → BT → BT
  | [], _, t => t
  | o :: l, n, t => ofL l (n + 1) (t.ins n o)
noncomputable def bootT (P : Params) : BT := ofL (boot_heap P).objs.toList 0 .nil
def bootN : Nat := 11
noncomputable def bootS (w : World) (os : OsState) : SharedT := ⟨bootT w.params, bootN, (boot_heap w.params).life, Array.mk [], boot_drawn, boot_toks, os⟩

theorem boot_size (w : World) : ((boot_heap w.params).isNs mainGlobals && (Array.mk [] : Array GenState).size == 0, (boot_heap w.params).objs.size, (boot_heap w.params).nsMap mainGlobals "__annotations__") = (true, 11, some (.ref 6)) := by kernel_rfl

theorem boot_abs (w : World) (os : OsState) : (bootS w os).abs = ⟨boot_heap w.params, Array.mk [], boot_drawn, boot_toks, os⟩ := by kernel_rfl

noncomputable def lookT {α : Type} (p q : Program) (loose : List Str) (Xt : Shared → Bool) (Yf : Shared → α) (N : Nat) (g0 : Bool) (w : World) (os : OsState) :=
  (topRunT treeTable p w 11 (some (.ref 6)) N (bootS w os) (topStub p)).map fun s =>
    ((staticsOk (importedModules p.main.body) (boot_heap w.params) s.abs.heap && namesBound p s.abs.heap && gensDone s.abs && laidKept (boot_heap w.params) s.abs.heap),
      openSeen q loose (importedModules p.main.body) Xt g0 s.abs, Yf s.abs)

theorem left_one {p q : Program} {loose : List Str} {Xt : Shared → Bool} {α : Type} {Yf : Shared → α} {Ya : World → α} {N : Nat} {g0 : Bool}
    (e : opening p = plainProg p.main.scope.names) (hN : Nat.ble 600 N = true) (f : ∀ s, fenceModules? p s = some s)
    (looks : ∀ w : World, (fun os => lookT p q loose Xt Yf N g0 w os) = fun _ => some (true, openGood q loose, Ya w)) : LeftO p q loose Xt Yf Ya N g0 := fun w => by
  obtain ⟨⟨h, gs, d, k, os⟩, eo, e'⟩ := Option.map_eq_some_iff.mp (boot_open e hN f w)
  obtain ⟨rfl, rfl, rfl, rfl⟩ : h = boot_heap w.params ∧ gs = Array.mk [] ∧ d = boot_drawn ∧ k = boot_toks := by simpa using e'
  obtain ⟨z1, z2, z3⟩ : _ ∧ _ ∧ _ := by simpa only [Prod.mk.injEq] using boot_size w
  obtain ⟨s1, r1, l⟩ := Option.map_eq_some_iff.mp (congrFun (looks w) os)
  obtain ⟨l1, l2, l3⟩ : _ ∧ _ ∧ _ := by simpa only [Prod.mk.injEq] using l
  have r := topRun_of r1
  rw [boot_abs] at r
  have t : topFrom treeTable p w N ⟨boot_heap w.params, Array.mk [], boot_drawn, boot_toks, os⟩ = some s1.abs := by
    unfold topFrom
    dsimp only
    rw [z1, z2, z3, r]
    show (match staticsOk (importedModules p.main.body) (boot_heap w.params) s1.abs.heap && namesBound p s1.abs.heap && gensDone s1.abs && laidKept (boot_heap w.params) s1.abs.heap with | true => _ | false => _) = _
    rw [l1]
  unfold openEnds
  rw [eo]
  show (topFrom treeTable p w N _).map _ = _
  rw [t]
  exact congrArg some (Prod.ext l2 l3)
end HT1
lay_quick HT1.lookT PySem.W.xlAt PySem.W.recOk PySem.W.openGood

end
section
set_option Elab.async false
set_option linter.all false
set_option maxRecDepth 100000
set_option maxHeartbeats 4000000
open PySem PySem.W PyProof.Rows
namespace K23
open PySem L2
def top (i : Nat) : Stmt := PySem.Challenge.pw_shadowpages_k23_refused_makings.main.body.getD i (.Pass ⟨0, 0, 0, 0⟩)
def KF (P : Params) : PySem.W.Frag :=
  (nat_lit 2, ⟨.none, none, (.dict #[] 0), #[]⟩) ::
  (nat_lit 3, ⟨(.type "dict"), none, (.dict #[⟨(PySem.PyData.keyHash P "__name__"), (.str "__name__" 165), (.str "law_shadowpages_k23_refused_makings" 887)⟩, ⟨(PySem.PyData.keyHash P "__doc__"), (.str "__doc__" 166), .none⟩, ⟨(PySem.PyData.keyHash P "__package__"), (.str "__package__" 167), .none⟩, ⟨(PySem.PyData.keyHash P "__loader__"), (.str "__loader__" 168), (.builtin "__main__.__loader__#opaque")⟩, ⟨(PySem.PyData.keyHash P "__spec__"), (.str "__spec__" 169), .none⟩, ⟨(PySem.PyData.keyHash P "__annotations__"), (.str "__annotations__" 170), (.ref 6)⟩, ⟨(PySem.PyData.keyHash P "__builtins__"), (.str "__builtins__" 171), (.ref 4)⟩, ⟨(PySem.PyData.keyHash P "__file__"), (.str "__file__" 173), (.str "/claim/cut.py" 172)⟩, ⟨(PySem.PyData.keyHash P "__cached__"), (.str "__cached__" 174), .none⟩, ⟨(PySem.PyData.keyHash P "_wall"), (.str "_wall" 193), (.ref 21)⟩, ⟨(PySem.PyData.keyHash P "WORDS"), (.str "WORDS" 195), (.int 281474976710656 194)⟩, ⟨(PySem.PyData.keyHash P "CELLS"), (.str "CELLS" 197), (.int 8 196)⟩, ⟨(PySem.PyData.keyHash P "MOST_PAGES"), (.str "MOST_PAGES" 199), (.int 24 198)⟩, ⟨(PySem.PyData.keyHash P "SEATS"), (.str "SEATS" 201), (.int 12 200)⟩, ⟨(PySem.PyData.keyHash P "HouseError"), (.str "HouseError" 221), (.ref 31)⟩, ⟨(PySem.PyData.keyHash P "NoWord"), (.str "NoWord" 237), (.ref 44)⟩, ⟨(PySem.PyData.keyHash P "NoPlace"), (.str "NoPlace" 253), (.ref 56)⟩, ⟨(PySem.PyData.keyHash P "NoPage"), (.str "NoPage" 269), (.ref 68)⟩, ⟨(PySem.PyData.keyHash P "NoImage"), (.str "NoImage" 285), (.ref 80)⟩, ⟨(PySem.PyData.keyHash P "NoShelf"), (.str "NoShelf" 301), (.ref 92)⟩, ⟨(PySem.PyData.keyHash P "Fault"), (.str "Fault" 330), (.ref 111)⟩, ⟨(PySem.PyData.keyHash P "is_whole"), (.str "is_whole" 339), (.ref 120)⟩, ⟨(PySem.PyData.keyHash P "is_below"), (.str "is_below" 347), (.ref 127)⟩, ⟨(PySem.PyData.keyHash P "is_word"), (.str "is_word" 354), (.ref 134)⟩, ⟨(PySem.PyData.keyHash P "Shelf"), (.str "Shelf" 425), (.ref 184)⟩, ⟨(PySem.PyData.keyHash P "is_eight_words"), (.str "is_eight_words" 433), (.ref 193)⟩, ⟨(PySem.PyData.keyHash P "check_image"), (.str "check_image" 441), (.ref 200)⟩, ⟨(PySem.PyData.keyHash P "check_word"), (.str "check_word" 448), (.ref 207)⟩, ⟨(PySem.PyData.keyHash P "Store"), (.str "Store" 544), (.ref 278)⟩, ⟨(PySem.PyData.keyHash P "Memory"), (.str "Memory" 624), (.ref 344)⟩, ⟨(PySem.PyData.keyHash P "Ways"), (.str "Ways" 801), (.ref 487)⟩, ⟨(PySem.PyData.keyHash P "Plain"), (.str "Plain" 886), (.ref 555)⟩, ⟨(PySem.PyData.keyHash P "_law_cell_at"), (.str "_law_cell_at" 896), (.ref 564)⟩, ⟨(PySem.PyData.keyHash P "_law_whole"), (.str "_law_whole" 903), (.ref 571)⟩, ⟨(PySem.PyData.keyHash P "_law_row_by"), (.str "_law_row_by" 913), (.ref 578)⟩, ⟨(PySem.PyData.keyHash P "_law_pages"), (.str "_law_pages" 927), (.ref 585)⟩, ⟨(PySem.PyData.keyHash P "_law_copy"), (.str "_law_copy" 936), (.ref 592)⟩, ⟨(PySem.PyData.keyHash P "_law_is_image"), (.str "_law_is_image" 946), (.ref 599)⟩, ⟨(PySem.PyData.keyHash P "_law_names"), (.str "_law_names" 954), (.ref 606)⟩, ⟨(PySem.PyData.keyHash P "_law_shelf_refused"), (.str "_law_shelf_refused" 963), (.ref 613)⟩, ⟨(PySem.PyData.keyHash P "_law_refused"), (.str "_law_refused" 973), (.ref 620)⟩, ⟨(PySem.PyData.keyHash P "_law_no_image"), (.str "_law_no_image" 986), (.ref 627)⟩, ⟨(PySem.PyData.keyHash P "_law_good"), (.str "_law_good" 998), (.ref 634)⟩, ⟨(PySem.PyData.keyHash P "law"), (.str "law" 1009), (.ref 641)⟩] 44), #[]⟩) ::
  (nat_lit 15, ⟨(.type "tuple"), none, (.seq #[] 0), #[]⟩) ::
  (nat_lit 17, ⟨(.type "tuple"), none, (.seq #[(.str "k" 190)] 0), #[]⟩) ::
  (nat_lit 18, ⟨(.type "tuple"), none, (.seq #[] 0), #[]⟩) ::
  (nat_lit 20, ⟨(.type "code"), none, (.fields #[(.str "_wall" 187), (.str "_wall" 188), (.str "/claim/cut.py" 189), (.int 1 0), (.int 1 0), (.int 0 0), (.int 0 0), (.int 3 0), (.ref 15), (.bool true), (.int 181 0), (.ref 16), .none, (.ref 17), (.ref 18), (.ref 19), (.int 191 0), (.int 1 0), (.str "/claim/cut.py" 192)]), #[]⟩) ::
  (nat_lit 21, ⟨(.type "function"), none, (.func ⟨"_wall", "_wall", defArgs (top 0), .stmts (defBody (top 0)), defScope (top 0), 3, [], .none, .none, .none, (.str "__main__" 164), none, (.ref 20), .none, 0⟩), #[]⟩) ::
  (nat_lit 22, ⟨(.type "tuple"), none, (.seq #[(.type "ValueError")] 0), #[]⟩) ::
  (nat_lit 29, ⟨(.type "tuple"), none, (.seq #[] 0), #[]⟩) ::
  (nat_lit 30, ⟨(.type "dict"), none, (.dict #[⟨(PySem.PyData.keyHash P "__module__"), (.str "__module__" 211), (.str "shadowpages.errors" 202)⟩, ⟨(PySem.PyData.keyHash P "__firstlineno__"), (.str "__firstlineno__" 215), (.int 9 214)⟩, ⟨(PySem.PyData.keyHash P "__static_attributes__"), (.str "__static_attributes__" 216), (.ref 29)⟩, ⟨(PySem.PyData.keyHash P "__weakref__"), (.str "__weakref__" 218), (.ref 32)⟩, ⟨(PySem.PyData.keyHash P "__doc__"), (.str "__doc__" 219), .none⟩] 3), #[]⟩) ::
  (nat_lit 31, ⟨(.type "type"), none, (.cls ⟨"HouseError", [(.type "ValueError")], [(.ref 31), (.type "ValueError"), (.type "Exception"), (.type "BaseException"), (.type "object")], 30, "HouseError", true, [], [(.ref 44), (.ref 56), (.ref 68), (.ref 80), (.ref 92), (.ref 111)], false, none, false⟩), #[(some (.ref 22)), none, (some (.str "HouseError" 204)), (some (.str "HouseError" 212)), (some (.builtin "ValueError.__new__")), (some (.bool true))]⟩) ::
  (nat_lit 32, ⟨(.type "getset_descriptor"), none, (.fields #[(.str "__weakref__" 217), (.ref 31), (.builtin "ExceptionGroup.__weakref__"), .none]), #[]⟩) ::
  (nat_lit 35, ⟨(.type "tuple"), none, (.seq #[(.ref 31)] 0), #[]⟩) ::
  (nat_lit 42, ⟨(.type "tuple"), none, (.seq #[] 0), #[]⟩) ::
  (nat_lit 43, ⟨(.type "dict"), none, (.dict #[⟨(PySem.PyData.keyHash P "__module__"), (.str "__module__" 229), (.str "shadowpages.errors" 202)⟩, ⟨(PySem.PyData.keyHash P "__firstlineno__"), (.str "__firstlineno__" 233), (.int 11 232)⟩, ⟨(PySem.PyData.keyHash P "__static_attributes__"), (.str "__static_attributes__" 234), (.ref 42)⟩, ⟨(PySem.PyData.keyHash P "__doc__"), (.str "__doc__" 235), .none⟩] 2), #[]⟩) ::
  (nat_lit 44, ⟨(.type "type"), none, (.cls ⟨"NoWord", [(.ref 31)], [(.ref 44), (.ref 31), (.type "ValueError"), (.type "Exception"), (.type "BaseException"), (.type "object")], 43, "NoWord", true, [], [], false, none, false⟩), #[(some (.ref 35)), none, (some (.str "NoWord" 222)), (some (.str "NoWord" 230)), (some (.builtin "ValueError.__new__")), (some (.bool true))]⟩) ::
  (nat_lit 47, ⟨(.type "tuple"), none, (.seq #[(.ref 31)] 0), #[]⟩) ::
  (nat_lit 54, ⟨(.type "tuple"), none, (.seq #[] 0), #[]⟩) ::
  (nat_lit 55, ⟨(.type "dict"), none, (.dict #[⟨(PySem.PyData.keyHash P "__module__"), (.str "__module__" 245), (.str "shadowpages.errors" 202)⟩, ⟨(PySem.PyData.keyHash P "__firstlineno__"), (.str "__firstlineno__" 249), (.int 13 248)⟩, ⟨(PySem.PyData.keyHash P "__static_attributes__"), (.str "__static_attributes__" 250), (.ref 54)⟩, ⟨(PySem.PyData.keyHash P "__doc__"), (.str "__doc__" 251), .none⟩] 2), #[]⟩) ::
  (nat_lit 56, ⟨(.type "type"), none, (.cls ⟨"NoPlace", [(.ref 31)], [(.ref 56), (.ref 31), (.type "ValueError"), (.type "Exception"), (.type "BaseException"), (.type "object")], 55, "NoPlace", true, [], [], false, none, false⟩), #[(some (.ref 47)), none, (some (.str "NoPlace" 238)), (some (.str "NoPlace" 246)), (some (.builtin "ValueError.__new__")), (some (.bool true))]⟩) ::
  (nat_lit 59, ⟨(.type "tuple"), none, (.seq #[(.ref 31)] 0), #[]⟩) ::
  (nat_lit 66, ⟨(.type "tuple"), none, (.seq #[] 0), #[]⟩) ::
  (nat_lit 67, ⟨(.type "dict"), none, (.dict #[⟨(PySem.PyData.keyHash P "__module__"), (.str "__module__" 261), (.str "shadowpages.errors" 202)⟩, ⟨(PySem.PyData.keyHash P "__firstlineno__"), (.str "__firstlineno__" 265), (.int 15 264)⟩, ⟨(PySem.PyData.keyHash P "__static_attributes__"), (.str "__static_attributes__" 266), (.ref 66)⟩, ⟨(PySem.PyData.keyHash P "__doc__"), (.str "__doc__" 267), .none⟩] 2), #[]⟩) ::
  (nat_lit 68, ⟨(.type "type"), none, (.cls ⟨"NoPage", [(.ref 31)], [(.ref 68), (.ref 31), (.type "ValueError"), (.type "Exception"), (.type "BaseException"), (.type "object")], 67, "NoPage", true, [], [], false, none, false⟩), #[(some (.ref 59)), none, (some (.str "NoPage" 254)), (some (.str "NoPage" 262)), (some (.builtin "ValueError.__new__")), (some (.bool true))]⟩) ::
  (nat_lit 71, ⟨(.type "tuple"), none, (.seq #[(.ref 31)] 0), #[]⟩) ::
  (nat_lit 78, ⟨(.type "tuple"), none, (.seq #[] 0), #[]⟩) ::
  (nat_lit 79, ⟨(.type "dict"), none, (.dict #[⟨(PySem.PyData.keyHash P "__module__"), (.str "__module__" 277), (.str "shadowpages.errors" 202)⟩, ⟨(PySem.PyData.keyHash P "__firstlineno__"), (.str "__firstlineno__" 281), (.int 17 280)⟩, ⟨(PySem.PyData.keyHash P "__static_attributes__"), (.str "__static_attributes__" 282), (.ref 78)⟩, ⟨(PySem.PyData.keyHash P "__doc__"), (.str "__doc__" 283), .none⟩] 2), #[]⟩) ::
  (nat_lit 80, ⟨(.type "type"), none, (.cls ⟨"NoImage", [(.ref 31)], [(.ref 80), (.ref 31), (.type "ValueError"), (.type "Exception"), (.type "BaseException"), (.type "object")], 79, "NoImage", true, [], [], false, none, false⟩), #[(some (.ref 71)), none, (some (.str "NoImage" 270)), (some (.str "NoImage" 278)), (some (.builtin "ValueError.__new__")), (some (.bool true))]⟩) ::
  (nat_lit 83, ⟨(.type "tuple"), none, (.seq #[(.ref 31)] 0), #[]⟩) ::
  (nat_lit 90, ⟨(.type "tuple"), none, (.seq #[] 0), #[]⟩) ::
  (nat_lit 91, ⟨(.type "dict"), none, (.dict #[⟨(PySem.PyData.keyHash P "__module__"), (.str "__module__" 293), (.str "shadowpages.errors" 202)⟩, ⟨(PySem.PyData.keyHash P "__firstlineno__"), (.str "__firstlineno__" 297), (.int 19 296)⟩, ⟨(PySem.PyData.keyHash P "__static_attributes__"), (.str "__static_attributes__" 298), (.ref 90)⟩, ⟨(PySem.PyData.keyHash P "__doc__"), (.str "__doc__" 299), .none⟩] 2), #[]⟩) ::
  (nat_lit 92, ⟨(.type "type"), none, (.cls ⟨"NoShelf", [(.ref 31)], [(.ref 92), (.ref 31), (.type "ValueError"), (.type "Exception"), (.type "BaseException"), (.type "object")], 91, "NoShelf", true, [], [], false, none, false⟩), #[(some (.ref 83)), none, (some (.str "NoShelf" 286)), (some (.str "NoShelf" 294)), (some (.builtin "ValueError.__new__")), (some (.bool true))]⟩) ::
  (nat_lit 95, ⟨(.type "tuple"), none, (.seq #[(.ref 31)] 0), #[]⟩) ::
  (nat_lit 102, ⟨(.type "tuple"), none, (.seq #[] 0), #[]⟩) ::
  (nat_lit 104, ⟨(.type "tuple"), none, (.seq #[(.str "self" 317), (.str "kind" 318), (.str "place" 319), (.str "level" 320)] 0), #[]⟩) ::
  (nat_lit 105, ⟨(.type "tuple"), none, (.seq #[] 0), #[]⟩) ::
  (nat_lit 107, ⟨(.type "code"), none, (.fields #[(.str "__init__" 314), (.str "Fault.__init__" 315), (.str "/claim/cut.py" 316), (.int 23 0), (.int 4 0), (.int 0 0), (.int 0 0), (.int 3 0), (.ref 102), (.bool true), (.int 181 0), (.ref 103), .none, (.ref 104), (.ref 105), (.ref 106), (.int 321 0), (.int 23 0), (.str "/claim/cut.py" 322)]), #[]⟩) ::
  (nat_lit 108, ⟨(.type "function"), none, (.func ⟨"__init__", "Fault.__init__", defArgs (inClass (top 12) 0), .stmts (defBody (inClass (top 12) 0)), defScope (inClass (top 12) 0), 3, [], .none, .none, .none, (.str "shadowpages.errors" 202), none, (.ref 107), .none, 0⟩), #[]⟩) ::
  (nat_lit 109, ⟨(.type "tuple"), none, (.seq #[(.str "kind" 324), (.str "level" 325), (.str "place" 326)] 0), #[]⟩) ::
  (nat_lit 110, ⟨(.type "dict"), none, (.dict #[⟨(PySem.PyData.keyHash P "__module__"), (.str "__module__" 309), (.str "shadowpages.errors" 202)⟩, ⟨(PySem.PyData.keyHash P "__firstlineno__"), (.str "__firstlineno__" 313), (.int 21 312)⟩, ⟨(PySem.PyData.keyHash P "__init__"), (.str "__init__" 323), (.ref 108)⟩, ⟨(PySem.PyData.keyHash P "__static_attributes__"), (.str "__static_attributes__" 327), (.ref 109)⟩, ⟨(PySem.PyData.keyHash P "__doc__"), (.str "__doc__" 328), .none⟩] 2), #[]⟩) ::
  (nat_lit 111, ⟨(.type "type"), none, (.cls ⟨"Fault", [(.ref 31)], [(.ref 111), (.ref 31), (.type "ValueError"), (.type "Exception"), (.type "BaseException"), (.type "object")], 110, "Fault", true, [], [], false, none, false⟩), #[(some (.ref 95)), none, (some (.str "Fault" 302)), (some (.str "Fault" 310)), (some (.builtin "ValueError.__new__")), (some (.bool true))]⟩) ::
  (nat_lit 114, ⟨(.type "tuple"), none, (.seq #[] 0), #[]⟩) ::
  (nat_lit 116, ⟨(.type "tuple"), none, (.seq #[(.str "thing" 336)] 0), #[]⟩) ::
  (nat_lit 117, ⟨(.type "tuple"), none, (.seq #[] 0), #[]⟩) ::
  (nat_lit 119, ⟨(.type "code"), none, (.fields #[(.str "is_whole" 333), (.str "is_whole" 334), (.str "/claim/cut.py" 335), (.int 28 0), (.int 1 0), (.int 0 0), (.int 0 0), (.int 3 0), (.ref 114), (.bool true), (.int 181 0), (.ref 115), .none, (.ref 116), (.ref 117), (.ref 118), (.int 337 0), (.int 28 0), (.str "/claim/cut.py" 338)]), #[]⟩) ::
  (nat_lit 120, ⟨(.type "function"), none, (.func ⟨"is_whole", "is_whole", defArgs (top 14), .stmts (defBody (top 14)), defScope (top 14), 3, [], .none, .none, .none, (.str "shadowpages.words" 331), none, (.ref 119), .none, 0⟩), #[]⟩) ::
  (nat_lit 121, ⟨(.type "tuple"), none, (.seq #[] 0), #[]⟩) ::
  (nat_lit 123, ⟨(.type "tuple"), none, (.seq #[(.str "thing" 343), (.str "bound" 344)] 0), #[]⟩) ::
  (nat_lit 124, ⟨(.type "tuple"), none, (.seq #[] 0), #[]⟩) ::
  (nat_lit 126, ⟨(.type "code"), none, (.fields #[(.str "is_below" 340), (.str "is_below" 341), (.str "/claim/cut.py" 342), (.int 30 0), (.int 2 0), (.int 0 0), (.int 0 0), (.int 3 0), (.ref 121), (.bool true), (.int 181 0), (.ref 122), .none, (.ref 123), (.ref 124), (.ref 125), (.int 345 0), (.int 30 0), (.str "/claim/cut.py" 346)]), #[]⟩) ::
  (nat_lit 127, ⟨(.type "function"), none, (.func ⟨"is_below", "is_below", defArgs (top 15), .stmts (defBody (top 15)), defScope (top 15), 3, [], .none, .none, .none, (.str "shadowpages.words" 331), none, (.ref 126), .none, 0⟩), #[]⟩) ::
  (nat_lit 128, ⟨(.type "tuple"), none, (.seq #[] 0), #[]⟩) ::
  (nat_lit 130, ⟨(.type "tuple"), none, (.seq #[(.str "thing" 351)] 0), #[]⟩) ::
  (nat_lit 131, ⟨(.type "tuple"), none, (.seq #[] 0), #[]⟩) ::
  (nat_lit 133, ⟨(.type "code"), none, (.fields #[(.str "is_word" 348), (.str "is_word" 349), (.str "/claim/cut.py" 350), (.int 32 0), (.int 1 0), (.int 0 0), (.int 0 0), (.int 3 0), (.ref 128), (.bool true), (.int 181 0), (.ref 129), .none, (.ref 130), (.ref 131), (.ref 132), (.int 352 0), (.int 32 0), (.str "/claim/cut.py" 353)]), #[]⟩) ::
  (nat_lit 134, ⟨(.type "function"), none, (.func ⟨"is_word", "is_word", defArgs (top 16), .stmts (defBody (top 16)), defScope (top 16), 3, [], .none, .none, .none, (.str "shadowpages.words" 331), none, (.ref 133), .none, 0⟩), #[]⟩) ::
  (nat_lit 142, ⟨(.type "tuple"), none, (.seq #[] 0), #[]⟩) ::
  (nat_lit 144, ⟨(.type "tuple"), none, (.seq #[(.str "self" 372), (.str "most" 373)] 0), #[]⟩) ::
  (nat_lit 145, ⟨(.type "tuple"), none, (.seq #[] 0), #[]⟩) ::
  (nat_lit 147, ⟨(.type "code"), none, (.fields #[(.str "__init__" 369), (.str "Shelf.__init__" 370), (.str "/claim/cut.py" 371), (.int 37 0), (.int 2 0), (.int 0 0), (.int 0 0), (.int 3 0), (.ref 142), (.bool true), (.int 181 0), (.ref 143), .none, (.ref 144), (.ref 145), (.ref 146), (.int 374 0), (.int 37 0), (.str "/claim/cut.py" 375)]), #[]⟩) ::
  (nat_lit 148, ⟨(.type "function"), none, (.func ⟨"__init__", "Shelf.__init__", defArgs (inClass (top 18) 0), .stmts (defBody (inClass (top 18) 0)), defScope (inClass (top 18) 0), 3, [], .none, .none, .none, (.str "shadowpages.shelf" 355), none, (.ref 147), .none, 0⟩), #[]⟩) ::
  (nat_lit 149, ⟨(.type "tuple"), none, (.seq #[] 0), #[]⟩) ::
  (nat_lit 151, ⟨(.type "tuple"), none, (.seq #[(.str "self" 380), (.str "number" 381)] 0), #[]⟩) ::
  (nat_lit 152, ⟨(.type "tuple"), none, (.seq #[] 0), #[]⟩) ::
  (nat_lit 154, ⟨(.type "code"), none, (.fields #[(.str "seek" 377), (.str "Shelf.seek" 378), (.str "/claim/cut.py" 379), (.int 43 0), (.int 2 0), (.int 0 0), (.int 0 0), (.int 3 0), (.ref 149), (.bool true), (.int 181 0), (.ref 150), .none, (.ref 151), (.ref 152), (.ref 153), (.int 382 0), (.int 43 0), (.str "/claim/cut.py" 383)]), #[]⟩) ::
  (nat_lit 155, ⟨(.type "function"), none, (.func ⟨"seek", "Shelf.seek", defArgs (inClass (top 18) 1), .stmts (defBody (inClass (top 18) 1)), defScope (inClass (top 18) 1), 3, [], .none, .none, .none, (.str "shadowpages.shelf" 355), none, (.ref 154), .none, 0⟩), #[]⟩) ::
  (nat_lit 156, ⟨(.type "tuple"), none, (.seq #[] 0), #[]⟩) ::
  (nat_lit 158, ⟨(.type "tuple"), none, (.seq #[(.str "self" 388), (.str "number" 389), (.str "page" 390), (.str "rights" 391)] 0), #[]⟩) ::
  (nat_lit 159, ⟨(.type "tuple"), none, (.seq #[] 0), #[]⟩) ::
  (nat_lit 161, ⟨(.type "code"), none, (.fields #[(.str "keep" 385), (.str "Shelf.keep" 386), (.str "/claim/cut.py" 387), (.int 46 0), (.int 4 0), (.int 0 0), (.int 0 0), (.int 3 0), (.ref 156), (.bool true), (.int 181 0), (.ref 157), .none, (.ref 158), (.ref 159), (.ref 160), (.int 392 0), (.int 46 0), (.str "/claim/cut.py" 393)]), #[]⟩) ::
  (nat_lit 162, ⟨(.type "function"), none, (.func ⟨"keep", "Shelf.keep", defArgs (inClass (top 18) 2), .stmts (defBody (inClass (top 18) 2)), defScope (inClass (top 18) 2), 3, [], .none, .none, .none, (.str "shadowpages.shelf" 355), none, (.ref 161), .none, 0⟩), #[]⟩) ::
  (nat_lit 163, ⟨(.type "tuple"), none, (.seq #[] 0), #[]⟩) ::
  (nat_lit 165, ⟨(.type "tuple"), none, (.seq #[(.str "self" 398), (.str "number" 399)] 0), #[]⟩) ::
  (nat_lit 166, ⟨(.type "tuple"), none, (.seq #[] 0), #[]⟩) ::
  (nat_lit 168, ⟨(.type "code"), none, (.fields #[(.str "drop" 395), (.str "Shelf.drop" 396), (.str "/claim/cut.py" 397), (.int 49 0), (.int 2 0), (.int 0 0), (.int 0 0), (.int 3 0), (.ref 163), (.bool true), (.int 181 0), (.ref 164), .none, (.ref 165), (.ref 166), (.ref 167), (.int 400 0), (.int 49 0), (.str "/claim/cut.py" 401)]), #[]⟩) ::
  (nat_lit 169, ⟨(.type "function"), none, (.func ⟨"drop", "Shelf.drop", defArgs (inClass (top 18) 3), .stmts (defBody (inClass (top 18) 3)), defScope (inClass (top 18) 3), 3, [], .none, .none, .none, (.str "shadowpages.shelf" 355), none, (.ref 168), .none, 0⟩), #[]⟩) ::
  (nat_lit 170, ⟨(.type "tuple"), none, (.seq #[] 0), #[]⟩) ::
  (nat_lit 172, ⟨(.type "tuple"), none, (.seq #[(.str "self" 406)] 0), #[]⟩) ::
  (nat_lit 173, ⟨(.type "tuple"), none, (.seq #[] 0), #[]⟩) ::
  (nat_lit 175, ⟨(.type "code"), none, (.fields #[(.str "empty" 403), (.str "Shelf.empty" 404), (.str "/claim/cut.py" 405), (.int 52 0), (.int 1 0), (.int 0 0), (.int 0 0), (.int 3 0), (.ref 170), (.bool true), (.int 181 0), (.ref 171), .none, (.ref 172), (.ref 173), (.ref 174), (.int 407 0), (.int 52 0), (.str "/claim/cut.py" 408)]), #[]⟩) ::
  (nat_lit 176, ⟨(.type "function"), none, (.func ⟨"empty", "Shelf.empty", defArgs (inClass (top 18) 4), .stmts (defBody (inClass (top 18) 4)), defScope (inClass (top 18) 4), 3, [], .none, .none, .none, (.str "shadowpages.shelf" 355), none, (.ref 175), .none, 0⟩), #[]⟩) ::
  (nat_lit 177, ⟨(.type "tuple"), none, (.seq #[] 0), #[]⟩) ::
  (nat_lit 180, ⟨(.type "code"), none, (.fields #[(.str "told" 410), (.str "Shelf.told" 411), (.str "/claim/cut.py" 412), (.int 55 0), (.int 1 0), (.int 0 0), (.int 0 0), (.int 3 0), (.ref 177), (.bool true), (.int 181 0), (.ref 178), .none, .none, .none, (.ref 179), (.int 413 0), (.int 55 0), (.str "/claim/cut.py" 414)]), #[]⟩) ::
  (nat_lit 181, ⟨(.type "function"), none, (.func ⟨"told", "Shelf.told", defArgs (inClass (top 18) 5), .stmts (defBody (inClass (top 18) 5)), defScope (inClass (top 18) 5), 3, [], .none, .none, .none, (.str "shadowpages.shelf" 355), none, (.ref 180), .none, 0⟩), #[]⟩) ::
  (nat_lit 182, ⟨(.type "tuple"), none, (.seq #[(.str "most" 416), (.str "seats" 417)] 0), #[]⟩) ::
  (nat_lit 183, ⟨(.type "dict"), none, (.dict #[⟨(PySem.PyData.keyHash P "__module__"), (.str "__module__" 364), (.str "shadowpages.shelf" 355)⟩, ⟨(PySem.PyData.keyHash P "__firstlineno__"), (.str "__firstlineno__" 368), (.int 35 367)⟩, ⟨(PySem.PyData.keyHash P "__init__"), (.str "__init__" 376), (.ref 148)⟩, ⟨(PySem.PyData.keyHash P "seek"), (.str "seek" 384), (.ref 155)⟩, ⟨(PySem.PyData.keyHash P "keep"), (.str "keep" 394), (.ref 162)⟩, ⟨(PySem.PyData.keyHash P "drop"), (.str "drop" 402), (.ref 169)⟩, ⟨(PySem.PyData.keyHash P "empty"), (.str "empty" 409), (.ref 176)⟩, ⟨(PySem.PyData.keyHash P "told"), (.str "told" 415), (.ref 181)⟩, ⟨(PySem.PyData.keyHash P "__static_attributes__"), (.str "__static_attributes__" 418), (.ref 182)⟩, ⟨(PySem.PyData.keyHash P "__dict__"), (.str "__dict__" 420), (.ref 185)⟩, ⟨(PySem.PyData.keyHash P "__weakref__"), (.str "__weakref__" 422), (.ref 186)⟩, ⟨(PySem.PyData.keyHash P "__doc__"), (.str "__doc__" 423), .none⟩] 4), #[]⟩) ::
  (nat_lit 184, ⟨(.type "type"), none, (.cls ⟨"Shelf", [(.type "object")], [(.ref 184), (.type "object")], 183, "Shelf", true, [], [], false, none, false⟩), #[none, none, (some (.str "Shelf" 357)), (some (.str "Shelf" 365)), (some (.builtin "object.__new__")), (some (.bool true))]⟩) ::
  (nat_lit 185, ⟨(.type "getset_descriptor"), none, (.fields #[(.str "__dict__" 419), (.ref 184), (.builtin "function.__dict__"), (.builtin "function.__dict__#set")]), #[]⟩) ::
  (nat_lit 186, ⟨(.type "getset_descriptor"), none, (.fields #[(.str "__weakref__" 421), (.ref 184), (.builtin "ExceptionGroup.__weakref__"), .none]), #[]⟩) ::
  (nat_lit 189, ⟨(.type "tuple"), none, (.seq #[] 0), #[]⟩) ::
  (nat_lit 192, ⟨(.type "code"), none, (.fields #[(.str "is_eight_words" 428), (.str "is_eight_words" 429), (.str "/claim/cut.py" 430), (.int 58 0), (.int 1 0), (.int 0 0), (.int 0 0), (.int 3 0), (.ref 189), (.bool true), (.int 181 0), (.ref 190), .none, .none, .none, (.ref 191), (.int 431 0), (.int 58 0), (.str "/claim/cut.py" 432)]), #[]⟩) ::
  (nat_lit 193, ⟨(.type "function"), none, (.func ⟨"is_eight_words", "is_eight_words", defArgs (top 20), .stmts (defBody (top 20)), defScope (top 20), 3, [], .none, .none, .none, (.str "shadowpages.store" 426), none, (.ref 192), .none, 0⟩), #[]⟩) ::
  (nat_lit 194, ⟨(.type "tuple"), none, (.seq #[] 0), #[]⟩) ::
  (nat_lit 196, ⟨(.type "tuple"), none, (.seq #[(.str "pages" 437), (.str "page" 438)] 0), #[]⟩) ::
  (nat_lit 197, ⟨(.type "tuple"), none, (.seq #[] 0), #[]⟩) ::
  (nat_lit 199, ⟨(.type "code"), none, (.fields #[(.str "check_image" 434), (.str "check_image" 435), (.str "/claim/cut.py" 436), (.int 60 0), (.int 1 0), (.int 0 0), (.int 0 0), (.int 3 0), (.ref 194), (.bool true), (.int 181 0), (.ref 195), .none, (.ref 196), (.ref 197), (.ref 198), (.int 439 0), (.int 60 0), (.str "/claim/cut.py" 440)]), #[]⟩) ::
  (nat_lit 200, ⟨(.type "function"), none, (.func ⟨"check_image", "check_image", defArgs (top 21), .stmts (defBody (top 21)), defScope (top 21), 3, [], .none, .none, .none, (.str "shadowpages.store" 426), none, (.ref 199), .none, 0⟩), #[]⟩) ::
  (nat_lit 201, ⟨(.type "tuple"), none, (.seq #[] 0), #[]⟩) ::
  (nat_lit 203, ⟨(.type "tuple"), none, (.seq #[(.str "word" 445)] 0), #[]⟩) ::
  (nat_lit 204, ⟨(.type "tuple"), none, (.seq #[] 0), #[]⟩) ::
  (nat_lit 206, ⟨(.type "code"), none, (.fields #[(.str "check_word" 442), (.str "check_word" 443), (.str "/claim/cut.py" 444), (.int 66 0), (.int 1 0), (.int 0 0), (.int 0 0), (.int 3 0), (.ref 201), (.bool true), (.int 181 0), (.ref 202), .none, (.ref 203), (.ref 204), (.ref 205), (.int 446 0), (.int 66 0), (.str "/claim/cut.py" 447)]), #[]⟩) ::
  (nat_lit 207, ⟨(.type "function"), none, (.func ⟨"check_word", "check_word", defArgs (top 22), .stmts (defBody (top 22)), defScope (top 22), 3, [], .none, .none, .none, (.str "shadowpages.store" 426), none, (.ref 206), .none, 0⟩), #[]⟩) ::
  (nat_lit 215, ⟨(.type "tuple"), none, (.seq #[] 0), #[]⟩) ::
  (nat_lit 217, ⟨(.type "tuple"), none, (.seq #[(.str "self" 464)] 0), #[]⟩) ::
  (nat_lit 218, ⟨(.type "tuple"), none, (.seq #[] 0), #[]⟩) ::
  (nat_lit 220, ⟨(.type "code"), none, (.fields #[(.str "size" 461), (.str "Store.size" 462), (.str "/claim/cut.py" 463), (.int 71 0), (.int 1 0), (.int 0 0), (.int 0 0), (.int 3 0), (.ref 215), (.bool true), (.int 181 0), (.ref 216), .none, (.ref 217), (.ref 218), (.ref 219), (.int 465 0), (.int 71 0), (.str "/claim/cut.py" 466)]), #[]⟩) ::
  (nat_lit 221, ⟨(.type "function"), none, (.func ⟨"size", "Store.size", defArgs (inClass (top 23) 0), .stmts (defBody (inClass (top 23) 0)), defScope (inClass (top 23) 0), 3, [], .none, .none, .none, (.str "shadowpages.store" 426), none, (.ref 220), .none, 0⟩), #[]⟩) ::
  (nat_lit 222, ⟨(.type "tuple"), none, (.seq #[] 0), #[]⟩) ::
  (nat_lit 224, ⟨(.type "tuple"), none, (.seq #[(.str "self" 471), (.str "page" 472)] 0), #[]⟩) ::
  (nat_lit 225, ⟨(.type "tuple"), none, (.seq #[] 0), #[]⟩) ::
  (nat_lit 227, ⟨(.type "code"), none, (.fields #[(.str "has" 468), (.str "Store.has" 469), (.str "/claim/cut.py" 470), (.int 74 0), (.int 2 0), (.int 0 0), (.int 0 0), (.int 3 0), (.ref 222), (.bool true), (.int 181 0), (.ref 223), .none, (.ref 224), (.ref 225), (.ref 226), (.int 473 0), (.int 74 0), (.str "/claim/cut.py" 474)]), #[]⟩) ::
  (nat_lit 228, ⟨(.type "function"), none, (.func ⟨"has", "Store.has", defArgs (inClass (top 23) 1), .stmts (defBody (inClass (top 23) 1)), defScope (inClass (top 23) 1), 3, [], .none, .none, .none, (.str "shadowpages.store" 426), none, (.ref 227), .none, 0⟩), #[]⟩) ::
  (nat_lit 229, ⟨(.type "tuple"), none, (.seq #[] 0), #[]⟩) ::
  (nat_lit 231, ⟨(.type "tuple"), none, (.seq #[(.str "self" 479), (.str "page" 480), (.str "cell" 481)] 0), #[]⟩) ::
  (nat_lit 232, ⟨(.type "tuple"), none, (.seq #[] 0), #[]⟩) ::
  (nat_lit 234, ⟨(.type "code"), none, (.fields #[(.str "word_at" 476), (.str "Store.word_at" 477), (.str "/claim/cut.py" 478), (.int 77 0), (.int 3 0), (.int 0 0), (.int 0 0), (.int 3 0), (.ref 229), (.bool true), (.int 181 0), (.ref 230), .none, (.ref 231), (.ref 232), (.ref 233), (.int 482 0), (.int 77 0), (.str "/claim/cut.py" 483)]), #[]⟩) ::
  (nat_lit 235, ⟨(.type "function"), none, (.func ⟨"word_at", "Store.word_at", defArgs (inClass (top 23) 2), .stmts (defBody (inClass (top 23) 2)), defScope (inClass (top 23) 2), 3, [], .none, .none, .none, (.str "shadowpages.store" 426), none, (.ref 234), .none, 0⟩), #[]⟩) ::
  (nat_lit 236, ⟨(.type "tuple"), none, (.seq #[] 0), #[]⟩) ::
  (nat_lit 238, ⟨(.type "tuple"), none, (.seq #[(.str "self" 488), (.str "page" 489), (.str "cell" 490), (.str "word" 491)] 0), #[]⟩) ::
  (nat_lit 239, ⟨(.type "tuple"), none, (.seq #[] 0), #[]⟩) ::
  (nat_lit 241, ⟨(.type "code"), none, (.fields #[(.str "put_word" 485), (.str "Store.put_word" 486), (.str "/claim/cut.py" 487), (.int 80 0), (.int 4 0), (.int 0 0), (.int 0 0), (.int 3 0), (.ref 236), (.bool true), (.int 181 0), (.ref 237), .none, (.ref 238), (.ref 239), (.ref 240), (.int 492 0), (.int 80 0), (.str "/claim/cut.py" 493)]), #[]⟩) ::
  (nat_lit 242, ⟨(.type "function"), none, (.func ⟨"put_word", "Store.put_word", defArgs (inClass (top 23) 3), .stmts (defBody (inClass (top 23) 3)), defScope (inClass (top 23) 3), 3, [], .none, .none, .none, (.str "shadowpages.store" 426), none, (.ref 241), .none, 0⟩), #[]⟩) ::
  (nat_lit 243, ⟨(.type "tuple"), none, (.seq #[] 0), #[]⟩) ::
  (nat_lit 245, ⟨(.type "tuple"), none, (.seq #[(.str "self" 498), (.str "page" 499), (.str "cell" 500)] 0), #[]⟩) ::
  (nat_lit 246, ⟨(.type "tuple"), none, (.seq #[] 0), #[]⟩) ::
  (nat_lit 248, ⟨(.type "code"), none, (.fields #[(.str "read" 495), (.str "Store.read" 496), (.str "/claim/cut.py" 497), (.int 83 0), (.int 3 0), (.int 0 0), (.int 0 0), (.int 3 0), (.ref 243), (.bool true), (.int 181 0), (.ref 244), .none, (.ref 245), (.ref 246), (.ref 247), (.int 501 0), (.int 83 0), (.str "/claim/cut.py" 502)]), #[]⟩) ::
  (nat_lit 249, ⟨(.type "function"), none, (.func ⟨"read", "Store.read", defArgs (inClass (top 23) 4), .stmts (defBody (inClass (top 23) 4)), defScope (inClass (top 23) 4), 3, [], .none, .none, .none, (.str "shadowpages.store" 426), none, (.ref 248), .none, 0⟩), #[]⟩) ::
  (nat_lit 250, ⟨(.type "tuple"), none, (.seq #[] 0), #[]⟩) ::
  (nat_lit 252, ⟨(.type "tuple"), none, (.seq #[(.str "self" 507), (.str "page" 508), (.str "cell" 509), (.str "word" 510)] 0), #[]⟩) ::
  (nat_lit 253, ⟨(.type "tuple"), none, (.seq #[] 0), #[]⟩) ::
  (nat_lit 255, ⟨(.type "code"), none, (.fields #[(.str "write" 504), (.str "Store.write" 505), (.str "/claim/cut.py" 506), (.int 87 0), (.int 4 0), (.int 0 0), (.int 0 0), (.int 3 0), (.ref 250), (.bool true), (.int 181 0), (.ref 251), .none, (.ref 252), (.ref 253), (.ref 254), (.int 511 0), (.int 87 0), (.str "/claim/cut.py" 512)]), #[]⟩) ::
  (nat_lit 256, ⟨(.type "function"), none, (.func ⟨"write", "Store.write", defArgs (inClass (top 23) 5), .stmts (defBody (inClass (top 23) 5)), defScope (inClass (top 23) 5), 3, [], .none, .none, .none, (.str "shadowpages.store" 426), none, (.ref 255), .none, 0⟩), #[]⟩) ::
  (nat_lit 257, ⟨(.type "tuple"), none, (.seq #[] 0), #[]⟩) ::
  (nat_lit 260, ⟨(.type "code"), none, (.fields #[(.str "words_of" 514), (.str "Store.words_of" 515), (.str "/claim/cut.py" 516), (.int 92 0), (.int 2 0), (.int 0 0), (.int 0 0), (.int 3 0), (.ref 257), (.bool true), (.int 181 0), (.ref 258), .none, .none, .none, (.ref 259), (.int 517 0), (.int 92 0), (.str "/claim/cut.py" 518)]), #[]⟩) ::
  (nat_lit 261, ⟨(.type "function"), none, (.func ⟨"words_of", "Store.words_of", defArgs (inClass (top 23) 6), .stmts (defBody (inClass (top 23) 6)), defScope (inClass (top 23) 6), 3, [], .none, .none, .none, (.str "shadowpages.store" 426), none, (.ref 260), .none, 0⟩), #[]⟩) ::
  (nat_lit 262, ⟨(.type "tuple"), none, (.seq #[] 0), #[]⟩) ::
  (nat_lit 264, ⟨(.type "tuple"), none, (.seq #[(.str "self" 523), (.str "page" 524), (.str "cell" 525)] 0), #[]⟩) ::
  (nat_lit 265, ⟨(.type "tuple"), none, (.seq #[] 0), #[]⟩) ::
  (nat_lit 267, ⟨(.type "code"), none, (.fields #[(.str "check_spot" 520), (.str "Store.check_spot" 521), (.str "/claim/cut.py" 522), (.int 95 0), (.int 3 0), (.int 0 0), (.int 0 0), (.int 3 0), (.ref 262), (.bool true), (.int 181 0), (.ref 263), .none, (.ref 264), (.ref 265), (.ref 266), (.int 526 0), (.int 95 0), (.str "/claim/cut.py" 527)]), #[]⟩) ::
  (nat_lit 268, ⟨(.type "function"), none, (.func ⟨"check_spot", "Store.check_spot", defArgs (inClass (top 23) 7), .stmts (defBody (inClass (top 23) 7)), defScope (inClass (top 23) 7), 3, [], .none, .none, .none, (.str "shadowpages.store" 426), none, (.ref 267), .none, 0⟩), #[]⟩) ::
  (nat_lit 269, ⟨(.type "tuple"), none, (.seq #[] 0), #[]⟩) ::
  (nat_lit 271, ⟨(.type "tuple"), none, (.seq #[(.str "self" 532), (.str "page" 533)] 0), #[]⟩) ::
  (nat_lit 272, ⟨(.type "tuple"), none, (.seq #[] 0), #[]⟩) ::
  (nat_lit 274, ⟨(.type "code"), none, (.fields #[(.str "check_page" 529), (.str "Store.check_page" 530), (.str "/claim/cut.py" 531), (.int 100 0), (.int 2 0), (.int 0 0), (.int 0 0), (.int 3 0), (.ref 269), (.bool true), (.int 181 0), (.ref 270), .none, (.ref 271), (.ref 272), (.ref 273), (.int 534 0), (.int 100 0), (.str "/claim/cut.py" 535)]), #[]⟩) ::
  (nat_lit 275, ⟨(.type "function"), none, (.func ⟨"check_page", "Store.check_page", defArgs (inClass (top 23) 8), .stmts (defBody (inClass (top 23) 8)), defScope (inClass (top 23) 8), 3, [], .none, .none, .none, (.str "shadowpages.store" 426), none, (.ref 274), .none, 0⟩), #[]⟩) ::
  (nat_lit 276, ⟨(.type "tuple"), none, (.seq #[] 0), #[]⟩) ::
  (nat_lit 277, ⟨(.type "dict"), none, (.dict #[⟨(PySem.PyData.keyHash P "__module__"), (.str "__module__" 456), (.str "shadowpages.store" 426)⟩, ⟨(PySem.PyData.keyHash P "__firstlineno__"), (.str "__firstlineno__" 460), (.int 69 459)⟩, ⟨(PySem.PyData.keyHash P "size"), (.str "size" 467), (.ref 221)⟩, ⟨(PySem.PyData.keyHash P "has"), (.str "has" 475), (.ref 228)⟩, ⟨(PySem.PyData.keyHash P "word_at"), (.str "word_at" 484), (.ref 235)⟩, ⟨(PySem.PyData.keyHash P "put_word"), (.str "put_word" 494), (.ref 242)⟩, ⟨(PySem.PyData.keyHash P "read"), (.str "read" 503), (.ref 249)⟩, ⟨(PySem.PyData.keyHash P "write"), (.str "write" 513), (.ref 256)⟩, ⟨(PySem.PyData.keyHash P "words_of"), (.str "words_of" 519), (.ref 261)⟩, ⟨(PySem.PyData.keyHash P "check_spot"), (.str "check_spot" 528), (.ref 268)⟩, ⟨(PySem.PyData.keyHash P "check_page"), (.str "check_page" 536), (.ref 275)⟩, ⟨(PySem.PyData.keyHash P "__static_attributes__"), (.str "__static_attributes__" 537), (.ref 276)⟩, ⟨(PySem.PyData.keyHash P "__dict__"), (.str "__dict__" 539), (.ref 279)⟩, ⟨(PySem.PyData.keyHash P "__weakref__"), (.str "__weakref__" 541), (.ref 280)⟩, ⟨(PySem.PyData.keyHash P "__doc__"), (.str "__doc__" 542), .none⟩] 4), #[]⟩) ::
  (nat_lit 278, ⟨(.type "type"), none, (.cls ⟨"Store", [(.type "object")], [(.ref 278), (.type "object")], 277, "Store", true, [], [(.ref 344), (.ref 487)], false, none, false⟩), #[none, none, (some (.str "Store" 449)), (some (.str "Store" 457)), (some (.builtin "object.__new__")), (some (.bool true))]⟩) ::
  (nat_lit 279, ⟨(.type "getset_descriptor"), none, (.fields #[(.str "__dict__" 538), (.ref 278), (.builtin "function.__dict__"), (.builtin "function.__dict__#set")]), #[]⟩) ::
  (nat_lit 280, ⟨(.type "getset_descriptor"), none, (.fields #[(.str "__weakref__" 540), (.ref 278), (.builtin "ExceptionGroup.__weakref__"), .none]), #[]⟩) ::
  (nat_lit 283, ⟨(.type "tuple"), none, (.seq #[(.ref 278)] 0), #[]⟩) ::
  (nat_lit 290, ⟨(.type "tuple"), none, (.seq #[] 0), #[]⟩) ::
  (nat_lit 293, ⟨(.type "code"), none, (.fields #[(.str "__init__" 557), (.str "Memory.__init__" 558), (.str "/claim/cut.py" 559), (.int 105 0), (.int 2 0), (.int 0 0), (.int 0 0), (.int 3 0), (.ref 290), (.bool true), (.int 181 0), (.ref 291), .none, .none, .none, (.ref 292), (.int 560 0), (.int 105 0), (.str "/claim/cut.py" 561)]), #[]⟩) ::
  (nat_lit 294, ⟨(.type "function"), none, (.func ⟨"__init__", "Memory.__init__", defArgs (inClass (top 24) 0), .stmts (defBody (inClass (top 24) 0)), defScope (inClass (top 24) 0), 3, [], .none, .none, .none, (.str "shadowpages.store" 426), none, (.ref 293), .none, 0⟩), #[]⟩) ::
  (nat_lit 295, ⟨(.type "tuple"), none, (.seq #[] 0), #[]⟩) ::
  (nat_lit 297, ⟨(.type "tuple"), none, (.seq #[(.str "self" 566)] 0), #[]⟩) ::
  (nat_lit 298, ⟨(.type "tuple"), none, (.seq #[] 0), #[]⟩) ::
  (nat_lit 300, ⟨(.type "code"), none, (.fields #[(.str "size" 563), (.str "Memory.size" 564), (.str "/claim/cut.py" 565), (.int 109 0), (.int 1 0), (.int 0 0), (.int 0 0), (.int 3 0), (.ref 295), (.bool true), (.int 181 0), (.ref 296), .none, (.ref 297), (.ref 298), (.ref 299), (.int 567 0), (.int 109 0), (.str "/claim/cut.py" 568)]), #[]⟩) ::
  (nat_lit 301, ⟨(.type "function"), none, (.func ⟨"size", "Memory.size", defArgs (inClass (top 24) 1), .stmts (defBody (inClass (top 24) 1)), defScope (inClass (top 24) 1), 3, [], .none, .none, .none, (.str "shadowpages.store" 426), none, (.ref 300), .none, 0⟩), #[]⟩) ::
  (nat_lit 302, ⟨(.type "tuple"), none, (.seq #[] 0), #[]⟩) ::
  (nat_lit 304, ⟨(.type "tuple"), none, (.seq #[(.str "self" 573), (.str "page" 574)] 0), #[]⟩) ::
  (nat_lit 305, ⟨(.type "tuple"), none, (.seq #[] 0), #[]⟩) ::
  (nat_lit 307, ⟨(.type "code"), none, (.fields #[(.str "has" 570), (.str "Memory.has" 571), (.str "/claim/cut.py" 572), (.int 112 0), (.int 2 0), (.int 0 0), (.int 0 0), (.int 3 0), (.ref 302), (.bool true), (.int 181 0), (.ref 303), .none, (.ref 304), (.ref 305), (.ref 306), (.int 575 0), (.int 112 0), (.str "/claim/cut.py" 576)]), #[]⟩) ::
  (nat_lit 308, ⟨(.type "function"), none, (.func ⟨"has", "Memory.has", defArgs (inClass (top 24) 2), .stmts (defBody (inClass (top 24) 2)), defScope (inClass (top 24) 2), 3, [], .none, .none, .none, (.str "shadowpages.store" 426), none, (.ref 307), .none, 0⟩), #[]⟩) ::
  (nat_lit 309, ⟨(.type "tuple"), none, (.seq #[] 0), #[]⟩) ::
  (nat_lit 311, ⟨(.type "tuple"), none, (.seq #[(.str "self" 581), (.str "page" 582), (.str "cell" 583)] 0), #[]⟩) ::
  (nat_lit 312, ⟨(.type "tuple"), none, (.seq #[] 0), #[]⟩) ::
  (nat_lit 314, ⟨(.type "code"), none, (.fields #[(.str "word_at" 578), (.str "Memory.word_at" 579), (.str "/claim/cut.py" 580), (.int 115 0), (.int 3 0), (.int 0 0), (.int 0 0), (.int 3 0), (.ref 309), (.bool true), (.int 181 0), (.ref 310), .none, (.ref 311), (.ref 312), (.ref 313), (.int 584 0), (.int 115 0), (.str "/claim/cut.py" 585)]), #[]⟩) ::
  (nat_lit 315, ⟨(.type "function"), none, (.func ⟨"word_at", "Memory.word_at", defArgs (inClass (top 24) 3), .stmts (defBody (inClass (top 24) 3)), defScope (inClass (top 24) 3), 3, [], .none, .none, .none, (.str "shadowpages.store" 426), none, (.ref 314), .none, 0⟩), #[]⟩) ::
  (nat_lit 316, ⟨(.type "tuple"), none, (.seq #[] 0), #[]⟩) ::
  (nat_lit 318, ⟨(.type "tuple"), none, (.seq #[(.str "self" 590), (.str "page" 591), (.str "cell" 592), (.str "word" 593)] 0), #[]⟩) ::
  (nat_lit 319, ⟨(.type "tuple"), none, (.seq #[] 0), #[]⟩) ::
  (nat_lit 321, ⟨(.type "code"), none, (.fields #[(.str "put_word" 587), (.str "Memory.put_word" 588), (.str "/claim/cut.py" 589), (.int 118 0), (.int 4 0), (.int 0 0), (.int 0 0), (.int 3 0), (.ref 316), (.bool true), (.int 181 0), (.ref 317), .none, (.ref 318), (.ref 319), (.ref 320), (.int 594 0), (.int 118 0), (.str "/claim/cut.py" 595)]), #[]⟩) ::
  (nat_lit 322, ⟨(.type "function"), none, (.func ⟨"put_word", "Memory.put_word", defArgs (inClass (top 24) 4), .stmts (defBody (inClass (top 24) 4)), defScope (inClass (top 24) 4), 3, [], .none, .none, .none, (.str "shadowpages.store" 426), none, (.ref 321), .none, 0⟩), #[]⟩) ::
  (nat_lit 323, ⟨(.type "tuple"), none, (.seq #[] 0), #[]⟩) ::
  (nat_lit 325, ⟨(.type "tuple"), none, (.seq #[(.str "self" 600), (.str "page" 601)] 0), #[]⟩) ::
  (nat_lit 326, ⟨(.type "tuple"), none, (.seq #[] 0), #[]⟩) ::
  (nat_lit 328, ⟨(.type "code"), none, (.fields #[(.str "give" 597), (.str "Memory.give" 598), (.str "/claim/cut.py" 599), (.int 121 0), (.int 2 0), (.int 0 0), (.int 0 0), (.int 3 0), (.ref 323), (.bool true), (.int 181 0), (.ref 324), .none, (.ref 325), (.ref 326), (.ref 327), (.int 602 0), (.int 121 0), (.str "/claim/cut.py" 603)]), #[]⟩) ::
  (nat_lit 329, ⟨(.type "function"), none, (.func ⟨"give", "Memory.give", defArgs (inClass (top 24) 5), .stmts (defBody (inClass (top 24) 5)), defScope (inClass (top 24) 5), 3, [], .none, .none, .none, (.str "shadowpages.store" 426), none, (.ref 328), .none, 0⟩), #[]⟩) ::
  (nat_lit 330, ⟨(.type "tuple"), none, (.seq #[] 0), #[]⟩) ::
  (nat_lit 332, ⟨(.type "tuple"), none, (.seq #[(.str "self" 608), (.str "page" 609), (.str "words" 610)] 0), #[]⟩) ::
  (nat_lit 333, ⟨(.type "tuple"), none, (.seq #[] 0), #[]⟩) ::
  (nat_lit 335, ⟨(.type "code"), none, (.fields #[(.str "lay" 605), (.str "Memory.lay" 606), (.str "/claim/cut.py" 607), (.int 124 0), (.int 3 0), (.int 0 0), (.int 0 0), (.int 3 0), (.ref 330), (.bool true), (.int 181 0), (.ref 331), .none, (.ref 332), (.ref 333), (.ref 334), (.int 611 0), (.int 124 0), (.str "/claim/cut.py" 612)]), #[]⟩) ::
  (nat_lit 336, ⟨(.type "function"), none, (.func ⟨"lay", "Memory.lay", defArgs (inClass (top 24) 6), .stmts (defBody (inClass (top 24) 6)), defScope (inClass (top 24) 6), 3, [], .none, .none, .none, (.str "shadowpages.store" 426), none, (.ref 335), .none, 0⟩), #[]⟩) ::
  (nat_lit 337, ⟨(.type "tuple"), none, (.seq #[] 0), #[]⟩) ::
  (nat_lit 340, ⟨(.type "code"), none, (.fields #[(.str "told" 614), (.str "Memory.told" 615), (.str "/claim/cut.py" 616), (.int 127 0), (.int 1 0), (.int 0 0), (.int 0 0), (.int 3 0), (.ref 337), (.bool true), (.int 181 0), (.ref 338), .none, .none, .none, (.ref 339), (.int 617 0), (.int 127 0), (.str "/claim/cut.py" 618)]), #[]⟩) ::
  (nat_lit 341, ⟨(.type "function"), none, (.func ⟨"told", "Memory.told", defArgs (inClass (top 24) 7), .stmts (defBody (inClass (top 24) 7)), defScope (inClass (top 24) 7), 3, [], .none, .none, .none, (.str "shadowpages.store" 426), none, (.ref 340), .none, 0⟩), #[]⟩) ::
  (nat_lit 342, ⟨(.type "tuple"), none, (.seq #[(.str "held" 620)] 0), #[]⟩) ::
  (nat_lit 343, ⟨(.type "dict"), none, (.dict #[⟨(PySem.PyData.keyHash P "__module__"), (.str "__module__" 552), (.str "shadowpages.store" 426)⟩, ⟨(PySem.PyData.keyHash P "__firstlineno__"), (.str "__firstlineno__" 556), (.int 103 555)⟩, ⟨(PySem.PyData.keyHash P "__init__"), (.str "__init__" 562), (.ref 294)⟩, ⟨(PySem.PyData.keyHash P "size"), (.str "size" 569), (.ref 301)⟩, ⟨(PySem.PyData.keyHash P "has"), (.str "has" 577), (.ref 308)⟩, ⟨(PySem.PyData.keyHash P "word_at"), (.str "word_at" 586), (.ref 315)⟩, ⟨(PySem.PyData.keyHash P "put_word"), (.str "put_word" 596), (.ref 322)⟩, ⟨(PySem.PyData.keyHash P "give"), (.str "give" 604), (.ref 329)⟩, ⟨(PySem.PyData.keyHash P "lay"), (.str "lay" 613), (.ref 336)⟩, ⟨(PySem.PyData.keyHash P "told"), (.str "told" 619), (.ref 341)⟩, ⟨(PySem.PyData.keyHash P "__static_attributes__"), (.str "__static_attributes__" 621), (.ref 342)⟩, ⟨(PySem.PyData.keyHash P "__doc__"), (.str "__doc__" 622), .none⟩] 2), #[]⟩) ::
  (nat_lit 344, ⟨(.type "type"), none, (.cls ⟨"Memory", [(.ref 278)], [(.ref 344), (.ref 278), (.type "object")], 343, "Memory", true, [], [], false, none, false⟩), #[(some (.ref 283)), none, (some (.str "Memory" 545)), (some (.str "Memory" 553)), (some (.builtin "object.__new__")), (some (.bool true))]⟩) ::
  (nat_lit 347, ⟨(.type "tuple"), none, (.seq #[(.ref 278)] 0), #[]⟩) ::
  (nat_lit 354, ⟨(.type "tuple"), none, (.seq #[] 0), #[]⟩) ::
  (nat_lit 356, ⟨(.type "tuple"), none, (.seq #[(.str "self" 642), (.str "most" 643)] 0), #[]⟩) ::
  (nat_lit 357, ⟨(.type "tuple"), none, (.seq #[] 0), #[]⟩) ::
  (nat_lit 359, ⟨(.type "code"), none, (.fields #[(.str "__init__" 639), (.str "Ways.__init__" 640), (.str "/claim/cut.py" 641), (.int 132 0), (.int 2 0), (.int 0 0), (.int 0 0), (.int 3 0), (.ref 354), (.bool true), (.int 181 0), (.ref 355), .none, (.ref 356), (.ref 357), (.ref 358), (.int 644 0), (.int 132 0), (.str "/claim/cut.py" 645)]), #[]⟩) ::
  (nat_lit 360, ⟨(.type "function"), none, (.func ⟨"__init__", "Ways.__init__", defArgs (inClass (top 26) 0), .stmts (defBody (inClass (top 26) 0)), defScope (inClass (top 26) 0), 3, [], .none, .none, .none, (.str "shadowpages.ways" 625), none, (.ref 359), .none, 0⟩), #[]⟩) ::
  (nat_lit 361, ⟨(.type "tuple"), none, (.seq #[] 0), #[]⟩) ::
  (nat_lit 363, ⟨(.type "tuple"), none, (.seq #[(.str "self" 650), (.str "page" 651)] 0), #[]⟩) ::
  (nat_lit 364, ⟨(.type "tuple"), none, (.seq #[] 0), #[]⟩) ::
  (nat_lit 366, ⟨(.type "code"), none, (.fields #[(.str "give_up" 647), (.str "Ways.give_up" 648), (.str "/claim/cut.py" 649), (.int 136 0), (.int 2 0), (.int 0 0), (.int 0 0), (.int 3 0), (.ref 361), (.bool true), (.int 181 0), (.ref 362), .none, (.ref 363), (.ref 364), (.ref 365), (.int 652 0), (.int 136 0), (.str "/claim/cut.py" 653)]), #[]⟩) ::
  (nat_lit 367, ⟨(.type "function"), none, (.func ⟨"give_up", "Ways.give_up", defArgs (inClass (top 26) 1), .stmts (defBody (inClass (top 26) 1)), defScope (inClass (top 26) 1), 3, [], .none, .none, .none, (.str "shadowpages.ways" 625), none, (.ref 366), .none, 0⟩), #[]⟩) ::
  (nat_lit 368, ⟨(.type "tuple"), none, (.seq #[] 0), #[]⟩) ::
  (nat_lit 370, ⟨(.type "tuple"), none, (.seq #[(.str "self" 658), (.str "page" 659)] 0), #[]⟩) ::
  (nat_lit 371, ⟨(.type "tuple"), none, (.seq #[] 0), #[]⟩) ::
  (nat_lit 373, ⟨(.type "code"), none, (.fields #[(.str "come_back" 655), (.str "Ways.come_back" 656), (.str "/claim/cut.py" 657), (.int 139 0), (.int 2 0), (.int 0 0), (.int 0 0), (.int 3 0), (.ref 368), (.bool true), (.int 181 0), (.ref 369), .none, (.ref 370), (.ref 371), (.ref 372), (.int 660 0), (.int 139 0), (.str "/claim/cut.py" 661)]), #[]⟩) ::
  (nat_lit 374, ⟨(.type "function"), none, (.func ⟨"come_back", "Ways.come_back", defArgs (inClass (top 26) 2), .stmts (defBody (inClass (top 26) 2)), defScope (inClass (top 26) 2), 3, [], .none, .none, .none, (.str "shadowpages.ways" 625), none, (.ref 373), .none, 0⟩), #[]⟩) ::
  (nat_lit 375, ⟨(.type "tuple"), none, (.seq #[] 0), #[]⟩) ::
  (nat_lit 377, ⟨(.type "tuple"), none, (.seq #[(.str "self" 666)] 0), #[]⟩) ::
  (nat_lit 378, ⟨(.type "tuple"), none, (.seq #[] 0), #[]⟩) ::
  (nat_lit 380, ⟨(.type "code"), none, (.fields #[(.str "ask_house" 663), (.str "Ways.ask_house" 664), (.str "/claim/cut.py" 665), (.int 142 0), (.int 1 0), (.int 0 0), (.int 0 0), (.int 3 0), (.ref 375), (.bool true), (.int 181 0), (.ref 376), .none, (.ref 377), (.ref 378), (.ref 379), (.int 667 0), (.int 142 0), (.str "/claim/cut.py" 668)]), #[]⟩) ::
  (nat_lit 381, ⟨(.type "function"), none, (.func ⟨"ask_house", "Ways.ask_house", defArgs (inClass (top 26) 3), .stmts (defBody (inClass (top 26) 3)), defScope (inClass (top 26) 3), 3, [], .none, .none, .none, (.str "shadowpages.ways" 625), none, (.ref 380), .none, 0⟩), #[]⟩) ::
  (nat_lit 382, ⟨(.type "tuple"), none, (.seq #[] 0), #[]⟩) ::
  (nat_lit 384, ⟨(.type "tuple"), none, (.seq #[(.str "self" 673), (.str "place" 674), (.str "kernel" 675)] 0), #[]⟩) ::
  (nat_lit 385, ⟨(.type "tuple"), none, (.seq #[] 0), #[]⟩) ::
  (nat_lit 387, ⟨(.type "code"), none, (.fields #[(.str "load" 670), (.str "Ways.load" 671), (.str "/claim/cut.py" 672), (.int 145 0), (.int 3 0), (.int 0 0), (.int 0 0), (.int 3 0), (.ref 382), (.bool true), (.int 181 0), (.ref 383), .none, (.ref 384), (.ref 385), (.ref 386), (.int 676 0), (.int 145 0), (.str "/claim/cut.py" 677)]), #[]⟩) ::
  (nat_lit 388, ⟨(.type "function"), none, (.func ⟨"load", "Ways.load", defArgs (inClass (top 26) 4), .stmts (defBody (inClass (top 26) 4)), defScope (inClass (top 26) 4), 3, [], .none, .none, .none, (.str "shadowpages.ways" 625), none, (.ref 387), .none, 0⟩), #[]⟩) ::
  (nat_lit 389, ⟨(.type "tuple"), none, (.seq #[] 0), #[]⟩) ::
  (nat_lit 391, ⟨(.type "tuple"), none, (.seq #[(.str "self" 682), (.str "place" 683), (.str "word" 684), (.str "kernel" 685)] 0), #[]⟩) ::
  (nat_lit 392, ⟨(.type "tuple"), none, (.seq #[] 0), #[]⟩) ::
  (nat_lit 394, ⟨(.type "code"), none, (.fields #[(.str "save" 679), (.str "Ways.save" 680), (.str "/claim/cut.py" 681), (.int 148 0), (.int 4 0), (.int 0 0), (.int 0 0), (.int 3 0), (.ref 389), (.bool true), (.int 181 0), (.ref 390), .none, (.ref 391), (.ref 392), (.ref 393), (.int 686 0), (.int 148 0), (.str "/claim/cut.py" 687)]), #[]⟩) ::
  (nat_lit 395, ⟨(.type "function"), none, (.func ⟨"save", "Ways.save", defArgs (inClass (top 26) 5), .stmts (defBody (inClass (top 26) 5)), defScope (inClass (top 26) 5), 3, [], .none, .none, .none, (.str "shadowpages.ways" 625), none, (.ref 394), .none, 0⟩), #[]⟩) ::
  (nat_lit 396, ⟨(.type "tuple"), none, (.seq #[] 0), #[]⟩) ::
  (nat_lit 398, ⟨(.type "tuple"), none, (.seq #[(.str "self" 692), (.str "place" 693), (.str "write" 694), (.str "kernel" 695)] 0), #[]⟩) ::
  (nat_lit 399, ⟨(.type "tuple"), none, (.seq #[] 0), #[]⟩) ::
  (nat_lit 401, ⟨(.type "code"), none, (.fields #[(.str "reach" 689), (.str "Ways.reach" 690), (.str "/claim/cut.py" 691), (.int 151 0), (.int 4 0), (.int 0 0), (.int 0 0), (.int 3 0), (.ref 396), (.bool true), (.int 181 0), (.ref 397), .none, (.ref 398), (.ref 399), (.ref 400), (.int 696 0), (.int 151 0), (.str "/claim/cut.py" 697)]), #[]⟩) ::
  (nat_lit 402, ⟨(.type "function"), none, (.func ⟨"reach", "Ways.reach", defArgs (inClass (top 26) 6), .stmts (defBody (inClass (top 26) 6)), defScope (inClass (top 26) 6), 3, [], .none, .none, .none, (.str "shadowpages.ways" 625), none, (.ref 401), .none, 0⟩), #[]⟩) ::
  (nat_lit 403, ⟨(.type "tuple"), none, (.seq #[] 0), #[]⟩) ::
  (nat_lit 405, ⟨(.type "tuple"), none, (.seq #[(.str "self" 702), (.str "place" 703), (.str "write" 704), (.str "kernel" 705)] 0), #[]⟩) ::
  (nat_lit 406, ⟨(.type "tuple"), none, (.seq #[] 0), #[]⟩) ::
  (nat_lit 408, ⟨(.type "code"), none, (.fields #[(.str "remembered" 699), (.str "Ways.remembered" 700), (.str "/claim/cut.py" 701), (.int 154 0), (.int 4 0), (.int 0 0), (.int 0 0), (.int 3 0), (.ref 403), (.bool true), (.int 181 0), (.ref 404), .none, (.ref 405), (.ref 406), (.ref 407), (.int 706 0), (.int 154 0), (.str "/claim/cut.py" 707)]), #[]⟩) ::
  (nat_lit 409, ⟨(.type "function"), none, (.func ⟨"remembered", "Ways.remembered", defArgs (inClass (top 26) 7), .stmts (defBody (inClass (top 26) 7)), defScope (inClass (top 26) 7), 3, [], .none, .none, .none, (.str "shadowpages.ways" 625), none, (.ref 408), .none, 0⟩), #[]⟩) ::
  (nat_lit 410, ⟨(.type "tuple"), none, (.seq #[] 0), #[]⟩) ::
  (nat_lit 412, ⟨(.type "tuple"), none, (.seq #[(.str "self" 712), (.str "place" 713), (.str "write" 714), (.str "kernel" 715)] 0), #[]⟩) ::
  (nat_lit 413, ⟨(.type "tuple"), none, (.seq #[] 0), #[]⟩) ::
  (nat_lit 415, ⟨(.type "code"), none, (.fields #[(.str "walked" 709), (.str "Ways.walked" 710), (.str "/claim/cut.py" 711), (.int 157 0), (.int 4 0), (.int 0 0), (.int 0 0), (.int 3 0), (.ref 410), (.bool true), (.int 181 0), (.ref 411), .none, (.ref 412), (.ref 413), (.ref 414), (.int 716 0), (.int 157 0), (.str "/claim/cut.py" 717)]), #[]⟩) ::
  (nat_lit 416, ⟨(.type "function"), none, (.func ⟨"walked", "Ways.walked", defArgs (inClass (top 26) 8), .stmts (defBody (inClass (top 26) 8)), defScope (inClass (top 26) 8), 3, [], .none, .none, .none, (.str "shadowpages.ways" 625), none, (.ref 415), .none, 0⟩), #[]⟩) ::
  (nat_lit 417, ⟨(.type "tuple"), none, (.seq #[] 0), #[]⟩) ::
  (nat_lit 419, ⟨(.type "tuple"), none, (.seq #[(.str "self" 722), (.str "spot" 723)] 0), #[]⟩) ::
  (nat_lit 420, ⟨(.type "tuple"), none, (.seq #[] 0), #[]⟩) ::
  (nat_lit 422, ⟨(.type "code"), none, (.fields #[(.str "peek" 719), (.str "Ways.peek" 720), (.str "/claim/cut.py" 721), (.int 160 0), (.int 2 0), (.int 0 0), (.int 0 0), (.int 3 0), (.ref 417), (.bool true), (.int 181 0), (.ref 418), .none, (.ref 419), (.ref 420), (.ref 421), (.int 724 0), (.int 160 0), (.str "/claim/cut.py" 725)]), #[]⟩) ::
  (nat_lit 423, ⟨(.type "function"), none, (.func ⟨"peek", "Ways.peek", defArgs (inClass (top 26) 9), .stmts (defBody (inClass (top 26) 9)), defScope (inClass (top 26) 9), 3, [], .none, .none, .none, (.str "shadowpages.ways" 625), none, (.ref 422), .none, 0⟩), #[]⟩) ::
  (nat_lit 424, ⟨(.type "tuple"), none, (.seq #[] 0), #[]⟩) ::
  (nat_lit 426, ⟨(.type "tuple"), none, (.seq #[(.str "self" 730), (.str "spot" 731), (.str "word" 732)] 0), #[]⟩) ::
  (nat_lit 427, ⟨(.type "tuple"), none, (.seq #[] 0), #[]⟩) ::
  (nat_lit 429, ⟨(.type "code"), none, (.fields #[(.str "poke" 727), (.str "Ways.poke" 728), (.str "/claim/cut.py" 729), (.int 163 0), (.int 3 0), (.int 0 0), (.int 0 0), (.int 3 0), (.ref 424), (.bool true), (.int 181 0), (.ref 425), .none, (.ref 426), (.ref 427), (.ref 428), (.int 733 0), (.int 163 0), (.str "/claim/cut.py" 734)]), #[]⟩) ::
  (nat_lit 430, ⟨(.type "function"), none, (.func ⟨"poke", "Ways.poke", defArgs (inClass (top 26) 10), .stmts (defBody (inClass (top 26) 10)), defScope (inClass (top 26) 10), 3, [], .none, .none, .none, (.str "shadowpages.ways" 625), none, (.ref 429), .none, 0⟩), #[]⟩) ::
  (nat_lit 431, ⟨(.type "tuple"), none, (.seq #[] 0), #[]⟩) ::
  (nat_lit 433, ⟨(.type "tuple"), none, (.seq #[(.str "self" 739), (.str "spot" 740)] 0), #[]⟩) ::
  (nat_lit 434, ⟨(.type "tuple"), none, (.seq #[] 0), #[]⟩) ::
  (nat_lit 436, ⟨(.type "code"), none, (.fields #[(.str "check_beyond" 736), (.str "Ways.check_beyond" 737), (.str "/claim/cut.py" 738), (.int 166 0), (.int 2 0), (.int 0 0), (.int 0 0), (.int 3 0), (.ref 431), (.bool true), (.int 181 0), (.ref 432), .none, (.ref 433), (.ref 434), (.ref 435), (.int 741 0), (.int 166 0), (.str "/claim/cut.py" 742)]), #[]⟩) ::
  (nat_lit 437, ⟨(.type "function"), none, (.func ⟨"check_beyond", "Ways.check_beyond", defArgs (inClass (top 26) 11), .stmts (defBody (inClass (top 26) 11)), defScope (inClass (top 26) 11), 3, [], .none, .none, .none, (.str "shadowpages.ways" 625), none, (.ref 436), .none, 0⟩), #[]⟩) ::
  (nat_lit 438, ⟨(.type "tuple"), none, (.seq #[] 0), #[]⟩) ::
  (nat_lit 440, ⟨(.type "tuple"), none, (.seq #[(.str "self" 747)] 0), #[]⟩) ::
  (nat_lit 441, ⟨(.type "tuple"), none, (.seq #[] 0), #[]⟩) ::
  (nat_lit 443, ⟨(.type "code"), none, (.fields #[(.str "root" 744), (.str "Ways.root" 745), (.str "/claim/cut.py" 746), (.int 169 0), (.int 1 0), (.int 0 0), (.int 0 0), (.int 3 0), (.ref 438), (.bool true), (.int 181 0), (.ref 439), .none, (.ref 440), (.ref 441), (.ref 442), (.int 748 0), (.int 169 0), (.str "/claim/cut.py" 749)]), #[]⟩) ::
  (nat_lit 444, ⟨(.type "function"), none, (.func ⟨"root", "Ways.root", defArgs (inClass (top 26) 12), .stmts (defBody (inClass (top 26) 12)), defScope (inClass (top 26) 12), 3, [], .none, .none, .none, (.str "shadowpages.ways" 625), none, (.ref 443), .none, 0⟩), #[]⟩) ::
  (nat_lit 445, ⟨(.type "tuple"), none, (.seq #[] 0), #[]⟩) ::
  (nat_lit 447, ⟨(.type "tuple"), none, (.seq #[(.str "self" 754), (.str "root" 755)] 0), #[]⟩) ::
  (nat_lit 448, ⟨(.type "tuple"), none, (.seq #[] 0), #[]⟩) ::
  (nat_lit 450, ⟨(.type "code"), none, (.fields #[(.str "turn_root" 751), (.str "Ways.turn_root" 752), (.str "/claim/cut.py" 753), (.int 172 0), (.int 2 0), (.int 0 0), (.int 0 0), (.int 3 0), (.ref 445), (.bool true), (.int 181 0), (.ref 446), .none, (.ref 447), (.ref 448), (.ref 449), (.int 756 0), (.int 172 0), (.str "/claim/cut.py" 757)]), #[]⟩) ::
  (nat_lit 451, ⟨(.type "function"), none, (.func ⟨"turn_root", "Ways.turn_root", defArgs (inClass (top 26) 13), .stmts (defBody (inClass (top 26) 13)), defScope (inClass (top 26) 13), 3, [], .none, .none, .none, (.str "shadowpages.ways" 625), none, (.ref 450), .none, 0⟩), #[]⟩) ::
  (nat_lit 452, ⟨(.type "tuple"), none, (.seq #[] 0), #[]⟩) ::
  (nat_lit 454, ⟨(.type "tuple"), none, (.seq #[(.str "self" 762), (.str "place" 763)] 0), #[]⟩) ::
  (nat_lit 455, ⟨(.type "tuple"), none, (.seq #[] 0), #[]⟩) ::
  (nat_lit 457, ⟨(.type "code"), none, (.fields #[(.str "drop" 759), (.str "Ways.drop" 760), (.str "/claim/cut.py" 761), (.int 175 0), (.int 2 0), (.int 0 0), (.int 0 0), (.int 3 0), (.ref 452), (.bool true), (.int 181 0), (.ref 453), .none, (.ref 454), (.ref 455), (.ref 456), (.int 764 0), (.int 175 0), (.str "/claim/cut.py" 765)]), #[]⟩) ::
  (nat_lit 458, ⟨(.type "function"), none, (.func ⟨"drop", "Ways.drop", defArgs (inClass (top 26) 14), .stmts (defBody (inClass (top 26) 14)), defScope (inClass (top 26) 14), 3, [], .none, .none, .none, (.str "shadowpages.ways" 625), none, (.ref 457), .none, 0⟩), #[]⟩) ::
  (nat_lit 459, ⟨(.type "tuple"), none, (.seq #[] 0), #[]⟩) ::
  (nat_lit 461, ⟨(.type "tuple"), none, (.seq #[(.str "self" 770), (.str "page" 771)] 0), #[]⟩) ::
  (nat_lit 462, ⟨(.type "tuple"), none, (.seq #[] 0), #[]⟩) ::
  (nat_lit 464, ⟨(.type "code"), none, (.fields #[(.str "give" 767), (.str "Ways.give" 768), (.str "/claim/cut.py" 769), (.int 178 0), (.int 2 0), (.int 0 0), (.int 0 0), (.int 3 0), (.ref 459), (.bool true), (.int 181 0), (.ref 460), .none, (.ref 461), (.ref 462), (.ref 463), (.int 772 0), (.int 178 0), (.str "/claim/cut.py" 773)]), #[]⟩) ::
  (nat_lit 465, ⟨(.type "function"), none, (.func ⟨"give", "Ways.give", defArgs (inClass (top 26) 15), .stmts (defBody (inClass (top 26) 15)), defScope (inClass (top 26) 15), 3, [], .none, .none, .none, (.str "shadowpages.ways" 625), none, (.ref 464), .none, 0⟩), #[]⟩) ::
  (nat_lit 466, ⟨(.type "tuple"), none, (.seq #[] 0), #[]⟩) ::
  (nat_lit 468, ⟨(.type "tuple"), none, (.seq #[(.str "self" 778), (.str "page" 779)] 0), #[]⟩) ::
  (nat_lit 469, ⟨(.type "tuple"), none, (.seq #[] 0), #[]⟩) ::
  (nat_lit 471, ⟨(.type "code"), none, (.fields #[(.str "want" 775), (.str "Ways.want" 776), (.str "/claim/cut.py" 777), (.int 181 0), (.int 2 0), (.int 0 0), (.int 0 0), (.int 3 0), (.ref 466), (.bool true), (.int 181 0), (.ref 467), .none, (.ref 468), (.ref 469), (.ref 470), (.int 780 0), (.int 181 0), (.str "/claim/cut.py" 781)]), #[]⟩) ::
  (nat_lit 472, ⟨(.type "function"), none, (.func ⟨"want", "Ways.want", defArgs (inClass (top 26) 16), .stmts (defBody (inClass (top 26) 16)), defScope (inClass (top 26) 16), 3, [], .none, .none, .none, (.str "shadowpages.ways" 625), none, (.ref 471), .none, 0⟩), #[]⟩) ::
  (nat_lit 473, ⟨(.type "tuple"), none, (.seq #[] 0), #[]⟩) ::
  (nat_lit 475, ⟨(.type "tuple"), none, (.seq #[(.str "self" 786)] 0), #[]⟩) ::
  (nat_lit 476, ⟨(.type "tuple"), none, (.seq #[] 0), #[]⟩) ::
  (nat_lit 478, ⟨(.type "code"), none, (.fields #[(.str "shelf" 783), (.str "Ways.shelf" 784), (.str "/claim/cut.py" 785), (.int 184 0), (.int 1 0), (.int 0 0), (.int 0 0), (.int 3 0), (.ref 473), (.bool true), (.int 181 0), (.ref 474), .none, (.ref 475), (.ref 476), (.ref 477), (.int 787 0), (.int 184 0), (.str "/claim/cut.py" 788)]), #[]⟩) ::
  (nat_lit 479, ⟨(.type "function"), none, (.func ⟨"shelf", "Ways.shelf", defArgs (inClass (top 26) 17), .stmts (defBody (inClass (top 26) 17)), defScope (inClass (top 26) 17), 3, [], .none, .none, .none, (.str "shadowpages.ways" 625), none, (.ref 478), .none, 0⟩), #[]⟩) ::
  (nat_lit 480, ⟨(.type "tuple"), none, (.seq #[] 0), #[]⟩) ::
  (nat_lit 483, ⟨(.type "code"), none, (.fields #[(.str "pages" 790), (.str "Ways.pages" 791), (.str "/claim/cut.py" 792), (.int 187 0), (.int 1 0), (.int 0 0), (.int 0 0), (.int 3 0), (.ref 480), (.bool true), (.int 181 0), (.ref 481), .none, .none, .none, (.ref 482), (.int 793 0), (.int 187 0), (.str "/claim/cut.py" 794)]), #[]⟩) ::
  (nat_lit 484, ⟨(.type "function"), none, (.func ⟨"pages", "Ways.pages", defArgs (inClass (top 26) 18), .stmts (defBody (inClass (top 26) 18)), defScope (inClass (top 26) 18), 3, [], .none, .none, .none, (.str "shadowpages.ways" 625), none, (.ref 483), .none, 0⟩), #[]⟩) ::
  (nat_lit 485, ⟨(.type "tuple"), none, (.seq #[(.str "base" 796), (.str "rack" 797)] 0), #[]⟩) ::
  (nat_lit 486, ⟨(.type "dict"), none, (.dict #[⟨(PySem.PyData.keyHash P "__module__"), (.str "__module__" 634), (.str "shadowpages.ways" 625)⟩, ⟨(PySem.PyData.keyHash P "__firstlineno__"), (.str "__firstlineno__" 638), (.int 130 637)⟩, ⟨(PySem.PyData.keyHash P "__init__"), (.str "__init__" 646), (.ref 360)⟩, ⟨(PySem.PyData.keyHash P "give_up"), (.str "give_up" 654), (.ref 367)⟩, ⟨(PySem.PyData.keyHash P "come_back"), (.str "come_back" 662), (.ref 374)⟩, ⟨(PySem.PyData.keyHash P "ask_house"), (.str "ask_house" 669), (.ref 381)⟩, ⟨(PySem.PyData.keyHash P "load"), (.str "load" 678), (.ref 388)⟩, ⟨(PySem.PyData.keyHash P "save"), (.str "save" 688), (.ref 395)⟩, ⟨(PySem.PyData.keyHash P "reach"), (.str "reach" 698), (.ref 402)⟩, ⟨(PySem.PyData.keyHash P "remembered"), (.str "remembered" 708), (.ref 409)⟩, ⟨(PySem.PyData.keyHash P "walked"), (.str "walked" 718), (.ref 416)⟩, ⟨(PySem.PyData.keyHash P "peek"), (.str "peek" 726), (.ref 423)⟩, ⟨(PySem.PyData.keyHash P "poke"), (.str "poke" 735), (.ref 430)⟩, ⟨(PySem.PyData.keyHash P "check_beyond"), (.str "check_beyond" 743), (.ref 437)⟩, ⟨(PySem.PyData.keyHash P "root"), (.str "root" 750), (.ref 444)⟩, ⟨(PySem.PyData.keyHash P "turn_root"), (.str "turn_root" 758), (.ref 451)⟩, ⟨(PySem.PyData.keyHash P "drop"), (.str "drop" 766), (.ref 458)⟩, ⟨(PySem.PyData.keyHash P "give"), (.str "give" 774), (.ref 465)⟩, ⟨(PySem.PyData.keyHash P "want"), (.str "want" 782), (.ref 472)⟩, ⟨(PySem.PyData.keyHash P "shelf"), (.str "shelf" 789), (.ref 479)⟩, ⟨(PySem.PyData.keyHash P "pages"), (.str "pages" 795), (.ref 484)⟩, ⟨(PySem.PyData.keyHash P "__static_attributes__"), (.str "__static_attributes__" 798), (.ref 485)⟩, ⟨(PySem.PyData.keyHash P "__doc__"), (.str "__doc__" 799), .none⟩] 2), #[]⟩) ::
  (nat_lit 487, ⟨(.type "type"), none, (.cls ⟨"Ways", [(.ref 278)], [(.ref 487), (.ref 278), (.type "object")], 486, "Ways", true, [], [(.ref 555)], false, none, false⟩), #[(some (.ref 347)), none, (some (.str "Ways" 627)), (some (.str "Ways" 635)), (some (.builtin "object.__new__")), (some (.bool true))]⟩) ::
  (nat_lit 490, ⟨(.type "tuple"), none, (.seq #[(.ref 487)] 0), #[]⟩) ::
  (nat_lit 497, ⟨(.type "tuple"), none, (.seq #[] 0), #[]⟩) ::
  (nat_lit 499, ⟨(.type "tuple"), none, (.seq #[(.str "self" 817), (.str "pages" 818), (.str "most" 819), (.str "words" 820)] 0), #[]⟩) ::
  (nat_lit 500, ⟨(.type "tuple"), none, (.seq #[] 0), #[]⟩) ::
  (nat_lit 502, ⟨(.type "code"), none, (.fields #[(.str "__init__" 814), (.str "Plain.__init__" 815), (.str "/claim/cut.py" 816), (.int 191 0), (.int 4 0), (.int 0 0), (.int 0 0), (.int 3 0), (.ref 497), (.bool true), (.int 181 0), (.ref 498), .none, (.ref 499), (.ref 500), (.ref 501), (.int 821 0), (.int 191 0), (.str "/claim/cut.py" 822)]), #[]⟩) ::
  (nat_lit 503, ⟨(.type "function"), none, (.func ⟨"__init__", "Plain.__init__", defArgs (inClass (top 27) 0), .stmts (defBody (inClass (top 27) 0)), defScope (inClass (top 27) 0), 3, [], .none, .none, .none, (.str "shadowpages.ways" 625), none, (.ref 502), .none, 0⟩), #[]⟩) ::
  (nat_lit 504, ⟨(.type "tuple"), none, (.seq #[] 0), #[]⟩) ::
  (nat_lit 506, ⟨(.type "tuple"), none, (.seq #[(.str "self" 827)] 0), #[]⟩) ::
  (nat_lit 507, ⟨(.type "tuple"), none, (.seq #[] 0), #[]⟩) ::
  (nat_lit 509, ⟨(.type "code"), none, (.fields #[(.str "size" 824), (.str "Plain.size" 825), (.str "/claim/cut.py" 826), (.int 196 0), (.int 1 0), (.int 0 0), (.int 0 0), (.int 3 0), (.ref 504), (.bool true), (.int 181 0), (.ref 505), .none, (.ref 506), (.ref 507), (.ref 508), (.int 828 0), (.int 196 0), (.str "/claim/cut.py" 829)]), #[]⟩) ::
  (nat_lit 510, ⟨(.type "function"), none, (.func ⟨"size", "Plain.size", defArgs (inClass (top 27) 1), .stmts (defBody (inClass (top 27) 1)), defScope (inClass (top 27) 1), 3, [], .none, .none, .none, (.str "shadowpages.ways" 625), none, (.ref 509), .none, 0⟩), #[]⟩) ::
  (nat_lit 511, ⟨(.type "tuple"), none, (.seq #[] 0), #[]⟩) ::
  (nat_lit 513, ⟨(.type "tuple"), none, (.seq #[(.str "self" 834), (.str "page" 835)] 0), #[]⟩) ::
  (nat_lit 514, ⟨(.type "tuple"), none, (.seq #[] 0), #[]⟩) ::
  (nat_lit 516, ⟨(.type "code"), none, (.fields #[(.str "has" 831), (.str "Plain.has" 832), (.str "/claim/cut.py" 833), (.int 199 0), (.int 2 0), (.int 0 0), (.int 0 0), (.int 3 0), (.ref 511), (.bool true), (.int 181 0), (.ref 512), .none, (.ref 513), (.ref 514), (.ref 515), (.int 836 0), (.int 199 0), (.str "/claim/cut.py" 837)]), #[]⟩) ::
  (nat_lit 517, ⟨(.type "function"), none, (.func ⟨"has", "Plain.has", defArgs (inClass (top 27) 2), .stmts (defBody (inClass (top 27) 2)), defScope (inClass (top 27) 2), 3, [], .none, .none, .none, (.str "shadowpages.ways" 625), none, (.ref 516), .none, 0⟩), #[]⟩) ::
  (nat_lit 518, ⟨(.type "tuple"), none, (.seq #[] 0), #[]⟩) ::
  (nat_lit 520, ⟨(.type "tuple"), none, (.seq #[(.str "self" 842), (.str "page" 843), (.str "cell" 844)] 0), #[]⟩) ::
  (nat_lit 521, ⟨(.type "tuple"), none, (.seq #[] 0), #[]⟩) ::
  (nat_lit 523, ⟨(.type "code"), none, (.fields #[(.str "word_at" 839), (.str "Plain.word_at" 840), (.str "/claim/cut.py" 841), (.int 202 0), (.int 3 0), (.int 0 0), (.int 0 0), (.int 3 0), (.ref 518), (.bool true), (.int 181 0), (.ref 519), .none, (.ref 520), (.ref 521), (.ref 522), (.int 845 0), (.int 202 0), (.str "/claim/cut.py" 846)]), #[]⟩) ::
  (nat_lit 524, ⟨(.type "function"), none, (.func ⟨"word_at", "Plain.word_at", defArgs (inClass (top 27) 3), .stmts (defBody (inClass (top 27) 3)), defScope (inClass (top 27) 3), 3, [], .none, .none, .none, (.str "shadowpages.ways" 625), none, (.ref 523), .none, 0⟩), #[]⟩) ::
  (nat_lit 525, ⟨(.type "tuple"), none, (.seq #[] 0), #[]⟩) ::
  (nat_lit 527, ⟨(.type "tuple"), none, (.seq #[(.str "self" 851), (.str "page" 852), (.str "cell" 853), (.str "word" 854)] 0), #[]⟩) ::
  (nat_lit 528, ⟨(.type "tuple"), none, (.seq #[] 0), #[]⟩) ::
  (nat_lit 530, ⟨(.type "code"), none, (.fields #[(.str "put_word" 848), (.str "Plain.put_word" 849), (.str "/claim/cut.py" 850), (.int 205 0), (.int 4 0), (.int 0 0), (.int 0 0), (.int 3 0), (.ref 525), (.bool true), (.int 181 0), (.ref 526), .none, (.ref 527), (.ref 528), (.ref 529), (.int 855 0), (.int 205 0), (.str "/claim/cut.py" 856)]), #[]⟩) ::
  (nat_lit 531, ⟨(.type "function"), none, (.func ⟨"put_word", "Plain.put_word", defArgs (inClass (top 27) 4), .stmts (defBody (inClass (top 27) 4)), defScope (inClass (top 27) 4), 3, [], .none, .none, .none, (.str "shadowpages.ways" 625), none, (.ref 530), .none, 0⟩), #[]⟩) ::
  (nat_lit 532, ⟨(.type "tuple"), none, (.seq #[] 0), #[]⟩) ::
  (nat_lit 534, ⟨(.type "tuple"), none, (.seq #[(.str "self" 861), (.str "page" 862)] 0), #[]⟩) ::
  (nat_lit 535, ⟨(.type "tuple"), none, (.seq #[] 0), #[]⟩) ::
  (nat_lit 537, ⟨(.type "code"), none, (.fields #[(.str "give_up" 858), (.str "Plain.give_up" 859), (.str "/claim/cut.py" 860), (.int 208 0), (.int 2 0), (.int 0 0), (.int 0 0), (.int 3 0), (.ref 532), (.bool true), (.int 181 0), (.ref 533), .none, (.ref 534), (.ref 535), (.ref 536), (.int 863 0), (.int 208 0), (.str "/claim/cut.py" 864)]), #[]⟩) ::
  (nat_lit 538, ⟨(.type "function"), none, (.func ⟨"give_up", "Plain.give_up", defArgs (inClass (top 27) 5), .stmts (defBody (inClass (top 27) 5)), defScope (inClass (top 27) 5), 3, [], .none, .none, .none, (.str "shadowpages.ways" 625), none, (.ref 537), .none, 0⟩), #[]⟩) ::
  (nat_lit 539, ⟨(.type "tuple"), none, (.seq #[] 0), #[]⟩) ::
  (nat_lit 541, ⟨(.type "tuple"), none, (.seq #[(.str "self" 869), (.str "page" 870)] 0), #[]⟩) ::
  (nat_lit 542, ⟨(.type "tuple"), none, (.seq #[] 0), #[]⟩) ::
  (nat_lit 544, ⟨(.type "code"), none, (.fields #[(.str "come_back" 866), (.str "Plain.come_back" 867), (.str "/claim/cut.py" 868), (.int 211 0), (.int 2 0), (.int 0 0), (.int 0 0), (.int 3 0), (.ref 539), (.bool true), (.int 181 0), (.ref 540), .none, (.ref 541), (.ref 542), (.ref 543), (.int 871 0), (.int 211 0), (.str "/claim/cut.py" 872)]), #[]⟩) ::
  (nat_lit 545, ⟨(.type "function"), none, (.func ⟨"come_back", "Plain.come_back", defArgs (inClass (top 27) 6), .stmts (defBody (inClass (top 27) 6)), defScope (inClass (top 27) 6), 3, [], .none, .none, .none, (.str "shadowpages.ways" 625), none, (.ref 544), .none, 0⟩), #[]⟩) ::
  (nat_lit 546, ⟨(.type "tuple"), none, (.seq #[] 0), #[]⟩) ::
  (nat_lit 548, ⟨(.type "tuple"), none, (.seq #[(.str "self" 877)] 0), #[]⟩) ::
  (nat_lit 549, ⟨(.type "tuple"), none, (.seq #[] 0), #[]⟩) ::
  (nat_lit 551, ⟨(.type "code"), none, (.fields #[(.str "ask_house" 874), (.str "Plain.ask_house" 875), (.str "/claim/cut.py" 876), (.int 214 0), (.int 1 0), (.int 0 0), (.int 0 0), (.int 3 0), (.ref 546), (.bool true), (.int 181 0), (.ref 547), .none, (.ref 548), (.ref 549), (.ref 550), (.int 878 0), (.int 214 0), (.str "/claim/cut.py" 879)]), #[]⟩) ::
  (nat_lit 552, ⟨(.type "function"), none, (.func ⟨"ask_house", "Plain.ask_house", defArgs (inClass (top 27) 7), .stmts (defBody (inClass (top 27) 7)), defScope (inClass (top 27) 7), 3, [], .none, .none, .none, (.str "shadowpages.ways" 625), none, (.ref 551), .none, 0⟩), #[]⟩) ::
  (nat_lit 553, ⟨(.type "tuple"), none, (.seq #[(.str "answers" 881), (.str "memory" 882)] 0), #[]⟩) ::
  (nat_lit 554, ⟨(.type "dict"), none, (.dict #[⟨(PySem.PyData.keyHash P "__module__"), (.str "__module__" 809), (.str "shadowpages.ways" 625)⟩, ⟨(PySem.PyData.keyHash P "__firstlineno__"), (.str "__firstlineno__" 813), (.int 189 812)⟩, ⟨(PySem.PyData.keyHash P "__init__"), (.str "__init__" 823), (.ref 503)⟩, ⟨(PySem.PyData.keyHash P "size"), (.str "size" 830), (.ref 510)⟩, ⟨(PySem.PyData.keyHash P "has"), (.str "has" 838), (.ref 517)⟩, ⟨(PySem.PyData.keyHash P "word_at"), (.str "word_at" 847), (.ref 524)⟩, ⟨(PySem.PyData.keyHash P "put_word"), (.str "put_word" 857), (.ref 531)⟩, ⟨(PySem.PyData.keyHash P "give_up"), (.str "give_up" 865), (.ref 538)⟩, ⟨(PySem.PyData.keyHash P "come_back"), (.str "come_back" 873), (.ref 545)⟩, ⟨(PySem.PyData.keyHash P "ask_house"), (.str "ask_house" 880), (.ref 552)⟩, ⟨(PySem.PyData.keyHash P "__static_attributes__"), (.str "__static_attributes__" 883), (.ref 553)⟩, ⟨(PySem.PyData.keyHash P "__doc__"), (.str "__doc__" 884), .none⟩] 2), #[]⟩) ::
  (nat_lit 555, ⟨(.type "type"), none, (.cls ⟨"Plain", [(.ref 487)], [(.ref 555), (.ref 487), (.ref 278), (.type "object")], 554, "Plain", true, [], [], false, none, false⟩), #[(some (.ref 490)), none, (some (.str "Plain" 802)), (some (.str "Plain" 810)), (some (.builtin "object.__new__")), (some (.bool true))]⟩) ::
  (nat_lit 558, ⟨(.type "tuple"), none, (.seq #[] 0), #[]⟩) ::
  (nat_lit 560, ⟨(.type "tuple"), none, (.seq #[(.str "_law_script" 892), (.str "_law_k" 893)] 0), #[]⟩) ::
  (nat_lit 561, ⟨(.type "tuple"), none, (.seq #[] 0), #[]⟩) ::
  (nat_lit 563, ⟨(.type "code"), none, (.fields #[(.str "_law_cell_at" 889), (.str "_law_cell_at" 890), (.str "/claim/cut.py" 891), (.int 217 0), (.int 2 0), (.int 0 0), (.int 0 0), (.int 3 0), (.ref 558), (.bool true), (.int 181 0), (.ref 559), .none, (.ref 560), (.ref 561), (.ref 562), (.int 894 0), (.int 217 0), (.str "/claim/cut.py" 895)]), #[]⟩) ::
  (nat_lit 564, ⟨(.type "function"), none, (.func ⟨"_law_cell_at", "_law_cell_at", defArgs (top 29), .stmts (defBody (top 29)), defScope (top 29), 3, [], .none, .none, .none, (.str "law_shadowpages_k23_refused_makings" 887), none, (.ref 563), .none, 0⟩), #[]⟩) ::
  (nat_lit 565, ⟨(.type "tuple"), none, (.seq #[] 0), #[]⟩) ::
  (nat_lit 567, ⟨(.type "tuple"), none, (.seq #[(.str "_law_found" 900)] 0), #[]⟩) ::
  (nat_lit 568, ⟨(.type "tuple"), none, (.seq #[] 0), #[]⟩) ::
  (nat_lit 570, ⟨(.type "code"), none, (.fields #[(.str "_law_whole" 897), (.str "_law_whole" 898), (.str "/claim/cut.py" 899), (.int 221 0), (.int 1 0), (.int 0 0), (.int 0 0), (.int 3 0), (.ref 565), (.bool true), (.int 181 0), (.ref 566), .none, (.ref 567), (.ref 568), (.ref 569), (.int 901 0), (.int 221 0), (.str "/claim/cut.py" 902)]), #[]⟩) ::
  (nat_lit 571, ⟨(.type "function"), none, (.func ⟨"_law_whole", "_law_whole", defArgs (top 30), .stmts (defBody (top 30)), defScope (top 30), 3, [], .none, .none, .none, (.str "law_shadowpages_k23_refused_makings" 887), none, (.ref 570), .none, 0⟩), #[]⟩) ::
  (nat_lit 572, ⟨(.type "tuple"), none, (.seq #[] 0), #[]⟩) ::
  (nat_lit 574, ⟨(.type "tuple"), none, (.seq #[(.str "_law_mixed" 907), (.str "_law_many" 908), (.str "_law_marks" 909), (.str "_law_page" 910)] 0), #[]⟩) ::
  (nat_lit 575, ⟨(.type "tuple"), none, (.seq #[] 0), #[]⟩) ::
  (nat_lit 577, ⟨(.type "code"), none, (.fields #[(.str "_law_row_by" 904), (.str "_law_row_by" 905), (.str "/claim/cut.py" 906), (.int 223 0), (.int 2 0), (.int 0 0), (.int 0 0), (.int 3 0), (.ref 572), (.bool true), (.int 181 0), (.ref 573), .none, (.ref 574), (.ref 575), (.ref 576), (.int 911 0), (.int 223 0), (.str "/claim/cut.py" 912)]), #[]⟩) ::
  (nat_lit 578, ⟨(.type "function"), none, (.func ⟨"_law_row_by", "_law_row_by", defArgs (top 31), .stmts (defBody (top 31)), defScope (top 31), 3, [], .none, .none, .none, (.str "law_shadowpages_k23_refused_makings" 887), none, (.ref 577), .none, 0⟩), #[]⟩) ::
  (nat_lit 579, ⟨(.type "tuple"), none, (.seq #[] 0), #[]⟩) ::
  (nat_lit 581, ⟨(.type "tuple"), none, (.seq #[(.str "_law_script" 917), (.str "_law_cell" 918), (.str "_law_many" 919), (.str "_law_mixed" 920), (.str "_law_pages_here" 921), (.str "_law_page" 922), (.str "_law_words" 923), (.str "_law_k" 924)] 0), #[]⟩) ::
  (nat_lit 582, ⟨(.type "tuple"), none, (.seq #[] 0), #[]⟩) ::
  (nat_lit 584, ⟨(.type "code"), none, (.fields #[(.str "_law_pages" 914), (.str "_law_pages" 915), (.str "/claim/cut.py" 916), (.int 231 0), (.int 1 0), (.int 0 0), (.int 0 0), (.int 3 0), (.ref 579), (.bool true), (.int 181 0), (.ref 580), .none, (.ref 581), (.ref 582), (.ref 583), (.int 925 0), (.int 231 0), (.str "/claim/cut.py" 926)]), #[]⟩) ::
  (nat_lit 585, ⟨(.type "function"), none, (.func ⟨"_law_pages", "_law_pages", defArgs (top 32), .stmts (defBody (top 32)), defScope (top 32), 3, [], .none, .none, .none, (.str "law_shadowpages_k23_refused_makings" 887), none, (.ref 584), .none, 0⟩), #[]⟩) ::
  (nat_lit 586, ⟨(.type "tuple"), none, (.seq #[] 0), #[]⟩) ::
  (nat_lit 588, ⟨(.type "tuple"), none, (.seq #[(.str "_law_pages_here" 931), (.str "_law_found" 932), (.str "_law_words" 933)] 0), #[]⟩) ::
  (nat_lit 589, ⟨(.type "tuple"), none, (.seq #[] 0), #[]⟩) ::
  (nat_lit 591, ⟨(.type "code"), none, (.fields #[(.str "_law_copy" 928), (.str "_law_copy" 929), (.str "/claim/cut.py" 930), (.int 247 0), (.int 1 0), (.int 0 0), (.int 0 0), (.int 3 0), (.ref 586), (.bool true), (.int 181 0), (.ref 587), .none, (.ref 588), (.ref 589), (.ref 590), (.int 934 0), (.int 247 0), (.str "/claim/cut.py" 935)]), #[]⟩) ::
  (nat_lit 592, ⟨(.type "function"), none, (.func ⟨"_law_copy", "_law_copy", defArgs (top 33), .stmts (defBody (top 33)), defScope (top 33), 3, [], .none, .none, .none, (.str "law_shadowpages_k23_refused_makings" 887), none, (.ref 591), .none, 0⟩), #[]⟩) ::
  (nat_lit 593, ⟨(.type "tuple"), none, (.seq #[] 0), #[]⟩) ::
  (nat_lit 595, ⟨(.type "tuple"), none, (.seq #[(.str "_law_found" 940), (.str "_law_due" 941), (.str "_law_words" 942), (.str "_law_word" 943)] 0), #[]⟩) ::
  (nat_lit 596, ⟨(.type "tuple"), none, (.seq #[] 0), #[]⟩) ::
  (nat_lit 598, ⟨(.type "code"), none, (.fields #[(.str "_law_is_image" 937), (.str "_law_is_image" 938), (.str "/claim/cut.py" 939), (.int 255 0), (.int 2 0), (.int 0 0), (.int 0 0), (.int 3 0), (.ref 593), (.bool true), (.int 181 0), (.ref 594), .none, (.ref 595), (.ref 596), (.ref 597), (.int 944 0), (.int 255 0), (.str "/claim/cut.py" 945)]), #[]⟩) ::
  (nat_lit 599, ⟨(.type "function"), none, (.func ⟨"_law_is_image", "_law_is_image", defArgs (top 34), .stmts (defBody (top 34)), defScope (top 34), 3, [], .none, .none, .none, (.str "law_shadowpages_k23_refused_makings" 887), none, (.ref 598), .none, 0⟩), #[]⟩) ::
  (nat_lit 600, ⟨(.type "tuple"), none, (.seq #[] 0), #[]⟩) ::
  (nat_lit 602, ⟨(.type "tuple"), none, (.seq #[(.str "_law_e" 950), (.str "_law_some" 951)] 0), #[]⟩) ::
  (nat_lit 603, ⟨(.type "tuple"), none, (.seq #[] 0), #[]⟩) ::
  (nat_lit 605, ⟨(.type "code"), none, (.fields #[(.str "_law_names" 947), (.str "_law_names" 948), (.str "/claim/cut.py" 949), (.int 266 0), (.int 1 0), (.int 0 0), (.int 0 0), (.int 3 0), (.ref 600), (.bool true), (.int 181 0), (.ref 601), .none, (.ref 602), (.ref 603), (.ref 604), (.int 952 0), (.int 266 0), (.str "/claim/cut.py" 953)]), #[]⟩) ::
  (nat_lit 606, ⟨(.type "function"), none, (.func ⟨"_law_names", "_law_names", defArgs (top 35), .stmts (defBody (top 35)), defScope (top 35), 3, [], .none, .none, .none, (.str "law_shadowpages_k23_refused_makings" 887), none, (.ref 605), .none, 0⟩), #[]⟩) ::
  (nat_lit 607, ⟨(.type "tuple"), none, (.seq #[] 0), #[]⟩) ::
  (nat_lit 609, ⟨(.type "tuple"), none, (.seq #[(.str "_law_most" 958), (.str "_law_found" 959), (.str "_law_e" 960)] 0), #[]⟩) ::
  (nat_lit 610, ⟨(.type "tuple"), none, (.seq #[] 0), #[]⟩) ::
  (nat_lit 612, ⟨(.type "code"), none, (.fields #[(.str "_law_shelf_refused" 955), (.str "_law_shelf_refused" 956), (.str "/claim/cut.py" 957), (.int 277 0), (.int 1 0), (.int 0 0), (.int 0 0), (.int 3 0), (.ref 607), (.bool true), (.int 181 0), (.ref 608), .none, (.ref 609), (.ref 610), (.ref 611), (.int 961 0), (.int 277 0), (.str "/claim/cut.py" 962)]), #[]⟩) ::
  (nat_lit 613, ⟨(.type "function"), none, (.func ⟨"_law_shelf_refused", "_law_shelf_refused", defArgs (top 36), .stmts (defBody (top 36)), defScope (top 36), 3, [], .none, .none, .none, (.str "law_shadowpages_k23_refused_makings" 887), none, (.ref 612), .none, 0⟩), #[]⟩) ::
  (nat_lit 614, ⟨(.type "tuple"), none, (.seq #[] 0), #[]⟩) ::
  (nat_lit 616, ⟨(.type "tuple"), none, (.seq #[(.str "_law_pages_here" 967), (.str "_law_most" 968), (.str "_law_found" 969), (.str "_law_e" 970)] 0), #[]⟩) ::
  (nat_lit 617, ⟨(.type "tuple"), none, (.seq #[] 0), #[]⟩) ::
  (nat_lit 619, ⟨(.type "code"), none, (.fields #[(.str "_law_refused" 964), (.str "_law_refused" 965), (.str "/claim/cut.py" 966), (.int 284 0), (.int 2 0), (.int 0 0), (.int 0 0), (.int 3 0), (.ref 614), (.bool true), (.int 181 0), (.ref 615), .none, (.ref 616), (.ref 617), (.ref 618), (.int 971 0), (.int 284 0), (.str "/claim/cut.py" 972)]), #[]⟩) ::
  (nat_lit 620, ⟨(.type "function"), none, (.func ⟨"_law_refused", "_law_refused", defArgs (top 37), .stmts (defBody (top 37)), defScope (top 37), 3, [], .none, .none, .none, (.str "law_shadowpages_k23_refused_makings" 887), none, (.ref 619), .none, 0⟩), #[]⟩) ::
  (nat_lit 621, ⟨(.type "tuple"), none, (.seq #[] 0), #[]⟩) ::
  (nat_lit 623, ⟨(.type "tuple"), none, (.seq #[(.str "_law_pages_here" 977), (.str "_law_cell" 978), (.str "_law_way" 979), (.str "_law_page" 980), (.str "_law_words" 981), (.str "_law_wrong" 982), (.str "_law_at" 983)] 0), #[]⟩) ::
  (nat_lit 624, ⟨(.type "tuple"), none, (.seq #[] 0), #[]⟩) ::
  (nat_lit 626, ⟨(.type "code"), none, (.fields #[(.str "_law_no_image" 974), (.str "_law_no_image" 975), (.str "/claim/cut.py" 976), (.int 291 0), (.int 2 0), (.int 0 0), (.int 0 0), (.int 3 0), (.ref 621), (.bool true), (.int 181 0), (.ref 622), .none, (.ref 623), (.ref 624), (.ref 625), (.int 984 0), (.int 291 0), (.str "/claim/cut.py" 985)]), #[]⟩) ::
  (nat_lit 627, ⟨(.type "function"), none, (.func ⟨"_law_no_image", "_law_no_image", defArgs (top 38), .stmts (defBody (top 38)), defScope (top 38), 3, [], .none, .none, .none, (.str "law_shadowpages_k23_refused_makings" 887), none, (.ref 626), .none, 0⟩), #[]⟩) ::
  (nat_lit 628, ⟨(.type "tuple"), none, (.seq #[] 0), #[]⟩) ::
  (nat_lit 630, ⟨(.type "tuple"), none, (.seq #[(.str "_law_pages_here" 990), (.str "_law_most" 991), (.str "_law_handed" 992), (.str "_law_way" 993), (.str "_law_first" 994), (.str "_law_part" 995)] 0), #[]⟩) ::
  (nat_lit 631, ⟨(.type "tuple"), none, (.seq #[] 0), #[]⟩) ::
  (nat_lit 633, ⟨(.type "code"), none, (.fields #[(.str "_law_good" 987), (.str "_law_good" 988), (.str "/claim/cut.py" 989), (.int 306 0), (.int 2 0), (.int 0 0), (.int 0 0), (.int 3 0), (.ref 628), (.bool true), (.int 181 0), (.ref 629), .none, (.ref 630), (.ref 631), (.ref 632), (.int 996 0), (.int 306 0), (.str "/claim/cut.py" 997)]), #[]⟩) ::
  (nat_lit 634, ⟨(.type "function"), none, (.func ⟨"_law_good", "_law_good", defArgs (top 39), .stmts (defBody (top 39)), defScope (top 39), 3, [], .none, .none, .none, (.str "law_shadowpages_k23_refused_makings" 887), none, (.ref 633), .none, 0⟩), #[]⟩) ::
  (nat_lit 635, ⟨(.type "tuple"), none, (.seq #[] 0), #[]⟩) ::
  (nat_lit 637, ⟨(.type "tuple"), none, (.seq #[(.str "_law_script" 1002), (.str "_law_pages_here" 1003), (.str "_law_most" 1004), (.str "_law_none" 1005), (.str "_law_wrong" 1006)] 0), #[]⟩) ::
  (nat_lit 638, ⟨(.type "tuple"), none, (.seq #[] 0), #[]⟩) ::
  (nat_lit 640, ⟨(.type "code"), none, (.fields #[(.str "law" 999), (.str "law" 1000), (.str "/claim/cut.py" 1001), (.int 322 0), (.int 1 0), (.int 0 0), (.int 0 0), (.int 3 0), (.ref 635), (.bool true), (.int 181 0), (.ref 636), .none, (.ref 637), (.ref 638), (.ref 639), (.int 1007 0), (.int 322 0), (.str "/claim/cut.py" 1008)]), #[]⟩) ::
  (nat_lit 641, ⟨(.type "function"), none, (.func ⟨"law", "law", defArgs (top 40), .stmts (defBody (top 40)), defScope (top 40), 3, [], .none, .none, .none, (.str "law_shadowpages_k23_refused_makings" 887), none, (.ref 640), .none, 0⟩), #[]⟩) :: []
def asF : List Nat := [2, 3, 15, 17, 18, 20, 21, 22, 29, 30, 31, 32, 35, 42, 43, 44, 47, 54, 55, 56, 59, 66, 67, 68, 71, 78, 79, 80, 83, 90, 91, 92, 95, 102, 104, 105, 107, 108, 109, 110, 111, 114, 116, 117, 119, 120, 121, 123, 124, 126, 127, 128, 130, 131, 133, 134, 142, 144, 145, 147, 148, 149, 151, 152, 154, 155, 156, 158, 159, 161, 162, 163, 165, 166, 168, 169, 170, 172, 173, 175, 176, 177, 180, 181, 182, 183, 184, 185, 186, 189, 192, 193, 194, 196, 197, 199, 200, 201, 203, 204, 206, 207, 215, 217, 218, 220, 221, 222, 224, 225, 227, 228, 229, 231, 232, 234, 235, 236, 238, 239, 241, 242, 243, 245, 246, 248, 249, 250, 252, 253, 255, 256, 257, 260, 261, 262, 264, 265, 267, 268, 269, 271, 272, 274, 275, 276, 277, 278, 279, 280, 283, 290, 293, 294, 295, 297, 298, 300, 301, 302, 304, 305, 307, 308, 309, 311, 312, 314, 315, 316, 318, 319, 321, 322, 323, 325, 326, 328, 329, 330, 332, 333, 335, 336, 337, 340, 341, 342, 343, 344, 347, 354, 356, 357, 359, 360, 361, 363, 364, 366, 367, 368, 370, 371, 373, 374, 375, 377, 378, 380, 381, 382, 384, 385, 387, 388, 389, 391, 392, 394, 395, 396, 398, 399, 401, 402, 403, 405, 406, 408, 409, 410, 412, 413, 415, 416, 417, 419, 420, 422, 423, 424, 426, 427, 429, 430, 431, 433, 434, 436, 437, 438, 440, 441, 443, 444, 445, 447, 448, 450, 451, 452, 454, 455, 457, 458, 459, 461, 462, 464, 465, 466, 468, 469, 471, 472, 473, 475, 476, 478, 479, 480, 483, 484, 485, 486, 487, 490, 497, 499, 500, 502, 503, 504, 506, 507, 509, 510, 511, 513, 514, 516, 517, 518, 520, 521, 523, 524, 525, 527, 528, 530, 531, 532, 534, 535, 537, 538, 539, 541, 542, 544, 545, 546, 548, 549, 551, 552, 553, 554, 555, 558, 560, 561, 563, 564, 565, 567, 568, 570, 571, 572, 574, 575, 577, 578, 579, 581, 582, 584, 585, 586, 588, 589, 591, 592, 593, 595, 596, 598, 599, 600, 602, 603, 605, 606, 607, 609, 610, 612, 613, 614, 616, 617, 619, 620, 621, 623, 624, 626, 627, 628, 630, 631, 633, 634, 635, 637, 638, 640, 641]
theorem hF (P : Params) : asF = (KF P).map (·.1) := by kernel_rfl
noncomputable def vw : Program := { PySem.Challenge.pw_shadowpages_k23_refused_makings with main := { PySem.Challenge.pw_shadowpages_k23_refused_makings.main with body := [top 0, top 1, top 2, top 3, top 4, top 6, top 7, top 8, top 9, top 10, top 11, top 12, top 14, top 15, top 16, top 18, top 20, top 21, top 22, top 23, top 24, top 26, top 27, top 29, top 30, top 31, top 32, top 33, top 34, top 35, top 36, top 37, top 38, top 39, top 40] } }
set_option maxHeartbeats 0 in
theorem hl : PySem.W.LeftO PySem.Challenge.rw_shadowpages_k23_refused_makings.row.prog vw [] (fun s => PySem.W.xlAt vw [] s && PySem.W.recOk [] s) (PySem.W.kHook KF asF hF).obs (PySem.W.kHook KF asF hF).val 9750 := by
  refine HT1.left_one (by rfl) (by rfl) (fun _ => rfl) fun w => ?_
  rw [PySem.W.Fast.te2107270133195307567, PySem.W.Fast.te4757257242682413121, PySem.W.Fast.te6483871617321286689, PySem.W.Fast.te3486900944545009338]
  kernel_rfl
end K23

end
section
-- CHANGE: your row's module here, as the last of these rows
set_option Elab.async false
set_option linter.all false
set_option maxRecDepth 100000
/-! THE HAND LAYER, for ints, bools, texts, own classes, LISTS and tuples (index, slices, in, append, pop ..), calls, loops. Paste it whole ahead of your own text; what your proof does not reach may be deleted. -/
namespace L2
open PySem PySem.Spec PyProof.Rows

abbrev Key := Sum Int Str
def keyIs : Key → Value → Bool
  | .inl k, v => Value.isInt k v
  | .inr x, v => Value.isStrOf x v
def keyH (w : World) : Key → Int
  | .inl k => hashInt k
  | .inr x => hashStr w x
theorem keyIs_shape : ∀ {k : Key} {v : Value}, keyIs k v = true → (∃ i t, k = Sum.inl i ∧ v = Value.int i t) ∨ (∃ x t, k = Sum.inr x ∧ v = Value.str x t)
  | .inl i, v, h => by
    obtain ⟨t, e⟩ := Value.isInt_shape (k := i) (v := v) h
    exact .inl ⟨i, t, rfl, e⟩
  | .inr x, v, h => by
    obtain ⟨t, e⟩ := Value.isStrOf_shape (x := x) (v := v) h
    exact .inr ⟨x, t, rfl, e⟩
theorem key_ll (a b : Int) : decide ((Sum.inl a : Key) = Sum.inl b) = (a == b) := by
  by_cases e : a = b
  · subst e; simp
  · have h : ¬ (Sum.inl a : Key) = Sum.inl b := fun q => e (Sum.inl.inj q)
    rw [decide_eq_false h]
    exact (beq_eq_false_iff_ne.mpr e).symm
theorem key_rr (a b : Str) : decide ((Sum.inr a : Key) = Sum.inr b) = decide (a = b) := by
  by_cases e : a = b
  · subst e; simp
  · have h : ¬ (Sum.inr a : Key) = Sum.inr b := fun q => e (Sum.inr.inj q)
    rw [decide_eq_false h, decide_eq_false e]
theorem key_lr (a : Int) (b : Str) : decide ((Sum.inl a : Key) = Sum.inr b) = false := decide_eq_false (fun q => nomatch q)
theorem key_rl (a : Str) (b : Int) : decide ((Sum.inr a : Key) = Sum.inl b) = false := decide_eq_false (fun q => nomatch q)

def mixKind (prog : Program) (w : World) : PySem.KeyKind prog w Key where
  is := keyIs
  hash := keyH w
  inj := fun v a b ha hb => by
    rcases keyIs_shape ha with ⟨i, t, rfl, rfl⟩ | ⟨x, t, rfl, rfl⟩
    · rcases keyIs_shape hb with ⟨j, u, rfl, e⟩ | ⟨y, u, rfl, e⟩
      · injection e with e1 _; rw [e1]
      · exact nomatch e
    · rcases keyIs_shape hb with ⟨j, u, rfl, e⟩ | ⟨y, u, rfl, e⟩
      · exact nomatch e
      · injection e with e1 _; rw [e1]
  byValue := fun k v h => by
    rcases keyIs_shape h with ⟨i, t, rfl, rfl⟩ | ⟨x, t, rfl, rfl⟩ <;> rfl
  pyHash := fun hv h => by
    rcases keyIs_shape hv with ⟨i, t, rfl, rfl⟩ | ⟨x, t, rfl, rfl⟩
    · exact wpAny_pyHash_int h
    · exact wpAny_pyHash_str h
  eqBool := fun hu hv h => by
    rcases keyIs_shape hu with ⟨i, t, rfl, rfl⟩ | ⟨x, t, rfl, rfl⟩
    · rcases keyIs_shape hv with ⟨j, u, rfl, rfl⟩ | ⟨y, u, rfl, rfl⟩
      · rw [key_ll] at h; exact wpAny_eqBool_int h
      · rw [key_lr] at h; exact SeqAt.EqAt.int_str i t y u _ _ _ _ h
    · rcases keyIs_shape hv with ⟨j, u, rfl, rfl⟩ | ⟨y, u, rfl, rfl⟩
      · rw [key_rl] at h; exact SeqAt.EqAt.str_int x t j u _ _ _ _ h
      · rw [key_rr] at h; exact wpAny_eqBool_str h
  «strs» := fun k x t v h => by
    rcases keyIs_shape h with ⟨i, u, rfl, e⟩ | ⟨y, u, rfl, e⟩
    · exact nomatch e
    · injection e with e1 _
      subst e1
      cases v <;> rfl

end L2

namespace L2
open PySem PySem.Spec PyProof.Rows

inductive V where
  | non | bl (b : Bool) | int (i : Int) | str (x : Str) | byt (b : Array UInt8) | flt (b : UInt64) | ref (a : Addr) | ty (n : String)
  deriving DecidableEq

def RelV : V → Value → Prop
  | .non, u => u = Value.none
  | .bl b, u => u = Value.bool b
  | .int i, u => ∃ t, u = Value.int i t
  | .str x, u => ∃ t, u = Value.str x t
  | .byt b, u => ∃ t, u = Value.bytes b t
  | .flt b, u => ∃ t, u = Value.float b t
  | .ref a, u => u = Value.ref a
  | .ty n, u => u = Value.type n

abbrev Vals : List V → List Value → Prop := Paired RelV
theorem Vals.length {xs : List V} {us : List Value} (r : Vals xs us) : xs.length = us.length := Paired.length r
theorem Vals.get : ∀ {xs : List V} {us : List Value} {i : Nat} {x : V}, Vals xs us → xs[i]? = some x → ∃ u, us[i]? = some u ∧ RelV x u
  | _, _, _, _, .nil, e => by simp at e
  | _, _, 0, _, .cons r _, e => by simp at e; subst e; exact ⟨_, rfl, r⟩
  | _, _, i + 1, x, .cons _ t, e => by
    obtain ⟨u, h1, h2⟩ := Vals.get (i := i) (x := x) t (by simpa using e)
    exact ⟨u, by simpa using h1, h2⟩
theorem Vals.set {x : V} {u : Value} (r : RelV x u) : ∀ {xs : List V} {us : List Value} (i : Nat), Vals xs us → Vals (xs.set i x) (us.set i u)
  | _, _, _, .nil => .nil
  | _, _, 0, .cons _ t => .cons r t
  | _, _, i + 1, .cons q t => .cons q (Vals.set r i t)
theorem Vals.append : ∀ {xs ys : List V} {us ws : List Value}, Vals xs us → Vals ys ws → Vals (xs ++ ys) (us ++ ws)
  | _, _, _, _, .nil, s => s
  | _, _, _, _, .cons r t, s => .cons r (Vals.append t s)
theorem Vals.take : ∀ {xs : List V} {us : List Value} (n : Nat), Vals xs us → Vals (xs.take n) (us.take n)
  | _, _, 0, _ => .nil
  | _, _, _ + 1, .nil => .nil
  | _, _, n + 1, .cons r t => .cons r (Vals.take n t)
theorem Vals.drop : ∀ {xs : List V} {us : List Value} (n : Nat), Vals xs us → Vals (xs.drop n) (us.drop n)
  | _, _, 0, r => r
  | _, _, _ + 1, .nil => .nil
  | _, _, n + 1, .cons _ t => Vals.drop n t
def RelO : Option V → Option Value → Prop
  | some v, some u => RelV v u
  | none, none => True
  | _, _ => False
def KV {κ : Type} : List (κ × V) → List (κ × Value) → Prop := Paired fun (p : κ × V) (q : κ × Value) => p.1 = q.1 ∧ RelV p.2 q.2

def kV : Key → V
  | .inl i => .int i
  | .inr x => .str x

inductive HO where
    | lst (xs : List V)
    | tup (xs : List V)
    | dK (kvs : List (Key × V)) | dT (kvs : List (List Key × V))
    | set (S : Int → Bool) (n : Nat)
    | ins (C dx : Addr) (fs : List (Str × V))
    | own (x : Addr)
    | xd (fs : List (Str × V))
    | met (f x : Addr)
    | rng (lo hi : Int)
    | frz (o : Obj) (u : HO)
    | tbl (ps : Array Value)
    | ext (φ : Heap → Prop)

abbrev Hp := Addr → Option HO
def upd (H : Hp) (a : Addr) (o : HO) : Hp := fun b => if b = a then some o else H b
theorem upd_same {H : Hp} {a : Addr} {o : HO} : upd H a o a = some o := by unfold upd; rw [if_pos rfl]
theorem upd_ne {H : Hp} {a b : Addr} {o : HO} (h : b ≠ a) : upd H a o b = H b := by unfold upd; rw [if_neg h]
theorem ne_of {H : Hp} {a b : Addr} {o u : HO} (h : H a = some o) (h' : H b = some u) (d : o ≠ u) : a ≠ b := by
  intro e; subst e; rw [h] at h'; exact d (Option.some.inj h')
theorem ne_of_none {H : Hp} {a b : Addr} {o : HO} (h : H a = some o) (h' : H b = none) : a ≠ b := by
  intro e; subst e; rw [h] at h'; cases h'

section
variable (P : Program) (w : World)
def ObjOk (H : Hp) (h : Heap) (a : Addr) : HO → Prop
  | .lst xs => xs.length ≤ sizeLine ∧ ∃ (its : List Value) (n : Nat), Vals xs its ∧ h.get? a = some { cls := .type "list", data := .seq its.toArray n }
  | .tup xs => xs.length ≤ sizeLine ∧ ∃ its : List Value, Vals xs its ∧ IsTup h a its.toArray
  | .dK kvs => kvs.length ≤ sizeLine ∧ (a == sysModules) = false ∧ ∃ vs, KV kvs vs ∧ h.DictOf (mixKind P w) a vs
  | .dT kvs => kvs.length ≤ sizeLine ∧ (a == sysModules) = false ∧ ∃ xs : List (List Key × Addr × Value),
      Paired (fun (p : List Key × V) (q : List Key × Addr × Value) => p.1 = q.1 ∧ H q.2.1 = some (.tup (p.1.map kV)) ∧ RelV p.2 q.2.2) kvs xs ∧
      ∃ o es ep, h.get? a = some o ∧ o.ExactDict ∧ o.data = .dict es ep ∧ es.toList = xs.map (entryOfKey (tupleKind (mixKind P w))) ∧ (xs.map (·.1)).Nodup
  | .set S n => h.SetOf (intKind P w) a S n
  | .ins C dx fs => H dx = some (.own a) ∧ fs.length ≤ 1000 ∧ dx ≠ a ∧ h.get? a = some (PySem.W.instObj C dx) ∧
      ∃ mA, h.Ns1 dx mA ∧ (∀ f, RelO (fs.lookup f) (mA f)) ∧ PySem.Within mA (fs.map (·.1))
  | .own _ => ∃ o, h.get? a = some o
  | .xd fs => ∃ mA, h.Ns1 a mA ∧ ∀ f, RelO (fs.lookup f) (mA f)
  | .rng lo hi => ∃ t u v, h.get? a = some { cls := .type "range", data := .fields #[.int lo t, .int hi u, .int 1 v] }
  | .frz o u => h.get? a = some o ∧ ObjOk H h a u
  | .tbl ps => h.get? a = some { cls := .none, data := .fields ps }
  | .met f x => h.get? a = some (PySem.W.methodObj (.ref f) (.ref x))
  | .ext φ => φ h ∧ (∃ o, h.get? a = some o) ∧ ∀ h1 h2 : Heap, φ h1 → (∀ o, h1.get? a = some o → h2.get? a = some o) → φ h2
def HOk (H : Hp) (h : Heap) : Prop := ∀ a o, H a = some o → ObjOk P w H h a o
end

section
variable {P : Program} {w : World} {H H' : Hp} {h h' : Heap} {a : Addr} {o : HO}
theorem ObjOk.lt (x : ObjOk P w H h a o) : a < h.objs.size := by
  cases o with
  | lst xs => obtain ⟨_, _, _, _, e⟩ := x; exact Heap.lt_size e
  | tup xs => obtain ⟨_, _, _, p⟩ := x; exact p.lt
  | dK kvs => obtain ⟨_, _, _, _, o, _, _, e, _⟩ := x; exact Heap.lt_size e
  | dT kvs => obtain ⟨_, _, _, _, o, _, _, e, _⟩ := x; exact Heap.lt_size e
  | set S n => obtain ⟨o, _, _, _, e, _⟩ := x; exact Heap.lt_size e
  | ins C dx fs => obtain ⟨_, _, _, e, _⟩ := x; exact Heap.lt_size e
  | own y => obtain ⟨_, e⟩ := x; exact Heap.lt_size e
  | xd fs => obtain ⟨_, ⟨_, _, _, e, _⟩, _⟩ := x; exact Heap.lt_size e
  | rng lo hi => obtain ⟨_, _, _, e⟩ := x; exact Heap.lt_size e
  | frz ob u => obtain ⟨e, _⟩ := x; exact Heap.lt_size e
  | tbl ps => exact Heap.lt_size (show h.get? a = some _ from x)
  | met f y => exact Heap.lt_size (show h.get? a = some _ from x)
  | ext φ => obtain ⟨_, ⟨_, e⟩, _⟩ := x; exact Heap.lt_size e
theorem Paired.mapP {α β : Type} {F G : α → β → Prop} : ∀ {l₁ : List α} {l₂ : List β}, Paired F l₁ l₂ → (∀ a b, F a b → G a b) → Paired G l₁ l₂
  | _, _, .nil, _ => .nil
  | _, _, .cons r t, f => .cons (f _ _ r) (Paired.mapP t f)
theorem ObjOk.stay (x : ObjOk P w H h a o) (k : ∀ b u, (b = a ∨ H b = some (.own a)) → h.get? b = some u → h'.get? b = some u)
    (ho : ∀ b, H b = some (.own a) → H' b = some (.own a)) (ht : ∀ b xs, H b = some (.tup xs) → H' b = some (.tup xs)) : ObjOk P w H' h' a o := by
  induction o with
  | lst xs => obtain ⟨z, its, n, r, e⟩ := x; exact ⟨z, its, n, r, k _ _ (.inl rfl) e⟩
  | tup xs => obtain ⟨z, its, r, ob, e, c⟩ := x; exact ⟨z, its, r, ob, k _ _ (.inl rfl) e, c⟩
  | dK kvs => obtain ⟨z, y, vs, r, ob, es, ep, e, c⟩ := x; exact ⟨z, y, vs, r, ob, es, ep, k _ _ (.inl rfl) e, c⟩
  | dT kvs =>
    obtain ⟨z, y, xs, r, ob, es, ep, e, c⟩ := x
    exact ⟨z, y, xs, Paired.mapP r fun p q z => ⟨z.1, ht _ _ z.2.1, z.2.2⟩, ob, es, ep, k _ _ (.inl rfl) e, c⟩
  | set S n => obtain ⟨ob, es, ep, t, e, c⟩ := x; exact ⟨ob, es, ep, t, k _ _ (.inl rfl) e, c⟩
  | ins C dx fs =>
    obtain ⟨d, z, ne, e, mA, ⟨od, es, ep, e2, c⟩, r⟩ := x
    exact ⟨ho _ d, z, ne, k _ _ (.inl rfl) e, mA, ⟨od, es, ep, k _ _ (.inr d) e2, c⟩, r⟩
  | own y => obtain ⟨ob, e⟩ := x; exact ⟨ob, k _ _ (.inl rfl) e⟩
  | xd fs => obtain ⟨mA, ⟨od, es, ep, e, c⟩, r⟩ := x; exact ⟨mA, ⟨od, es, ep, k _ _ (.inl rfl) e, c⟩, r⟩
  | rng lo hi => obtain ⟨t, u, v, e⟩ := x; exact ⟨t, u, v, k _ _ (.inl rfl) e⟩
  | frz ob u ih => obtain ⟨e, q⟩ := x; exact ⟨k _ _ (.inl rfl) e, ih q⟩
  | tbl ps =>
    have e : h.get? a = some { cls := .none, data := .fields ps } := x
    show h'.get? a = some { cls := .none, data := .fields ps }
    exact k a _ (.inl rfl) e
  | met f y =>
    have e : h.get? a = some (PySem.W.methodObj (.ref f) (.ref y)) := x
    show h'.get? a = some (PySem.W.methodObj (.ref f) (.ref y))
    exact k a _ (.inl rfl) e
  | ext φ => obtain ⟨p, ⟨o, e⟩, st⟩ := x; exact ⟨st _ _ p fun o q => k _ _ (.inl rfl) q, ⟨o, k _ _ (.inl rfl) e⟩, st⟩
theorem HOk.lt (x : HOk P w H h) (e : H a = some o) : a < h.objs.size := (x a o e).lt
theorem HOk.fresh (x : HOk P w H h) (e : h.objs.size ≤ a) : H a = none := by
  cases q : H a with
  | none => rfl
  | some u => exact absurd (Nat.lt_of_lt_of_le (x.lt q) e) (Nat.lt_irrefl _)
theorem HOk.kept (x : HOk P w H h) (k : ∀ b u, h.get? b = some u → h'.get? b = some u) : HOk P w H h' := fun a o e =>
  (x a o e).stay (fun b u _ q => k b u q) (fun _ q => q) fun _ _ q => q
theorem HOk.laid (x : HOk P w H h) (k : ∀ b u, h.get? b = some u → h'.get? b = some u) (hp : h.objs.size ≤ a) (new : ObjOk P w (upd H a o) h' a o) : HOk P w (upd H a o) h' := fun b u e => by
  have hn := x.fresh hp
  by_cases hb : b = a
  · subst hb; rw [upd_same] at e; cases e; exact new
  · rw [upd_ne hb] at e
    exact (x b u e).stay (fun c v _ q => k c v q) (fun c q => by rw [upd_ne (ne_of_none q hn)]; exact q) fun c xs q => by rw [upd_ne (ne_of_none q hn)]; exact q
end

def Rd (H : Hp) (a : Addr) (u : HO) : Prop := H a = some u ∨ ∃ o, H a = some (.frz o u)
theorem Rd.ok {P : Program} {w : World} {H : Hp} {h : Heap} {a : Addr} {u : HO} (r : Rd H a u) (x : HOk P w H h) : ObjOk P w H h a u := by
  rcases r with r | ⟨o, r⟩
  · exact x a u r
  · obtain ⟨_, q⟩ := x a _ r
    exact q
def Mut : Option HO → Prop
  | some (.lst _) => True
  | some (.dK _) => True
  | some (.dT _) => True
  | some (.set _ _) => True
  | some (.ins _ _ _) => True
  | some (.ext _) => True
  | _ => False
section
variable {P : Program} {w : World} {H : Hp} {h h' : Heap} {x e : Addr} {o' : HO}
theorem HOk.write (ok : HOk P w H h) (mu : Mut (H x)) (he : e = x ∨ H e = some (.own x)) (k : ∀ b u, b ≠ e → h.get? b = some u → h'.get? b = some u) (heo : ∃ u, h'.get? e = some u)
    (new : ObjOk P w (upd H x o') h' x o') : HOk P w (upd H x o') h' := fun b u q => by
  have nown : ∀ c y, H c = some (.own y) → c ≠ x := fun c y r z => by subst z; rw [r] at mu; exact mu
  have ntup : ∀ c xs, H c = some (.tup xs) → c ≠ x := fun c xs r z => by subst z; rw [r] at mu; exact mu
  by_cases hb : b = x
  · subst hb; rw [upd_same] at q; cases q; exact new
  · rw [upd_ne hb] at q
    by_cases hbe : b = e
    · have q' : H b = some (.own x) := by
        rcases he with z | z
        · exact absurd (hbe.trans z) hb
        · rw [hbe]; exact z
      rw [q] at q'; cases q'
      obtain ⟨v, hv⟩ := heo
      exact ⟨v, by rw [hbe]; exact hv⟩
    · refine (ok b u q).stay (fun c v hc r => k c v ?_ r) (fun c r => by rw [upd_ne (nown c b r)]; exact r) fun c xs r => by rw [upd_ne (ntup c xs r)]; exact r
      rcases hc with rfl | hc
      · exact hbe
      · rintro rfl
        rcases he with z | z
        · exact nown c b hc z
        · rw [hc] at z; cases z; exact hb rfl
end

/-! ### kept unless tracked; of the frames at fs (the callers') the slots may change (an exception that passes writes there); of the records at ex (iterators) nothing is said -/
structure Un (fs ex : List Addr) (H H' : Hp) (h h' : Heap) : Prop where
  keep : ∀ b o, h.get? b = some o → H b = none → b ∉ fs → b ∉ ex → h'.get? b = some o
  slot : ∀ b o, h.get? b = some o → H b = none → b ∈ fs → b ∉ ex → ∃ sl, h'.get? b = some { o with slots := sl }
  free : ∀ b o, h.get? b = some o → H b = none → b ∉ ex → H' b = none
  there : ∀ b o, h.get? b = some o → b ∉ ex → ∃ o', h'.get? b = some o'
  tups : ∀ b xs, H b = some (.tup xs) → H' b = some (.tup xs)
  frzs : ∀ b o u, H b = some (.frz o u) → H' b = some (.frz o u)
  tbls : ∀ b ps, H b = some (.tbl ps) → ∃ more, H' b = some (.tbl (ps ++ more))
section
variable {fs fs' ex ex' : List Addr} {H H1 H2 : Hp} {h h1 h2 h' : Heap} {a x e : Addr} {o : HO}
theorem Un.any (u : Un fs ex H H1 h h1) {b : Addr} {ob : Obj} (q : h.get? b = some ob) (n : H b = none) (hx : b ∉ ex) : ∃ sl, h1.get? b = some { ob with slots := sl } := by
  by_cases hb : b ∈ fs
  · exact u.slot b ob q n hb hx
  · exact ⟨ob.slots, u.keep b ob q n hb hx⟩
theorem Un.kept (k : ∀ b u, h.get? b = some u → h'.get? b = some u) : Un fs ex H H h h' :=
  ⟨fun b ob q _ _ _ => k b ob q, fun b ob q _ _ _ => ⟨ob.slots, k b ob q⟩, fun _ _ _ n _ => n, fun b ob q _ => ⟨ob, k b ob q⟩, fun _ _ q => q, fun _ _ _ q => q, fun _ ps q => ⟨#[], by rw [q]; simp⟩⟩
theorem Un.refl : Un fs ex H H h h := Un.kept fun _ _ q => q
theorem Un.laid (k : ∀ b u, h.get? b = some u → h'.get? b = some u) (hp : h.objs.size ≤ a) (hn : H a = none) : Un fs ex H (upd H a o) h h' where
  keep := fun b u q _ _ _ => k b u q
  slot := fun b u q _ _ _ => ⟨u.slots, k b u q⟩
  free := fun b u q n _ => by rw [upd_ne (Nat.ne_of_lt (Nat.lt_of_lt_of_le (Heap.lt_size q) hp))]; exact n
  there := fun b u q _ => ⟨u, k b u q⟩
  tups := fun b xs q => by rw [upd_ne (ne_of_none q hn)]; exact q
  frzs := fun b u xs q => by rw [upd_ne (ne_of_none q hn)]; exact q
  tbls := fun b ps q => ⟨#[], by rw [upd_ne (ne_of_none q hn), q]; simp⟩
theorem Un.write (mu : Mut (H x)) (he : e = x ∨ H e = some (.own x)) (k : ∀ b u, b ≠ e → h.get? b = some u → h'.get? b = some u) (heo : ∃ u, h'.get? e = some u) : Un fs ex H (upd H x o) h h' := by
  have hx : ∀ b, H b = none → b ≠ x := fun b n z => by subst z; rw [n] at mu; exact mu
  have hb : ∀ b, H b = none → b ≠ e := fun b n z => by
    subst z
    rcases he with r | r
    · exact hx b n r
    · rw [n] at r; cases r
  have hm : ∀ b u, H b = some u → ¬ Mut (some u) → b ≠ x := fun b u q nm z => by subst z; rw [q] at mu; exact nm mu
  refine ⟨fun b u q n _ _ => k b u (hb b n) q, fun b u q n _ _ => ⟨u.slots, k b u (hb b n) q⟩, fun b u q n _ => by rw [upd_ne (hx b n)]; exact n, fun b u q _ => ?_,
    fun b xs q => by rw [upd_ne (hm b _ q fun z => z)]; exact q, fun b u xs q => by rw [upd_ne (hm b _ q fun z => z)]; exact q, fun b ps q => ⟨#[], by rw [upd_ne (hm b _ q fun z => z), q]; simp⟩⟩
  by_cases hbe : b = e
  · subst hbe; exact heo
  · exact ⟨u, k b u hbe q⟩
end

/-! ### the heap without what is tracked -/
def trk (h : Heap) (H : Hp) : List Addr := (List.range h.objs.size).filter fun a => (H a).isSome
def hidT (h : Heap) (H : Hp) : Heap := PySem.W.hideAll h (trk h H)
theorem hidT_size (h : Heap) (H : Hp) : (hidT h H).objs.size = h.objs.size := PySem.W.hideAll_size _ _
theorem hidT_get {h : Heap} {H : Hp} {b : Addr} {o : Obj} (e : h.get? b = some o) (n : H b = none) : (hidT h H).get? b = some o :=
  PySem.W.hideAll_get _ e fun hm => by
    have q : (H b).isSome = true := (List.mem_filter.mp hm).2
    rw [n] at q; simp at q
theorem of_hidT {h : Heap} {H : Hp} {b : Addr} {o : Obj} (e : (hidT h H).get? b = some o) : h.get? b = some o ∧ H b = none := by
  have e' : h.get? b = some o := PySem.W.of_hideAll (trk h H) e
  refine ⟨e', ?_⟩
  cases q : H b with
  | none => rfl
  | some x =>
    have hm : b ∈ trk h H := List.mem_filter.mpr ⟨List.mem_range.mpr (Heap.lt_size e'), by simp [q]⟩
    have z : (hidT h H).get? b = none := PySem.W.hideAll_none (trk h H) hm
    rw [z] at e; cases e

/-! ### OpenK's ledger, filled with every new object but one -/
def allNews (g h : Heap) (L : Addr) : List (Addr × Obj) := (List.range h.objs.size).filterMap fun a => if a = L ∨ (g.get? a).isSome = true then none else (h.get? a).map fun o => (a, o)
def rest (g h : Heap) (L d : Addr) : List (Addr × Obj) := (allNews g h L).filter fun p => decide (p.1 ≠ d)
end L2

namespace L2
open PySem PySem.Spec PyProof.Rows

structure Mod (K : PySem.W.Frag) (mg : Str → Option Value) (base : Heap) : Prop where
  kin : K.In base
  glob : base.Ns mainGlobals mg
  blt : ∃ mb, base.Ns builtinsNs mb ∧ ∀ x : Str, x ≠ "__name__" → mb x = bootBuiltins x
  nolimit : base.NoLimit

structure Cx where
  prog : Program
  w : World
  K : PySem.W.Frag
  mg : Str → Option Value
  base : Heap
  A : Around
  N : List Str
  s₀ : Shared
  H₀ : Hp
  env : Env
  outer : List Env
  stack : List Env
  ex : List Addr
  fn : Str → Bool
  calm : Bool
  pn : List (Addr × Obj)
  xe : Value → Shared → Prop
def frs (l : List Env) : List Addr := l.filterMap (·.frame)
abbrev Cx.fs (X : Cx) : List Addr := frs X.outer

def Vis (sc : Scope) (x : Str) : Prop := sc.names.lookup x = some .local ∨ sc.names.lookup x = some .cell ∨ sc.names.lookup x = some .free
def Loc (sc : Scope) (x : Str) : Prop := sc.names.lookup x = some .local ∨ sc.names.lookup x = some .cell
def Look (env : Env) (h : Heap) (m : Str → Option Value) (x : Str) (u : Value) : Prop :=
  (env.kindOf x = some .local ∧ m x = some u) ∨ ((env.kindOf x = some .cell ∨ env.kindOf x = some .free) ∧ ∃ c, env.cells.lookup x = some c ∧ h.IsCell c (some u))

structure Cx.Ok (X : Cx) : Prop where
  mod : Mod X.K X.mg X.base
  kind : X.env.scope.kind = .function
  glob : X.env.globals = mainGlobals
  blt : X.env.builtins = builtinsNs
  above : X.s₀.heap.objs.size ≤ X.env.locals
  inj : ∀ x y c, X.env.cells.lookup x = some c → X.env.cells.lookup y = some c → x = y
  has : ∀ x, (X.env.kindOf x = some .cell ∨ X.env.kindOf x = some .free) → ∃ c, X.env.cells.lookup x = some c
  cab : ∀ x c, X.fn x = true → X.env.cells.lookup x = some c → X.s₀.heap.objs.size ≤ c
  hd : X.calm = true → X.A.handled = none
  frames : X.A.frames = some X.stack
  stk : X.stack = X.outer ∨ (X.stack = X.env :: X.outer ∧ X.env.frame = some X.env.locals)
  exf : ∀ b ∈ X.ex, b ≠ X.env.locals ∧ ∀ x c, X.env.cells.lookup x = some c → c ≠ b
  bs : ∀ b o, X.base.get? b = some o → X.s₀.heap.get? b = some o ∧ X.H₀ b = none
  bsz : X.base.objs.size ≤ X.s₀.heap.objs.size
  noex : ∀ b o, X.base.get? b = some o → b ∉ X.ex
  exfs : ∀ b ∈ X.ex, b ∉ X.fs
  funs : X.s₀.heap.FunFrames X.base X.outer
  frf : ∀ b ∈ X.fs, X.H₀ b = none

structure Inv (X : Cx) (pins : List (Addr × Obj)) (σ : List (Option V)) (H : Hp) (s : Shared) : Prop where
  ok : X.Ok
  os : s.os = X.s₀.os
  bare : AllBare s.gens
  base : Un X.fs X.ex X.H₀ H X.s₀.heap s.heap
  loc : ∃ m, s.heap.Ns X.env.locals m ∧ ∀ (i : Nat) (x : Str) (v : V), X.N[i]? = some x → σ[i]? = some (some v) → Vis X.env.scope x → ∃ u, RelV v u ∧ Look X.env s.heap m x u
  cell : ∀ x c, X.env.cells.lookup x = some c → ∃ v, s.heap.IsCell c v
  free : H X.env.locals = none
  freeC : ∀ x c, X.env.cells.lookup x = some c → H c = none
  pin : ∀ p ∈ X.pn ++ pins, s.heap.get? p.1 = some p.2 ∧ H p.1 = none ∧ p.1 ≠ X.env.locals ∧ p.1 ∉ X.fs ∧ ∀ v, p.2.data ≠ .cell v
  hok : HOk X.prog X.w H s.heap
  len : σ.length = X.N.length

section
variable {X : Cx} {pins : List (Addr × Obj)} {σ : List (Option V)} {H H' : Hp} {s : Shared} {h' : Heap}

theorem Cx.Ok.nofr (ok : X.Ok) {b : Addr} {o : Obj} (e : X.base.get? b = some o) : b ∉ X.fs := fun hb => by
  have := (ok.funs.mem hb).1
  rw [e] at this; cases this
theorem Inv.bs (I : Inv X pins σ H s) : ∀ b o, X.base.get? b = some o → s.heap.get? b = some o ∧ H b = none := fun b o e =>
  ⟨I.base.keep b o (I.ok.bs b o e).1 (I.ok.bs b o e).2 (I.ok.nofr e) (I.ok.noex b o e), I.base.free b o (I.ok.bs b o e).1 (I.ok.bs b o e).2 (I.ok.noex b o e)⟩
theorem Inv.bk (I : Inv X pins σ H s) : ∀ b o, X.base.get? b = some o → s.heap.get? b = some o := fun b o e => (I.bs b o e).1
theorem Inv.mod (I : Inv X pins σ H s) : Mod X.K X.mg X.base := I.ok.mod
theorem Inv.kIn (I : Inv X pins σ H s) : X.K.In s.heap := I.ok.mod.kin.keeps I.bk
theorem Inv.lt (I : Inv X pins σ H s) : X.env.locals < s.heap.objs.size := let ⟨_, hn, _⟩ := I.loc; hn.lt
theorem Inv.sz (I : Inv X pins σ H s) : X.s₀.heap.objs.size ≤ s.heap.objs.size := Nat.le_trans I.ok.above (Nat.le_of_lt I.lt)
theorem Inv.nofs (I : Inv X pins σ H s) {a : Addr} (h : s.heap.objs.size ≤ a) : a ∉ X.fs := fun hb => by
  obtain ⟨_, o, ho, _⟩ := I.ok.funs.mem hb
  exact absurd (Nat.lt_of_lt_of_le (Heap.lt_size ho) (Nat.le_trans I.sz h)) (Nat.lt_irrefl _)
theorem Inv.cne (I : Inv X pins σ H s) : ∀ x c, X.env.cells.lookup x = some c → c ≠ X.env.locals := fun x c e z => by
  obtain ⟨v, o, ho, hd⟩ := I.cell x c e
  obtain ⟨m, ⟨o', es, ep, ho', hd', _⟩, _⟩ := I.loc
  rw [z, ho'] at ho; cases ho; rw [hd'] at hd; cases hd
theorem Inv.funs (I : Inv X pins σ H s) : s.heap.FunFrames X.base X.outer := by
  have all : ∀ (l : List Env), (∀ b ∈ frs l, b ∈ X.fs) → X.s₀.heap.FunFrames X.base l → s.heap.FunFrames X.base l := by
    intro l
    induction l with
    | nil => intro _ _; trivial
    | cons env r ih =>
      intro hs hl
      obtain ⟨hk, ⟨L, o, hf, hn, ho, hd⟩, hr⟩ := hl
      have hL : L ∈ X.fs := hs L (by unfold frs; rw [List.filterMap_cons, hf]; exact List.mem_cons_self)
      obtain ⟨sl, e⟩ := I.base.slot L o ho (I.ok.frf L hL) hL fun z => I.ok.exfs L z hL
      exact ⟨hk, ⟨L, _, hf, hn, e, hd⟩, ih (fun b hb => hs b (by unfold frs; rw [List.filterMap_cons, hf]; exact List.mem_cons_of_mem _ hb)) hr⟩
  exact all X.outer (fun _ hb => hb) I.ok.funs

theorem Inv.stack (I : Inv X pins σ H s) : s.heap.FunFrames X.base X.stack := by
  rcases I.ok.stk with e | ⟨e, hf⟩
  · rw [e]; exact I.funs
  · rw [e]
    obtain ⟨m, hn, _⟩ := I.loc
    refine .cons (by rw [I.ok.kind]; decide) hf hn ?_ I.funs
    exact Heap.get?_none_of_le (Nat.le_trans I.ok.bsz I.ok.above)
theorem Inv.stkSub (I : Inv X pins σ H s) : ∀ b ∈ frs X.stack, b ∈ X.env.locals :: X.fs := fun b hb => by
  rcases I.ok.stk with e | ⟨e, hf⟩
  · rw [e] at hb; exact List.mem_cons_of_mem _ hb
  · rw [e] at hb
    unfold frs at hb
    rw [List.filterMap_cons, hf] at hb
    exact hb
theorem Inv.stkFree (I : Inv X pins σ H s) : ∀ b ∈ frs X.stack, H b = none := fun b hb => by
  rcases List.mem_cons.mp (I.stkSub b hb) with e | hb
  · rw [e]; exact I.free
  · obtain ⟨_, o, ho, _⟩ := I.ok.funs.mem hb
    exact I.base.free b o ho (I.ok.frf b hb) fun z => I.ok.exfs b z hb

theorem Inv.step {g' : Array GenState} {t' : Nat} {d' : Drawn} {ch : List Addr} (I : Inv X pins σ H s)
    (hch : ∀ b ∈ ch, (b ∈ X.ex ∨ X.s₀.heap.objs.size ≤ b) ∧ b ≠ X.env.locals ∧ (∀ x c, X.env.cells.lookup x = some c → c ≠ b) ∧ ∀ p ∈ X.pn ++ pins, p.1 ≠ b)
    (keep : ∀ b o, b ≠ X.env.locals → b ∉ X.fs → b ∉ ch → s.heap.get? b = some o → H b = none → h'.get? b = some o)
    (slot : ∀ b o, b ≠ X.env.locals → b ∈ X.fs → b ∉ ch → s.heap.get? b = some o → H b = none → ∃ sl, h'.get? b = some { o with slots := sl }) (free : ∀ b o, b ∉ ch → s.heap.get? b = some o → H b = none → H' b = none)
    (there : ∀ b o, b ∉ ch → s.heap.get? b = some o → ∃ o', h'.get? b = some o')
    (tups : ∀ b xs, H b = some (.tup xs) → H' b = some (.tup xs)) (frzs : ∀ b o u, H b = some (.frz o u) → H' b = some (.frz o u)) (tbls : ∀ b ps, H b = some (.tbl ps) → ∃ more, H' b = some (.tbl (ps ++ more)))
    (ns : ∀ m, s.heap.Ns X.env.locals m → h'.Ns X.env.locals m) (hok : HOk X.prog X.w H' h') (hg : AllBare g') :
    Inv X pins σ H' { s with heap := h', gens := g', drawn := d', toks := t' } := by
  have neL : ∀ b o, X.s₀.heap.get? b = some o → b ≠ X.env.locals := fun b o e => Nat.ne_of_lt (Nat.lt_of_lt_of_le (Heap.lt_size e) I.ok.above)
  have neC : ∀ b o, X.s₀.heap.get? b = some o → b ∉ X.ex → b ∉ ch := fun b o e hx hb => by
    rcases (hch b hb).1 with z | z
    · exact hx z
    · exact absurd (Nat.lt_of_lt_of_le (Heap.lt_size e) z) (Nat.lt_irrefl _)
  have cellK : ∀ x c, X.env.cells.lookup x = some c → ∀ v, s.heap.IsCell c v → h'.IsCell c v := fun x c e v ⟨o, ho, hd⟩ => by
    have nch : c ∉ ch := fun z => (hch c z).2.2.1 x c e rfl
    by_cases hc : c ∈ X.fs
    · obtain ⟨sl, q⟩ := slot c o (I.cne x c e) hc nch ho (I.freeC x c e)
      exact ⟨_, q, hd⟩
    · exact ⟨o, keep c o (I.cne x c e) hc nch ho (I.freeC x c e), hd⟩
  refine ⟨I.ok, I.os, hg, ⟨fun b o e n hb hx => ?_, fun b o e n hb hx => ?_, fun b o e n hx => ?_, fun b o e hx => ?_, fun b xs e => tups b xs (I.base.tups b xs e), fun b o xs e => frzs b o xs (I.base.frzs b o xs e), fun b ps e => ?_⟩, ?_, fun x c e => ?_, ?_, fun x c e => ?_, fun p hp => ?_, hok, I.len⟩
  · exact keep b o (neL b o e) hb (neC b o e hx) (I.base.keep b o e n hb hx) (I.base.free b o e n hx)
  · obtain ⟨sl, e1⟩ := I.base.slot b o e n hb hx
    obtain ⟨sl', e2⟩ := slot b _ (neL b o e) hb (neC b o e hx) e1 (I.base.free b o e n hx)
    exact ⟨sl', e2⟩
  · obtain ⟨o', e1⟩ := I.base.there b o e hx
    exact free b o' (neC b o e hx) e1 (I.base.free b o e n hx)
  · obtain ⟨o', e1⟩ := I.base.there b o e hx
    exact there b o' (neC b o e hx) e1
  · obtain ⟨m1, e1⟩ := I.base.tbls b ps e
    obtain ⟨m2, e2⟩ := tbls b _ e1
    exact ⟨m1 ++ m2, by rw [e2, Array.append_assoc]⟩
  · obtain ⟨m, hn, hl⟩ := I.loc
    refine ⟨m, ns m hn, fun i x v e1 e2 e3 => ?_⟩
    obtain ⟨u, r, l⟩ := hl i x v e1 e2 e3
    refine ⟨u, r, ?_⟩
    rcases l with l | ⟨k, c, e, z⟩
    · exact .inl l
    · exact .inr ⟨k, c, e, cellK x c e _ z⟩
  · obtain ⟨v, z⟩ := I.cell x c e
    exact ⟨v, cellK x c e v z⟩
  · obtain ⟨m, ⟨o, _, _, ho, _⟩, _⟩ := I.loc
    exact free _ o (fun z => (hch _ z).2.1 rfl) ho I.free
  · obtain ⟨v, o, ho, hd⟩ := I.cell x c e
    exact free c o (fun z => (hch c z).2.2.1 x c e rfl) ho (I.freeC x c e)
  · obtain ⟨e, n, ne, nf, d⟩ := I.pin p hp
    have nch : p.1 ∉ ch := fun z => (hch p.1 z).2.2.2 p hp rfl
    exact ⟨keep p.1 p.2 ne nf nch e n, free p.1 p.2 nch e n, ne, nf, d⟩
theorem Inv.un {t' : Nat} (I : Inv X pins σ H s) (u : Un X.fs [] H H' s.heap h') (hok : HOk X.prog X.w H' h') : Inv X pins σ H' { s with heap := h', toks := t' } := by
  obtain ⟨m, ⟨o, es, ep, ho, r⟩, _⟩ := id I.loc
  obtain ⟨sl, hL⟩ := u.any ho I.free (by simp)
  exact I.step (g' := s.gens) (d' := s.drawn) (ch := []) (fun _ z => nomatch z) (fun b o _ hb _ e n => u.keep b o e n hb (by simp)) (fun b o _ hb _ e n => u.slot b o e n hb (by simp)) (fun b o _ e n => u.free b o e n (by simp)) (fun b o _ e => u.there b o e (by simp)) u.tups u.frzs u.tbls (fun m' hm => by
    obtain ⟨o', es', ep', ho', r'⟩ := hm
    rw [ho] at ho'; cases ho'
    exact ⟨_, es', ep', hL, r'⟩) hok I.bare
theorem Inv.call {g' : Array GenState} {t' : Nat} {d' : Drawn} {ch : List Addr} (I : Inv X pins σ H s) (u : Un (frs X.stack) ch H H' s.heap h') (hok : HOk X.prog X.w H' h') (hg : AllBare g')
    (hch : ∀ b ∈ ch, (b ∈ X.ex ∨ X.s₀.heap.objs.size ≤ b) ∧ b ≠ X.env.locals ∧ (∀ x c, X.env.cells.lookup x = some c → c ≠ b) ∧ ∀ p ∈ X.pn ++ pins, p.1 ≠ b) :
    Inv X pins σ H' { s with heap := h', gens := g', drawn := d', toks := t' } := by
  obtain ⟨m, ⟨o, es, ep, ho, r⟩, _⟩ := id I.loc
  obtain ⟨sl, hL⟩ := u.any ho I.free fun z => (hch _ z).2.1 rfl
  exact I.step (ch := ch) hch (fun b o hL hb hc e n => u.keep b o e n (fun z => (List.mem_cons.mp (I.stkSub b z)).elim hL hb) hc) (fun b o _ _ hc e n => u.any e n hc) (fun b o hc e n => u.free b o e n hc) (fun b o hc e => u.there b o e hc) u.tups u.frzs u.tbls (fun m' hm => by
    obtain ⟨o', es', ep', ho', r'⟩ := hm
    rw [ho] at ho'; cases ho'
    exact ⟨_, es', ep', hL, r'⟩) hok hg
theorem Inv.turned {t' : Nat} {it : Addr} (I : Inv X pins σ H s) (k : ∀ b o, b ≠ it → s.heap.get? b = some o → h'.get? b = some o) (hn : H it = none) (hL : it ≠ X.env.locals)
    (h1 : it ∈ X.ex ∨ X.s₀.heap.objs.size ≤ it) (h2 : ∀ x c, X.env.cells.lookup x = some c → c ≠ it) (h3 : ∀ p ∈ X.pn ++ pins, p.1 ≠ it) : Inv X pins σ H { s with heap := h', toks := t' } := by
  have nit : ∀ b u, H b = some u → b ≠ it := fun b u e z => by rw [z, hn] at e; cases e
  refine I.step (g' := s.gens) (d' := s.drawn) (ch := [it]) (fun b hb => ?_) (fun b o _ _ hc e _ => k b o (fun z => hc (by simp [z])) e) (fun b o _ _ hc e _ => ⟨o.slots, k b o (fun z => hc (by simp [z])) e⟩) (fun _ _ _ _ n => n)
    (fun b o hc e => ⟨o, k b o (fun z => hc (by simp [z])) e⟩) (fun _ _ e => e) (fun _ _ _ e => e) (fun b ps e => ⟨#[], by rw [e]; simp⟩) (fun m hm => ?_) (fun b u e => ?_) I.bare
  · have e : b = it := by simpa using hb
    subst e
    exact ⟨h1, hL, h2, h3⟩
  · obtain ⟨o, es, ep, ho, r⟩ := hm
    exact ⟨o, es, ep, k _ o (Ne.symm hL) ho, r⟩
  · refine (I.hok b u e).stay (fun c v hc q => k c v ?_ q) (fun _ q => q) fun _ _ q => q
    rcases hc with z | z
    · rw [z]; exact nit b u e
    · exact nit c _ z
theorem Inv.tok (I : Inv X pins σ H s) (t : Nat) : Inv X pins σ H { s with toks := t } := I.un (h' := s.heap) (t' := t) Un.refl I.hok
theorem Inv.kept {t' : Nat} (I : Inv X pins σ H s) (k : ∀ b u, s.heap.get? b = some u → h'.get? b = some u) : Inv X pins σ H { s with heap := h', toks := t' } := I.un (Un.kept k) (I.hok.kept k)
theorem Inv.laid {a : Addr} {o : HO} {t' : Nat} (I : Inv X pins σ H s) (k : ∀ b u, s.heap.get? b = some u → h'.get? b = some u) (hp : s.heap.objs.size ≤ a) (new : ObjOk X.prog X.w (upd H a o) h' a o) :
    Inv X pins σ (upd H a o) { s with heap := h', toks := t' } := I.un (Un.laid k hp (I.hok.fresh hp)) (I.hok.laid k hp new)
theorem Inv.write {x e : Addr} {o : HO} {t' : Nat} (I : Inv X pins σ H s) (mu : Mut (H x)) (he : e = x ∨ H e = some (.own x)) (k : ∀ b u, b ≠ e → s.heap.get? b = some u → h'.get? b = some u) (heo : ∃ u, h'.get? e = some u)
    (new : ObjOk X.prog X.w (upd H x o) h' x o) : Inv X pins σ (upd H x o) { s with heap := h', toks := t' } := I.un (Un.write mu he k heo) (I.hok.write mu he k heo new)
theorem Inv.pins_of {pins' : List (Addr × Obj)} (I : Inv X pins σ H s) (h : ∀ p ∈ pins', s.heap.get? p.1 = some p.2 ∧ H p.1 = none ∧ p.1 ≠ X.env.locals ∧ p.1 ∉ X.fs ∧ ∀ v, p.2.data ≠ .cell v) : Inv X pins' σ H s :=
  ⟨I.ok, I.os, I.bare, I.base, I.loc, I.cell, I.free, I.freeC, fun p hp => (List.mem_append.mp hp).elim (fun z => I.pin p (List.mem_append_left _ z)) (h p), I.hok, I.len⟩

theorem nodup_ix {N : List Str} (hN : N.Nodup) {i j : Nat} {x : Str} (a : N[i]? = some x) (b : N[j]? = some x) : i = j := by
  obtain ⟨h1, e1⟩ := List.getElem?_eq_some_iff.mp a
  obtain ⟨h2, e2⟩ := List.getElem?_eq_some_iff.mp b
  exact (List.getElem_inj hN).mp (e1.trans e2.symm)

theorem store_ok2 {M : Model} {A : Around} {E : Value → Shared → Prop} {i : Nat} {x : Str} {v : V} {u : Value} {Q : Unit → Shared → Prop} (I : Inv X pins σ H s) (hN : X.N.Nodup) (hi : X.N[i]? = some x) (hx : Loc X.env.scope x) (r : RelV v u)
    (h : ∀ s', Inv X pins (σ.set i (some v)) H s' → (∃ a, Heap.SameBut a s.heap s'.heap ∧ (a = X.env.locals ∨ X.env.cells.lookup x = some a)) → Q () s') (hf : X.fn x = true ∨ X.env.scope.names.lookup x = some .local := by first | exact .inl rfl | exact .inr rfl | assumption) : wpAny M A (storeName X.env x u) Q E s := by
  obtain ⟨m, hn, hl⟩ := id I.loc
  have hcls : (X.env.scope.kind == .class || (X.env.scope.kind == .module && X.env.locals != X.env.globals)) = false := by rw [I.ok.kind]; rfl
  have hiσ : i < σ.length := by rw [I.len]; exact (List.getElem?_eq_some_iff.mp hi).1
  have cne := I.cne
  have tracked : ∀ {a : Addr} {h' : Heap}, (∃ o, s.heap.get? a = some o ∧ H a = none) → Heap.SameBut a s.heap h' → HOk X.prog X.w H h' := fun {a h'} ha hs b ob e => by
    obtain ⟨_, _, hfree⟩ := ha
    refine (I.hok b ob e).stay (fun c w' hc q => (hs.2 c ?_).trans q) (fun _ q => q) fun _ _ q => q
    rintro rfl
    rcases hc with rfl | hc
    · rw [hfree] at e; cases e
    · rw [hfree] at hc; cases hc
  rcases hx with hk | hk
  · refine wpAny_storeName_local hk hn (fun h' hn' hs => ?_) hcls
    obtain ⟨oL, _, _, hoL, _⟩ := id hn
    refine h _ ⟨I.ok, I.os, I.bare, ⟨fun b o e n hb hx => ?_, fun b o e n hb hx => ?_, I.base.free, fun b o e hx => ?_, I.base.tups, I.base.frzs, I.base.tbls⟩, ⟨_, hn', fun j y v' e1 e2 e3 => ?_⟩, fun y c e => ?_, I.free, I.freeC, fun p hp => ?_, tracked ⟨oL, hoL, I.free⟩ hs, by simpa using I.len⟩ ⟨_, hs, .inl rfl⟩
    · exact (hs.2 b (Nat.ne_of_lt (Nat.lt_of_lt_of_le (Heap.lt_size e) I.ok.above))).trans (I.base.keep b o e n hb hx)
    · obtain ⟨sl, e1⟩ := I.base.slot b o e n hb hx
      exact ⟨sl, (hs.2 b (Nat.ne_of_lt (Nat.lt_of_lt_of_le (Heap.lt_size e) I.ok.above))).trans e1⟩
    · obtain ⟨o', e1⟩ := I.base.there b o e hx
      exact ⟨o', (hs.2 b (Nat.ne_of_lt (Nat.lt_of_lt_of_le (Heap.lt_size e) I.ok.above))).trans e1⟩
    · by_cases hj : j = i
      · subst hj
        rw [hi] at e1; cases e1
        rw [List.getElem?_set_self hiσ] at e2
        cases e2
        exact ⟨u, r, .inl ⟨hk, by simp⟩⟩
      · rw [List.getElem?_set_ne (Ne.symm hj)] at e2
        obtain ⟨u', r', q⟩ := hl j y v' e1 e2 e3
        refine ⟨u', r', ?_⟩
        rcases q with ⟨k, e⟩ | ⟨k, c, e, z⟩
        · refine .inl ⟨k, ?_⟩
          have : y ≠ x := fun e => hj (nodup_ix hN e1 (e ▸ hi))
          simp [this, e]
        · exact .inr ⟨k, c, e, z.sameBut hs (cne y c e)⟩
    · obtain ⟨w', z⟩ := I.cell y c e
      exact ⟨w', z.sameBut hs (cne y c e)⟩
    · obtain ⟨e, n, ne, nf, d⟩ := I.pin p hp
      exact ⟨(hs.2 p.1 ne).trans e, n, ne, nf, d⟩
  · have hfn : X.fn x = true := by
      rcases hf with z | z
      · exact z
      · rw [z] at hk; cases hk
    obtain ⟨c, hc⟩ := I.ok.has x (.inl hk)
    obtain ⟨w', z⟩ := I.cell x c hc
    refine wpAny_storeName_cell I.ok.kind hk hc z (fun h' hc' hs => ?_)
    obtain ⟨oc, hoc, hocd⟩ := id z
    refine h { s with heap := h' } ⟨I.ok, I.os, I.bare, ⟨fun b o e n hb hx => ?_, fun b o e n hb hx => ?_, I.base.free, fun b o e hx => ?_, I.base.tups, I.base.frzs, I.base.tbls⟩, ⟨m, hn.sameBut hs (Ne.symm (cne x c hc)), fun j y v' e1 e2 e3 => ?_⟩, fun y c' e => ?_, I.free, I.freeC, fun p hp => ?_, tracked ⟨oc, hoc, I.freeC x c hc⟩ hs, by simpa using I.len⟩ ⟨c, hs, .inr hc⟩
    · exact (hs.2 b (Nat.ne_of_lt (Nat.lt_of_lt_of_le (Heap.lt_size e) (I.ok.cab x c hfn hc)))).trans (I.base.keep b o e n hb hx)
    · obtain ⟨sl, e1⟩ := I.base.slot b o e n hb hx
      exact ⟨sl, (hs.2 b (Nat.ne_of_lt (Nat.lt_of_lt_of_le (Heap.lt_size e) (I.ok.cab x c hfn hc)))).trans e1⟩
    · obtain ⟨o', e1⟩ := I.base.there b o e hx
      exact ⟨o', (hs.2 b (Nat.ne_of_lt (Nat.lt_of_lt_of_le (Heap.lt_size e) (I.ok.cab x c hfn hc)))).trans e1⟩
    · by_cases hj : j = i
      · subst hj
        rw [hi] at e1; cases e1
        rw [List.getElem?_set_self hiσ] at e2
        cases e2
        exact ⟨u, r, .inr ⟨.inl hk, c, hc, hc'⟩⟩
      · rw [List.getElem?_set_ne (Ne.symm hj)] at e2
        obtain ⟨u', r', q⟩ := hl j y v' e1 e2 e3
        refine ⟨u', r', ?_⟩
        rcases q with q | ⟨k, c', e, z'⟩
        · exact .inl q
        · refine .inr ⟨k, c', e, z'.sameBut hs ?_⟩
          rintro rfl
          exact hj (nodup_ix hN e1 (I.ok.inj _ _ _ e hc ▸ hi))
    · by_cases hcc : c' = c
      · subst hcc; exact ⟨_, hc'⟩
      · obtain ⟨w2, z2⟩ := I.cell y c' e
        exact ⟨w2, z2.sameBut hs hcc⟩
    · obtain ⟨e, n, ne, nf, d⟩ := I.pin p hp
      refine ⟨(hs.2 p.1 ?_).trans e, n, ne, nf, d⟩
      intro q
      rw [q, hoc] at e
      have q' : oc = p.2 := Option.some.inj e
      exact d w' (by rw [← q']; exact hocd)
theorem store_ok {M : Model} {A : Around} {E : Value → Shared → Prop} {i : Nat} {x : Str} {v : V} {u : Value} {Q : Unit → Shared → Prop} (I : Inv X pins σ H s) (hN : X.N.Nodup) (hi : X.N[i]? = some x) (hx : Loc X.env.scope x) (r : RelV v u)
    (h : ∀ s', Inv X pins (σ.set i (some v)) H s' → Q () s') (hf : X.fn x = true ∨ X.env.scope.names.lookup x = some .local := by first | exact .inl rfl | exact .inr rfl | assumption) : wpAny M A (storeName X.env x u) Q E s :=
  store_ok2 I hN hi hx r (fun s' I' _ => h s' I') hf
theorem Inv.call' {s' : Shared} {ch : List Addr} (I : Inv X pins σ H s) (ho : s'.os = s.os) (u : Un (frs X.stack) ch H H' s.heap s'.heap) (hok : HOk X.prog X.w H' s'.heap) (hg : AllBare s'.gens)
    (hch : ∀ b ∈ ch, (b ∈ X.ex ∨ X.s₀.heap.objs.size ≤ b) ∧ b ≠ X.env.locals ∧ (∀ x c, X.env.cells.lookup x = some c → c ≠ b) ∧ ∀ p ∈ X.pn ++ pins, p.1 ≠ b) : Inv X pins σ H' s' := by
  obtain ⟨h', g', d', t', o'⟩ := s'
  have e : o' = s.os := ho
  subst e
  exact I.call (g' := g') (t' := t') (d' := d') u hok hg hch
end

/-! ### the judgements -/
abbrev XK := Value → Option Addr → Hp → Prop
abbrev St := List (Option V)
abbrev VK := V → Hp → Prop
abbrev TE := St → Hp → VK → Prop
abbrev TT := St → Hp → (Bool → Hp → Prop) → Prop
abbrev TA := St → Hp → (List V → Hp → Prop) → Prop
structure Ends where
  nx : St → Hp → Prop
  rt : VK
  bk : St → Hp → Prop := fun _ _ => False
  ct : St → Hp → Prop := fun _ _ => False
abbrev TS := Ends → St → Hp → Prop

def EP (X : Cx) (pins : List (Addr × Obj)) (σ : St) (Q : VK) (u : Value) (s' : Shared) : Prop := ∃ v H', Inv X pins σ H' s' ∧ RelV v u ∧ Q v H'
def TP (X : Cx) (pins : List (Addr × Obj)) (σ : St) (Q : Bool → Hp → Prop) (b : Bool) (s' : Shared) : Prop := ∃ H', Inv X pins σ H' s' ∧ Q b H'
def AP (X : Cx) (pins : List (Addr × Obj)) (σ : St) (Q : List V → Hp → Prop) (us : List Value) (s' : Shared) : Prop := ∃ vs H', Inv X pins σ H' s' ∧ Vals vs us ∧ Q vs H'
def SP (X : Cx) (pins : List (Addr × Obj)) (D : Ends) (f : Flow) (s' : Shared) : Prop :=
  match f with
  | .next => ∃ σ' H', Inv X pins σ' H' s' ∧ D.nx σ' H'
  | .brk => ∃ σ' H', Inv X pins σ' H' s' ∧ D.bk σ' H'
  | .cont => ∃ σ' H', Inv X pins σ' H' s' ∧ D.ct σ' H'
  | .ret u => ∃ v σ' H', Inv X pins σ' H' s' ∧ RelV v u ∧ D.rt v H'

def PE (X : Cx) (e : Expr) (t : TE) : Prop :=
  ∀ (pins : List (Addr × Obj)) (s : Shared) (σ : St) (H : Hp) (Q : VK), Inv X pins σ H s → t σ H Q → wpAny (model X.prog X.w) X.A (eval e X.env) (EP X pins σ Q) X.xe s
def PT (X : Cx) (e : Expr) (t : TT) : Prop :=
  ∀ (pins : List (Addr × Obj)) (s : Shared) (σ : St) (H : Hp) (Q : Bool → Hp → Prop), Inv X pins σ H s → t σ H Q → wpAny (model X.prog X.w) X.A (isTrue e X.env (eval e X.env)) (TP X pins σ Q) X.xe s
def PW (X : Cx) (e : Expr) (t : TT) : Prop :=
  ∀ (whole : Sem Value) (pins : List (Addr × Obj)) (s : Shared) (σ : St) (H : Hp) (Q : Bool → Hp → Prop), Inv X pins σ H s → t σ H Q → wpAny (model X.prog X.w) X.A (isTrue e X.env whole) (TP X pins σ Q) X.xe s
theorem PW.pt {X : Cx} {e : Expr} {t : TT} (h : PW X e t) : PT X e t := h _
def PA (X : Cx) (es : List Expr) (t : TA) : Prop :=
  ∀ (pos : Pos) (pins : List (Addr × Obj)) (s : Shared) (σ : St) (H : Hp) (Q : List V → Hp → Prop), Inv X pins σ H s → t σ H Q → wpAny (model X.prog X.w) X.A (spliced (backTo pos (starEach es X.env))) (AP X pins σ Q) X.xe s
def PS (X : Cx) (st : Stmt) (t : TS) : Prop :=
  ∀ (pins : List (Addr × Obj)) (s : Shared) (σ : St) (H : Hp) (D : Ends), Inv X pins σ H s → t D σ H → wpAny (model X.prog X.w) X.A (exec st X.env) (SP X pins D) X.xe s
def PSs (X : Cx) (st : List Stmt) (t : TS) : Prop :=
  ∀ (pins : List (Addr × Obj)) (s : Shared) (σ : St) (H : Hp) (D : Ends), Inv X pins σ H s → t D σ H → wpAny (model X.prog X.w) X.A (execs st X.env) (SP X pins D) X.xe s
theorem thn {α : Type} {t : Sem α} {Q Q' : α → Shared → Prop} {M : Model} {A : Around} {E : Value → Shared → Prop} {s : Shared} (h : wpAny M A t Q E s) (hQ : ∀ a s, Q a s → Q' a s) : wpAny M A t Q' E s := wpAny_mono h hQ fun _ _ x => x
end L2

namespace L2
open PySem PySem.Spec PyProof.Rows
section
variable {X : Cx}

/-! ### names and constants -/
def tVar (i : Nat) : TE := fun σ H Q => ∃ v, σ[i]? = some (some v) ∧ Q v H
def tC (v : V) : TE := fun _ H Q => Q v H
theorem pe_var {i : Nat} {x : Str} {pos : Pos} (hN : X.N[i]? = some x) (hv : Vis X.env.scope x) (hd : (x == ("__debug__" : Str)) = false := by decide) (hcd : (x == ("__classdict__" : Str)) = false := by decide) : PE X (.Name x pos) (tVar i) := by
  intro pins s σ H Q I h
  obtain ⟨v, e, h⟩ := h
  obtain ⟨m, hn, hl⟩ := I.loc
  obtain ⟨u, r, l⟩ := hl i x v hN e hv
  have fin : EP X pins σ Q u s := ⟨v, H, I, r, h⟩
  rcases l with ⟨hk, hm⟩ | ⟨hk, c, hc, hcell⟩
  · exact wpAny_Name (wpAny_loadName_local I.ok.kind hk hn hm fin) hd
  · rcases hk with hk | hk
    · exact wpAny_Name (wpAny_loadName_cell I.ok.kind hk hc hcell fin) hd
    · exact wpAny_Name (wpAny_loadName_free I.ok.kind hk hc hcell fin hcd) hd
theorem pe_int {i j pos} : PE X (.Constant (.int i) j pos) (tC (.int i)) := fun _ _ _ H _ I h => wpAny_Constant_int ⟨.int i, H, I.tok _, ⟨_, rfl⟩, h⟩
theorem pe_bl {b j pos} : PE X (.Constant (.bool b) j pos) (tC (.bl b)) := fun _ _ _ H _ I h => Constant_bool ⟨.bl b, H, I, rfl, h⟩
theorem pe_non {j pos} : PE X (.Constant .none j pos) (tC .non) := fun _ _ _ H _ I h => Constant_none ⟨.non, H, I, rfl, h⟩
theorem pe_str {x j pos} : PE X (.Constant (.str x) j pos) (tC (.str x)) := fun _ _ _ H _ I h => Calls.Constant_str ⟨.str x, H, I.tok _, ⟨_, rfl⟩, h⟩

def Gl (X : Cx) (x : Str) : Prop := X.env.kindOf x = some .globalImplicit
theorem ld_glob {E : Value → Shared → Prop} {pins : List (Addr × Obj)} {s : Shared} {σ : St} {H : Hp} {x : Str} {u : Value} {pos : Pos} {Q : Value → Shared → Prop} (I : Inv X pins σ H s) (hg : Gl X x) (hm : X.mg x = some u) (h : Q u s)
    (hd : (x == ("__debug__" : Str)) = false := by decide) : wpAny (model X.prog X.w) X.A (eval (.Name x pos) X.env) Q E s :=
  Calls.Name_function_global I.ok.kind hg (Calls.loadGlobal_global (by rw [I.ok.glob]; exact I.mod.glob.keeps I.bk) hm h) hd
theorem ld_blt {E : Value → Shared → Prop} {pins : List (Addr × Obj)} {s : Shared} {σ : St} {H : Hp} {x : Str} {u : Value} {pos : Pos} {Q : Value → Shared → Prop} (I : Inv X pins σ H s) (hg : Gl X x) (hm : X.mg x = none) (hv : bootBuiltins x = some u) (h : Q u s)
    (hn : x ≠ "__name__" := by decide) (hd : (x == ("__debug__" : Str)) = false := by decide) : wpAny (model X.prog X.w) X.A (eval (.Name x pos) X.env) Q E s := by
  obtain ⟨mb, h1, h2⟩ := I.mod.blt
  exact Calls.Name_function_global I.ok.kind hg (Calls.loadGlobal_builtin (by rw [I.ok.glob]; exact I.mod.glob.keeps I.bk) hm (by rw [I.ok.blt]; exact h1.keeps I.bk) ((h2 x hn).trans hv) h) hd
theorem pe_glob {x : Str} {v : V} {u : Value} {pos : Pos} (hg : Gl X x) (hm : X.mg x = some u) (r : RelV v u) (hd : (x == ("__debug__" : Str)) = false := by decide) : PE X (.Name x pos) (tC v) :=
  fun _ _ _ H _ I h => ld_glob I hg hm ⟨v, H, I, r, h⟩ hd
theorem pe_bltn {x : Str} {v : V} {u : Value} {pos : Pos} (hg : Gl X x) (hm : X.mg x = none) (hv : bootBuiltins x = some u) (r : RelV v u) (hn : x ≠ "__name__" := by decide) (hd : (x == ("__debug__" : Str)) = false := by decide) : PE X (.Name x pos) (tC v) :=
  fun _ _ _ H _ I h => ld_blt I hg hm hv ⟨v, H, I, r, h⟩ hn hd

/-! ### arithmetic -/
def t2I (ta tb : TE) (k : Int → Int → Hp → Prop) : St → Hp → Prop := fun σ H => ta σ H fun x H1 => tb σ H1 fun y H2 => ∃ i j, x = .int i ∧ y = .int j ∧ k i j H2
def tAdd (ta tb : TE) : TE := fun σ H Q => t2I ta tb (fun i j H2 => Q (.int (i + j)) H2) σ H
def tSub (ta tb : TE) : TE := fun σ H Q => t2I ta tb (fun i j H2 => Q (.int (i - j)) H2) σ H
def tMul (ta tb : TE) : TE := fun σ H Q => t2I ta tb (fun i j H2 => (-(2 ^ 64) < i ∧ i < 2 ^ 64) ∧ Q (.int (i * j)) H2) σ H
variable {a b : Expr} {ta tb : TE} {pos : Pos}
/-! ### comparisons -/
def PC (X : Cx) (op : CmpOp) (a b : Expr) (t : TE) : Prop :=
  ∀ (pins : List (Addr × Obj)) (s : Shared) (σ : St) (H : Hp) (Q : VK), Inv X pins σ H s → t σ H Q →
    wpAny (model X.prog X.w) X.A (eval a X.env) (fun v s₁ => wpAny (model X.prog X.w) X.A (eval b X.env) (fun u s₂ => wpAny (model X.prog X.w) X.A (compareOp op v u) (EP X pins σ Q) X.xe s₂) X.xe s₁) X.xe s
def tCmp (p : Int → Int → Bool) (ta tb : TE) : TE := fun σ H Q => t2I ta tb (fun i j H2 => Q (.bl (p i j)) H2) σ H
abbrev tLt : TE → TE → TE := tCmp fun i j => decide (i < j)
abbrev tLe : TE → TE → TE := tCmp fun i j => decide (i ≤ j)
abbrev tGt : TE → TE → TE := tCmp fun i j => decide (j < i)
abbrev tGe : TE → TE → TE := tCmp fun i j => decide (j ≤ i)
abbrev tEqI : TE → TE → TE := tCmp fun i j => decide (i = j)
abbrev tNeI : TE → TE → TE := tCmp fun i j => !decide (i = j)
def tIsN (ta : TE) : TE := fun σ H Q => ta σ H fun x H1 => Q (.bl (decide (x = .non))) H1
def tNotN (ta : TE) : TE := fun σ H Q => ta σ H fun x H1 => Q (.bl (!decide (x = .non))) H1
def tB (t : TE) : TT := fun σ H Q => t σ H fun x H1 => ∃ c, x = .bl c ∧ Q c H1
theorem pt_val {e : Expr} {t : TE} (h : PE X e t) (he : ∀ whole, isTrue e X.env whole = (do let v ← whole; standAt e.pos; holding [v] (truthy v)) := by intro _; rfl) : PT X e (tB t) := by
  intro pins s σ H Q I hw
  refine isTrue_plain (thn (h pins s σ H _ I hw) fun v s1 ⟨x, H1, I1, r1, q1⟩ => ?_) (he _)
  obtain ⟨d, rfl, q⟩ := q1
  cases r1
  exact wpAny_truthy_bool ⟨H1, I1, q⟩

/-! ### and, or, not -/
variable {tA tB' : TT} {rest : List Expr}
def tAnd (t u : TT) : TT := fun σ H Q => t σ H fun c H1 => if c = true then u σ H1 Q else Q false H1
def tOr (t u : TT) : TT := fun σ H Q => t σ H fun c H1 => if c = true then Q true H1 else u σ H1 Q
def tNot (t : TT) : TT := fun σ H Q => t σ H fun c H1 => Q (!c) H1
theorem pw_and1 (ha : PT X a tA) : PW X (.BoolOp .And [a] pos) tA := by
  intro wh pins s σ H Q I h
  refine isTrue_and (thn (ha pins s σ H Q I h) fun c s1 e => ?_)
  cases c with
  | true => exact isTrue_and_nil e
  | false => exact e
theorem pw_or1 (ha : PT X a tA) : PW X (.BoolOp .Or [a] pos) tA := by
  intro wh pins s σ H Q I h
  refine isTrue_or (thn (ha pins s σ H Q I h) fun c s1 e => ?_)
  cases c with
  | false => exact isTrue_or_nil e
  | true => exact e
theorem pw_and (ha : PT X a tA) (hb : PW X (.BoolOp .And (b :: rest) pos) tB') : PW X (.BoolOp .And (a :: b :: rest) pos) (tAnd tA tB') := by
  intro wh pins s σ H Q I h
  refine isTrue_and (thn (ha pins s σ H _ I h) fun c s1 ⟨H1, I1, q1⟩ => ?_)
  cases c with
  | true => exact hb wh pins s1 σ H1 Q I1 q1
  | false => exact ⟨H1, I1, q1⟩
theorem pw_or (ha : PT X a tA) (hb : PW X (.BoolOp .Or (b :: rest) pos) tB') : PW X (.BoolOp .Or (a :: b :: rest) pos) (tOr tA tB') := by
  intro wh pins s σ H Q I h
  refine isTrue_or (thn (ha pins s σ H _ I h) fun c s1 ⟨H1, I1, q1⟩ => ?_)
  cases c with
  | true => exact ⟨H1, I1, q1⟩
  | false => exact hb wh pins s1 σ H1 Q I1 q1
theorem pt_not (ha : PT X a tA) : PT X (.UnaryOp .Not a pos) (tNot tA) := by
  intro pins s σ H Q I h
  exact isTrue_not (ha pins s σ H (fun c H1 => Q (!c) H1) I h)
def tAndV (ta tb : TE) : TE := fun σ H Q => ta σ H fun x H1 => ∃ c, x = .bl c ∧ if c = true then tb σ H1 Q else Q (.bl false) H1
def tOrV (ta tb : TE) : TE := fun σ H Q => ta σ H fun x H1 => ∃ c, x = .bl c ∧ if c = true then Q (.bl true) H1 else tb σ H1 Q
def tNotV (ta : TE) : TE := fun σ H Q => ta σ H fun x H1 => ∃ c, x = .bl c ∧ Q (.bl (!c)) H1
theorem pe_one {op} {t : TE} (h : PE X a t) : PE X (.BoolOp op [a] pos) t := fun pins s σ H Q I hw => BoolOp_one (h pins s σ H Q I hw)
theorem pe_and (ha : PE X a ta) (hb : PE X (.BoolOp .And (b :: rest) pos) tb) : PE X (.BoolOp .And (a :: b :: rest) pos) (tAndV ta tb) := by
  intro pins s σ H Q I h
  refine BoolOp_and (thn (ha pins s σ H _ I h) fun v s1 ⟨x, H1, I1, r1, q1⟩ => ?_)
  obtain ⟨c, rfl, q1⟩ := q1
  cases r1
  refine wpAny_truthy_bool ?_
  cases c with
  | true => exact hb pins s1 σ H1 Q I1 q1
  | false => exact ⟨.bl false, H1, I1, rfl, q1⟩
theorem pe_not (ha : PE X a ta) : PE X (.UnaryOp .Not a pos) (tNotV ta) := by
  intro pins s σ H Q I h
  refine UnaryOp_ (thn (ha pins s σ H _ I h) fun v s1 ⟨x, H1, I1, r1, q1⟩ => ?_)
  obtain ⟨c, rfl, q1⟩ := q1
  cases r1
  exact not_of (wpAny_truthy_bool ⟨.bl (!c), H1, I1, rfl, q1⟩)
def tIf (t : TT) (ta tb : TE) : TE := fun σ H Q => t σ H fun c H1 => if c = true then ta σ H1 Q else tb σ H1 Q
theorem pe_ifExp {c : Expr} (hc : PT X c tA) (ha : PE X a ta) (hb : PE X b tb) : PE X (.IfExp c a b pos) (tIf tA ta tb) := by
  intro pins s σ H Q I h
  refine wpAny_IfExp (thn (hc pins s σ H _ I h) fun d s1 ⟨H1, I1, q1⟩ => ?_)
  cases d with
  | true => exact ha pins s1 σ H1 Q I1 q1
  | false => exact hb pins s1 σ H1 Q I1 q1
end
end L2

namespace L2
open PySem PySem.Spec PyProof.Rows

/-! ### a list, a tuple that is read: tracked, frozen, or an object of the module -/
def SqL (K : PySem.W.Frag) (H : Hp) (a : Addr) (xs : List V) : Prop :=
  Rd H a (.lst xs) ∨
    ∃ (o : Obj) (its : Array Value) (n : Nat), K.lookup a = some o ∧ o.cls = .type "list" ∧ o.dict = none ∧ o.data = .seq its n ∧ its.size ≤ sizeLine ∧ Vals xs its.toList
def SqT (K : PySem.W.Frag) (H : Hp) (a : Addr) (xs : List V) : Prop :=
  Rd H a (.tup xs) ∨
    ∃ (o : Obj) (its : Array Value) (n : Nat), K.lookup a = some o ∧ o.cls = .type "tuple" ∧ o.data = .seq its n ∧ its.size ≤ sizeLine ∧ Vals xs its.toList
def absV : Value → Option V
  | .none => some .non
  | .bool b => some (.bl b)
  | .int i _ => some (.int i)
  | .str x _ => some (.str x)
  | .bytes b _ => some (.byt b)
  | .float b _ => some (.flt b)
  | .ref a => some (.ref a)
  | .type n => some (.ty n)
  | _ => none
theorem RelV.abs {x : V} {u : Value} (r : RelV x u) : absV u = some x := by
  cases x with
  | non => cases r; rfl
  | bl _ => cases r; rfl
  | int _ => obtain ⟨t, rfl⟩ := r; rfl
  | str _ => obtain ⟨t, rfl⟩ := r; rfl
  | byt _ => obtain ⟨t, rfl⟩ := r; rfl
  | flt _ => obtain ⟨t, rfl⟩ := r; rfl
  | ref _ => cases r; rfl
  | ty _ => cases r; rfl
theorem RelV.inj {x y : V} {u : Value} (r : RelV x u) (q : RelV y u) : x = y := Option.some.inj (r.abs.symm.trans q.abs)
theorem Vals.inj : ∀ {xs ys : List V} {us : List Value}, Vals xs us → Vals ys us → xs = ys
  | _, _, _, .nil, .nil => rfl
  | _, _, _, .cons r t, .cons r' t' => by rw [r.inj r', Vals.inj t t']
section
variable {X : Cx} {pins : List (Addr × Obj)} {σ : St} {H : Hp} {s : Shared} {a : Addr} {xs ys : List V}
theorem SqL.of {K : PySem.W.Frag} (h : H a = some (.lst xs)) : SqL K H a xs := .inl (.inl h)
theorem SqT.of {K : PySem.W.Frag} (h : H a = some (.tup xs)) : SqT K H a xs := .inl (.inl h)
theorem Inv.list (I : Inv X pins σ H s) (h : SqL X.K H a xs) : ∃ its : List Value, Vals xs its ∧ PlainL s.heap a its.toArray ∧ xs.length ≤ sizeLine := by
  rcases h with h | ⟨o, its, n, hk, hc, hd, hs, hz, r⟩
  · obtain ⟨z, its, n, r, e⟩ := h.ok I.hok
    exact ⟨its, r, ⟨_, n, e, rfl, rfl, rfl⟩, z⟩
  · refine ⟨its.toList, r, ⟨o, n, I.kIn a o hk, hc, hd, by simpa using hs⟩, ?_⟩
    have e := r.length
    simp only [Array.length_toList] at e
    omega
theorem Inv.tuple (I : Inv X pins σ H s) (h : SqT X.K H a xs) : ∃ its : List Value, Vals xs its ∧ IsTup s.heap a its.toArray ∧ xs.length ≤ sizeLine := by
  rcases h with h | ⟨o, its, n, hk, hc, hs, hz, r⟩
  · obtain ⟨z, its, r, p⟩ := h.ok I.hok
    exact ⟨its, r, p, z⟩
  · refine ⟨its.toList, r, ⟨o, I.kIn a o hk, hc, n, by simpa using hs⟩, ?_⟩
    have e := r.length
    simp only [Array.length_toList] at e
    omega
theorem Inv.list_inj (I : Inv X pins σ H s) (h : SqL X.K H a xs) (h' : SqL X.K H a ys) : xs = ys := by
  obtain ⟨its, r, ⟨o, n, e, _, _, d⟩, _⟩ := I.list h
  obtain ⟨its', r', ⟨o', n', e', _, _, d'⟩, _⟩ := I.list h'
  rw [e] at e'; cases e'
  rw [d] at d'
  injection d' with d1 _
  have : its = its' := by simpa using congrArg Array.toList d1
  subst this
  exact r.inj r'
end

/-! ### another wish about exceptions -/
abbrev Cx.wish (X : Cx) (E : Value → Shared → Prop) : Cx := { X with xe := E }
abbrev Cx.nox (X : Cx) : Cx := X.wish fun _ _ => False
theorem Cx.Ok.wish {X : Cx} (ok : X.Ok) (E : Value → Shared → Prop) : (X.wish E).Ok :=
  ⟨ok.mod, ok.kind, ok.glob, ok.blt, ok.above, ok.inj, ok.has, ok.cab, ok.hd, ok.frames, ok.stk, ok.exf, ok.bs, ok.bsz, ok.noex, ok.exfs, ok.funs, ok.frf⟩
theorem Cx.Ok.unwish {X : Cx} {E : Value → Shared → Prop} (ok : (X.wish E).Ok) : X.Ok :=
  ⟨ok.mod, ok.kind, ok.glob, ok.blt, ok.above, ok.inj, ok.has, ok.cab, ok.hd, ok.frames, ok.stk, ok.exf, ok.bs, ok.bsz, ok.noex, ok.exfs, ok.funs, ok.frf⟩
section
variable {X : Cx} {pins : List (Addr × Obj)} {σ : St} {H : Hp} {s : Shared} {E : Value → Shared → Prop}
theorem Inv.wish (I : Inv X pins σ H s) (E : Value → Shared → Prop) : Inv (X.wish E) pins σ H s := ⟨I.ok.wish E, I.os, I.bare, I.base, I.loc, I.cell, I.free, I.freeC, I.pin, I.hok, I.len⟩
theorem Inv.unwish (I : Inv (X.wish E) pins σ H s) : Inv X pins σ H s := ⟨I.ok.unwish, I.os, I.bare, I.base, I.loc, I.cell, I.free, I.freeC, I.pin, I.hok, I.len⟩
theorem SP.unwish {D : Ends} {f : Flow} {s' : Shared} (h : SP (X.wish E) pins D f s') : SP X pins D f s' := by
  cases f with
  | next => obtain ⟨σ', H', I, q⟩ := h; exact ⟨σ', H', I.unwish, q⟩
  | brk => obtain ⟨σ', H', I, q⟩ := h; exact ⟨σ', H', I.unwish, q⟩
  | cont => obtain ⟨σ', H', I, q⟩ := h; exact ⟨σ', H', I.unwish, q⟩
  | ret u => obtain ⟨v, σ', H', I, r, q⟩ := h; exact ⟨v, σ', H', I.unwish, r, q⟩
theorem PSs.nox {st : List Stmt} {t : TS} (h : PSs X.nox st t) : PSs X st t := fun pins s σ H D I hw =>
  wpAny_mono (h pins s σ H D (I.wish _) hw) (fun _ _ q => q.unwish) fun _ _ z => False.elim z
end

/-! ### blocks and small statements -/
section
variable {X : Cx} {st : Stmt} {rest : List Stmt} {t u : TS} {e : Expr} {te : TE} {pos : Pos}
def tNext : TS := fun D σ H => D.nx σ H
def tSeq (t u : TS) : TS := fun D σ H => t { D with nx := u D } σ H
theorem pss_nil : PSs X [] tNext := fun _ _ σ H _ I h => wpAny_execs_nil ⟨σ, H, I, h⟩
theorem pss_cons (h1 : PS X st t) (h2 : PSs X rest u) : PSs X (st :: rest) (tSeq t u) := by
  intro pins s σ H D I h
  refine wpAny_execs_cons (thn (h1 pins s σ H { D with nx := u D } I h) fun f s1 q => ?_)
  cases f with
  | next =>
    obtain ⟨σ', H', I', q⟩ := q
    exact h2 pins s1 σ' H' D I' q
  | ret v => exact q
  | brk => exact q
  | cont => exact q
theorem pss_one (h1 : PS X st t) : PSs X [st] t := by
  intro pins s σ H D I h
  refine wpAny_execs_cons (thn (h1 pins s σ H D I h) fun f s1 q => ?_)
  cases f with
  | next => exact wpAny_execs_nil q
  | ret v => exact q
  | brk => exact q
  | cont => exact q
def tBreak : TS := fun D σ H => D.bk σ H
def tCont : TS := fun D σ H => D.ct σ H
theorem Inv.quiet {pins : List (Addr × Obj)} {σ : St} {H : Hp} {s : Shared} (I : Inv X pins σ H s) : interactive X.env = false := by simp [interactive, I.ok.kind]
def tDrop (te : TE) : TS := fun D σ H => te σ H fun _ H1 => D.nx σ H1
theorem ps_expr (he : PE X e te) (hs : swapsWith e none pos.line X.env = pure false := by rfl) : PS X (.Expr e pos) (tDrop te) := by
  intro pins s σ H D I h
  exact wpAny_Expr_any (thn (he pins s σ H _ I h) fun v s1 ⟨x, H1, I1, r1, q1⟩ => ⟨σ, H1, I1, q1⟩) I.quiet hs
def tRet (te : TE) : TS := fun D σ H => te σ H D.rt
theorem ps_ret (he : PE X e te) : PS X (.Return (some e) pos) (tRet te) := by
  intro pins s σ H D I h
  exact wpAny_Return_some (thn (he pins s σ H _ I h) fun v s1 ⟨x, H1, I1, r1, q1⟩ => ⟨x, σ, H1, I1, r1, q1⟩)
def tRetN : TS := fun D _ H => D.rt .non H
def tIfS (c : TT) (t u : TS) : TS := fun D σ H => c σ H fun b H1 => if b = true then t D σ H1 else u D σ H1
theorem ps_if {c : Expr} {a b : List Stmt} {tc : TT} (hc : PT X c tc) (ha : PSs X a t) (hb : PSs X b u) : PS X (.If c a b pos) (tIfS tc t u) := by
  intro pins s σ H D I h
  refine wpAny_If (thn (hc pins s σ H _ I h) fun d s1 ⟨H1, I1, q1⟩ => ?_)
  cases d with
  | true => exact ha pins s1 σ H1 D I1 q1
  | false => exact hb pins s1 σ H1 D I1 q1
def tNever : TS := fun _ _ _ => False
theorem pss_never {sts : List Stmt} : PSs X sts tNever := fun _ _ _ _ _ _ h => h.elim
end

/-! ### targets -/
abbrev TG := V → St → Hp → (St → Hp → Prop) → Prop
abbrev TGs := List V → St → Hp → (St → Hp → Prop) → Prop
def PG (X : Cx) (target : Expr) (t : TG) : Prop :=
  ∀ (pins : List (Addr × Obj)) (s : Shared) (σ : St) (H : Hp) (v : V) (u : Value) (Q : St → Hp → Prop), Inv X pins σ H s → RelV v u → t v σ H Q →
    wpAny (model X.prog X.w) X.A (assign target X.env u) (fun _ s' => ∃ σ' H', Inv X pins σ' H' s' ∧ Q σ' H') X.xe s
def PGs (X : Cx) (ts : List Expr) (t : TGs) : Prop :=
  ∀ (pins : List (Addr × Obj)) (s : Shared) (σ : St) (H : Hp) (vs : List V) (us : List Value) (Q : St → Hp → Prop), Inv X pins σ H s → Vals vs us → t vs σ H Q →
    wpAny (model X.prog X.w) X.A (assignInOrder ((assignEach ts X.env).map (·.2)) us) (fun _ s' => ∃ σ' H', Inv X pins σ' H' s' ∧ Q σ' H') X.xe s
abbrev TSet := V → V → V → Hp → (Hp → Prop) → Prop
def PSet (X : Cx) (t : TSet) : Prop :=
  ∀ (pins : List (Addr × Obj)) (s : Shared) (σ : St) (H : Hp) (o i v : V) (ov iv u : Value) (Q : Hp → Prop), Inv X pins σ H s → RelV o ov → RelV i iv → RelV v u → t o i v H Q →
    wpAny (model X.prog X.w) X.A (setItem ov iv u) (fun _ s' => ∃ H', Inv X pins σ H' s' ∧ Q H') X.xe s
abbrev TIp := V → V → Hp → VK → Prop
def PIp (X : Cx) (op : Operator) (t : TIp) : Prop :=
  ∀ (pins : List (Addr × Obj)) (s : Shared) (σ : St) (H : Hp) (x y : V) (v u : Value) (Q : VK), Inv X pins σ H s → RelV x v → RelV y u → t x y H Q →
    wpAny (model X.prog X.w) X.A (inplaceOp op v u) (EP X pins σ Q) X.xe s
section
variable {X : Cx} {pos : Pos}
def gName (i : Nat) : TG := fun v σ H Q => Q (σ.set i (some v)) H
theorem pg_name {i : Nat} {x : Str} (hN : X.N.Nodup) (hi : X.N[i]? = some x) (hx : Loc X.env.scope x) (hf : X.fn x = true ∨ X.env.scope.names.lookup x = some .local := by first | exact .inl rfl | exact .inr rfl | assumption) : PG X (.Name x pos) (gName i) := by
  intro pins s σ H v u Q I r h
  exact wpAny_assign_Name (store_ok I hN hi hx r (fun s' I' => ⟨_, H, I', h⟩) hf)
def gNil : TGs := fun vs σ H Q => vs = [] ∧ Q σ H
def gCons (t : TG) (u : TGs) : TGs := fun vs σ H Q => ∃ v r, vs = v :: r ∧ t v σ H fun σ' H' => u r σ' H' Q
theorem pgs_nil : PGs X [] gNil := by
  intro pins s σ H vs us Q I r h
  obtain ⟨e, h⟩ := h
  subst e
  cases r
  exact assignInOrder_nil ⟨σ, H, I, h⟩
theorem pgs_cons {e : Expr} {es : List Expr} {t : TG} {u : TGs} (h1 : PG X e t) (h2 : PGs X es u)
    (hs : (assignEach (e :: es) X.env).map (·.2) = assign e X.env :: (assignEach es X.env).map (·.2) := by rfl) : PGs X (e :: es) (gCons t u) := by
  intro pins s σ H vs us Q I r h
  obtain ⟨v, vr, e1, h⟩ := h
  subst e1
  cases r with
  | cons r rr =>
    rw [hs]
    refine assignInOrder_cons (thn (h1 pins s σ H _ _ _ I r h) fun _ s1 ⟨σ1, H1, I1, q1⟩ => ?_)
    exact h2 pins s1 σ1 H1 _ _ Q I1 rr q1
def gTup (K : PySem.W.Frag) (n : Nat) (t : TGs) : TG := fun v σ H Q => ∃ a xs, v = .ref a ∧ SqT K H a xs ∧ xs.length = n ∧ t xs σ H Q
theorem pg_tup {es : List Expr} {k : Nat} {t : TGs} {n : Nat} (hc : X.calm = true) (h : PGs X es t)
    (hn : (assignEach es X.env).length = n := by rfl) (hst : (assignEach es X.env).findIdx? (·.1) = none := by rfl) : PG X (.Tuple es k pos) (gTup X.K n t) := by
  intro pins s σ H v u Q I r hw
  obtain ⟨a, xs, e1, hq, hl, hw⟩ := hw
  subst e1
  cases r
  obtain ⟨its, rv, ht, hz⟩ := I.tuple hq
  refine assign_Tuple_tuple (I.ok.hd hc) ht (by simp [hn, ← hl, rv.length]) hst fun h' hx => ?_
  have I1 : Inv X pins σ H { s with heap := h' } := I.kept (t' := s.toks) fun b o e => hx b o (Nat.ne_of_lt (Heap.lt_size e)) e
  exact h pins _ σ H xs _ Q I1 (by simpa using rv) hw
def gSub (to ti : TE) (t : TSet) : TG := fun v σ H Q => to σ H fun o H1 => ti σ H1 fun i H2 => t o i v H2 fun H3 => Q σ H3
theorem pg_sub {o i : Expr} {to ti : TE} {t : TSet} (ho : PE X o to) (hi : PE X i ti) (hs : PSet X t)
    (ha : ∀ v, assign (.Subscript o i pos) X.env v = (do
      let ov ← holding [v] (eval o X.env)
      let iv ← holding [v, ov] (eval i X.env)
      standAt pos
      holding [v, ov, iv] (setItem ov iv v)
      release [v, ov, iv] []) := by intro _; rfl) : PG X (.Subscript o i pos) (gSub to ti t) := by
  intro pins s σ H v u Q I r h
  rw [ha]
  refine wpAny_bind (wpAny_holding (thn (ho pins s σ H _ I h) fun ov s1 ⟨x, H1, I1, r1, q1⟩ => ?_))
  refine wpAny_bind (wpAny_holding (thn (hi pins s1 σ H1 _ I1 q1) fun iv s2 ⟨y, H2, I2, r2, q2⟩ => ?_))
  refine wpAny_bind (wpAny_standAt (wpAny_bind (wpAny_holding (thn (hs pins s2 σ H2 x y v ov iv u _ I2 r1 r2 r q2) fun _ s3 ⟨H3, I3, q3⟩ => ?_))))
  exact wpAny_release ⟨σ, H3, I3, q3⟩
def tAsg (te : TE) (g : TG) : TS := fun D σ H => te σ H fun x H1 => g x σ H1 D.nx
theorem ps_asg {tg e : Expr} {te : TE} {g : TG} (he : PE X e te) (hg : PG X tg g) (hs : swapsWithSole [tg] e pos.line X.env = pure false := by rfl) (hw : swappedStores [tg] e X.env = pure none := by rfl)
    (h1 : (assignEach [tg] X.env).map (·.2) = [assign tg X.env] := by rfl) : PS X (.Assign [tg] e pos) (tAsg te g) := by
  intro pins s σ H D I h
  refine wpAny_Assign_stores (thn (he pins s σ H _ I h) fun v s1 ⟨x, H1, I1, r1, q1⟩ => ?_) hs hw
  rw [h1]
  exact thn (hg pins s1 σ H1 x v _ I1 r1 q1) fun _ s2 q => q
theorem ps_set {i : Nat} {x : Str} {e : Expr} {te : TE} {pos' : Pos} (hN : X.N.Nodup) (hi : X.N[i]? = some x) (hx : Loc X.env.scope x) (he : PE X e te) (hs : swapsWith e (some (.Name x pos')) pos.line X.env = pure false := by rfl) (hf : X.fn x = true ∨ X.env.scope.names.lookup x = some .local := by first | exact .inl rfl | exact .inr rfl | assumption) :
    PS X (.Assign [.Name x pos'] e pos) (tAsg te (gName i)) := by
  intro pins s σ H D I h
  refine wpAny_Assign_Name (thn (he pins s σ H _ I h) fun v s1 ⟨y, H1, I1, r1, q1⟩ => ?_) hs
  exact store_ok I1 hN hi hx r1 (fun s2 I2 => ⟨_, H1, I2, q1⟩) hf
def tPar (i j : Nat) (ta : TA) : TS := fun D σ H => ta σ H fun vs H1 => ∃ v w, vs = [v, w] ∧ D.nx ((σ.set i (some v)).set j (some w)) H1
def tAug (i : Nat) (te : TE) (ti : TIp) : TS := fun D σ H => ∃ x, σ[i]? = some (some x) ∧ te σ H fun y H1 => ti x y H1 fun z H2 => D.nx (σ.set i (some z)) H2
def tAugS (to ti te : TE) (tget : V → V → Hp → VK → Prop) (tip : TIp) (tset : TSet) : TS := fun D σ H => to σ H fun o H1 => ti σ H1 fun i H2 => tget o i H2 fun x H3 => te σ H3 fun y H4 => tip x y H4 fun z H5 => tset o i z H5 fun H6 => D.nx σ H6
def PGet (X : Cx) (t : V → V → Hp → VK → Prop) : Prop :=
  ∀ (pins : List (Addr × Obj)) (s : Shared) (σ : St) (H : Hp) (o i : V) (ov iv : Value) (Q : VK), Inv X pins σ H s → RelV o ov → RelV i iv → t o i H Q →
    wpAny (model X.prog X.w) X.A (getItem ov iv) (EP X pins σ Q) X.xe s
def ipI (f : Int → Int → Int) : TIp := fun x y H Q => ∃ i j, x = .int i ∧ y = .int j ∧ Q (.int (f i j)) H
end

/-! ### while -/
section
variable {X : Cx} {pos : Pos}
def tWhile (c : TT) (tb : TS) : TS := fun D σ H => ∃ W : Nat → St → Hp → Prop, (∃ m, W m σ H) ∧ ∀ m σ H, W m σ H →
  c σ H fun b H1 => if b = true then ∃ N : St → Hp → Prop, (∀ σ' H', N σ' H' → ∃ m', m' < m ∧ W m' σ' H') ∧ tb { D with nx := N, ct := N, bk := D.nx } σ H1 else D.nx σ H1
end

/-! ### what a loop or a comprehension walks -/
structure It where
  go : Nat → Hp → Prop
  yld : Nat → Hp → V → Hp → Prop
  stop : Nat → Hp → Prop
def FpOk (X : Cx) (pins : List (Addr × Obj)) (H : Hp) (b : Addr) : Prop :=
  H b = none ∧ b ≠ X.env.locals ∧ b ∉ X.fs ∧ (b ∈ X.ex ∨ X.s₀.heap.objs.size ≤ b) ∧ (∀ x c, X.env.cells.lookup x = some c → c ≠ b) ∧ ∀ p ∈ X.pn ++ pins, p.1 ≠ b
theorem Inv.fpOk {X : Cx} {pins : List (Addr × Obj)} {σ : St} {H H' : Hp} {s : Shared} {b : Addr} (I : Inv X pins σ H s) (hb : s.heap.objs.size ≤ b) (hn : H' b = none) : FpOk X pins H' b := by
  refine ⟨hn, Nat.ne_of_gt (Nat.lt_of_lt_of_le I.lt hb), I.nofs hb, .inr (Nat.le_trans I.sz hb), fun x c e z => ?_, fun p hp z => ?_⟩
  · obtain ⟨v, q⟩ := I.cell x c e
    exact absurd (Nat.lt_of_lt_of_le q.lt (by rw [z]; exact hb)) (Nat.lt_irrefl _)
  · exact absurd (Nat.lt_of_lt_of_le (Heap.lt_size (I.pin p hp).1) (by rw [z]; exact hb)) (Nat.lt_irrefl _)
structure Turn (P : Program) (w : World) (K : PySem.W.Frag) (tg : Expr) (J : It) (fp : List Addr) (it : Addr) (tn : Nat → Heap → Prop) : Prop where
  mem : it ∈ fp
  obj : ∀ i h, tn i h → ∀ b ∈ fp, ∃ o, h.get? b = some o ∧ ∀ v, o.data ≠ .cell v
  keep : ∀ i h h', tn i h → (∀ b ∈ fp, ∀ o, h.get? b = some o → h'.get? b = some o) → tn i h'
  item : ∀ (X : Cx), X.prog = P → X.w = w → X.K = K → X.calm = true → ∀ (i : Nat) (pins : List (Addr × Obj)) (s : Shared) (σ : St) (H : Hp) (E : Value → Shared → Prop), Inv X pins σ H s → (∀ b ∈ fp, FpOk X pins H b) → tn i s.heap → J.go i H →
    wpAny (model P w) X.A (pyNext (.ref it)) (fun r s1 => ∃ u, r = some u ∧
      wpAny (model P w) X.A (letOwnedTupleGo tg (.ref it) u) (fun _ s2 => ∃ x H', Inv X pins σ H' s2 ∧ RelV x u ∧ J.yld i H x H' ∧ tn (i + 1) s2.heap ∧ ∀ b ∈ fp, H' b = none) E s1) E s
  done : ∀ (X : Cx), X.prog = P → X.w = w → X.K = K → X.calm = true → ∀ (i : Nat) (pins : List (Addr × Obj)) (s : Shared) (σ : St) (H : Hp) (E : Value → Shared → Prop), Inv X pins σ H s → (∀ b ∈ fp, FpOk X pins H b) → tn i s.heap → J.stop i H →
    wpAny (model P w) X.A (pyNext (.ref it)) (fun r s1 => r = none ∧ Inv X pins σ H s1) E s
  self : ∀ (A : Around) (i : Nat) (s : Shared) (Q : Value → Shared → Prop) (E : Value → Shared → Prop), tn i s.heap → Q (.ref it) s → wpAny (model P w) A (pyIter (.ref it)) Q E s
abbrev TI := St → Hp → (It → Hp → Prop) → Prop
def PIE (X : Cx) (pins : List (Addr × Obj)) (σ : St) (tg : Expr) (R : It → Hp → Prop) (itv : Value) (s2 : Shared) : Prop :=
  ∃ (it : Addr) (fp : List Addr) (tn : Nat → Heap → Prop) (J : It) (H' : Hp), itv = .ref it ∧ Inv X pins σ H' s2 ∧ Turn X.prog X.w X.K tg J fp it tn ∧ tn 0 s2.heap ∧ (∀ b ∈ fp, FpOk X pins H' b) ∧ R J H'
def PI (X : Cx) (tg iter : Expr) (wi : TI) : Prop :=
  ∀ (pins : List (Addr × Obj)) (s : Shared) (σ : St) (H : Hp) (R : It → Hp → Prop), Inv X pins σ H s → wi σ H R →
    wpAny (model X.prog X.w) X.A (eval iter X.env) (fun v s1 => wpAny (model X.prog X.w) X.A (pyIter v) (PIE X pins σ tg R) X.xe s1) X.xe s

theorem go_of {M : Model} {A : Around} {E : Value → Shared → Prop} {s : Shared} {tg : Expr} {it : Addr} {u : Value} {o : Obj} {n : String} {vs : Array Value} {Q : Unit → Shared → Prop} (ho : s.heap.get? it = some o) (hc : o.cls = .type n) (hd : o.data = .fields vs)
    (hn : ["enumerate", "zip", "dict_itemiterator", "dict_reverseitemiterator", "odict_iterator", "itertools.zip_longest", "itertools.pairwise"].contains n = false) (hQ : Q () s) : wpAny M A (letOwnedTupleGo tg (.ref it) u) Q E s := by
  unfold letOwnedTupleGo
  cases tg <;> first
    | exact wpAny_pure hQ
    | (cases u <;> first
        | exact wpAny_pure hQ
        | (refine wpAny_bind (wpAny_load ho ?_)
           rw [hc, hd]
           show wpAny M A (if (["enumerate", "zip", "dict_itemiterator", "dict_reverseitemiterator", "odict_iterator", "itertools.zip_longest", "itertools.pairwise"].contains n && vs[0]? == some (rawInt _)) = true then _ else _) Q E s
           rw [if_neg (by intro h; rw [hn, Bool.false_and] at h; cases h)]
           exact wpAny_pure hQ))

def Itl (K : PySem.W.Frag) (a : Addr) : It :=
  ⟨fun i H => ∃ xs x, SqL K H a xs ∧ xs[i]? = some x, fun i H x H' => H' = H ∧ ∀ xs, SqL K H a xs → xs[i]? = some x, fun i H => ∃ xs, SqL K H a xs ∧ xs.length ≤ i⟩
def Itt (K : PySem.W.Frag) (a : Addr) : It :=
  ⟨fun i H => ∃ xs x, SqT K H a xs ∧ xs[i]? = some x, fun i H x H' => H' = H ∧ ∀ xs, SqT K H a xs → xs[i]? = some x, fun i H => ∃ xs, SqT K H a xs ∧ xs.length ≤ i⟩
def Itr (lo : Int) (n : Nat) : It := ⟨fun i _ => i < n, fun i H x H' => H' = H ∧ x = .int (lo + i), fun i _ => n ≤ i⟩
theorem turn_list {P : Program} {w : World} {K : PySem.W.Frag} {tg : Expr} (a it : Addr) : Turn P w K tg (Itl K a) [it] it (fun i h => h.IsListIter it a i) where
  mem := by simp
  obj := fun i h st b hb => by
    have e : b = it := by simpa using hb
    subst e
    obtain ⟨o, e, c, d⟩ := st
    exact ⟨o, e, fun v z => by rw [d] at z; cases z⟩
  keep := fun i h h' st k => st.at fun o e => k it (by simp) o e
  item := by
    intro X hP hw hK hc i pins s σ H E I hf st hg
    subst hP hw hK
    obtain ⟨xs, x, hq, hx⟩ := hg
    obtain ⟨its, rv, p, hz⟩ := I.list hq
    obtain ⟨u, hu, ru⟩ := rv.get hx
    obtain ⟨f0, f1, f2, f3, f4, f5⟩ := hf it (by simp)
    refine wpAny_pyNext_list_item st p.isList (x := u) (by simpa using hu) fun h' st' sb => ?_
    have I1 : Inv X pins σ H { s with heap := h' } := I.turned (t' := s.toks) (fun b o hb e => (sb.2 b hb).trans e) f0 f1 f3 f4 f5
    obtain ⟨o, e, c, d⟩ := id st'
    exact ⟨u, rfl, go_of (s := { s with heap := h' }) e c d (by decide) ⟨x, H, I1, ru, ⟨rfl, fun ys hy => by rw [I.list_inj hy hq]; exact hx⟩, st', fun b hb => (hf b hb).1⟩⟩
  done := by
    intro X hP hw hK hc i pins s σ H E I hf st hg
    subst hP hw hK
    obtain ⟨xs, hq, hx⟩ := hg
    obtain ⟨its, rv, p, hz⟩ := I.list hq
    obtain ⟨f0, f1, f2, f3, f4, f5⟩ := hf it (by simp)
    have hl := rv.length
    exact wpAny_pyNext_list_end (I.ok.hd hc) st p.isList (by simp; omega) fun h' eb => ⟨rfl, I.turned (t' := s.toks) (fun b o hb e => eb b o hb e) f0 f1 f3 f4 f5⟩
  self := fun _ _ _ _ _ st h => wpAny_pyIter_listiter st h
theorem turn_range {P : Program} {w : World} {K : PySem.W.Frag} {tg : Expr} (it : Addr) (lo : Int) (n : Nat) : Turn P w K tg (Itr lo n) [it] it (fun i h => IsRangeIter h it (lo + (i : Nat) * 1) ((n : Int) - (i : Nat)) 1) where
  mem := by simp
  obj := fun i h st b hb => by
    have e : b = it := by simpa using hb
    subst e
    exact ⟨_, st, fun v z => by
      have z' : Data.fields _ = Data.cell v := z
      cases z'⟩
  keep := fun i h h' st k => k it (by simp) _ st
  item := by
    intro X hP hw hK hc i pins s σ H E I hf st hg
    subst hP hw hK
    obtain ⟨f0, f1, f2, f3, f4, f5⟩ := hf it (by simp)
    have W := Walks.range (prog := X.prog) (w := X.w) (I.ok.hd hc) it lo 1 n
    refine W.item i s _ _ hg st fun v h' tk hv st' kk => ?_
    obtain ⟨t, rfl⟩ := hv
    have I1 : Inv X pins σ H { s with heap := h', toks := tk } := I.turned (fun b o hb e => kk b o (by simpa using hb) e) f0 f1 f3 f4 f5
    refine ⟨_, rfl, go_of (s := { s with heap := h', toks := tk }) (n := "range_iterator") st' rfl rfl (by decide) ⟨.int (lo + i), H, I1, ⟨t, ?_⟩, ⟨rfl, rfl⟩, st', fun b hb => (hf b hb).1⟩⟩
    rw [Int.mul_one]
  done := by
    intro X hP hw hK hc i pins s σ H E I hf st hg
    subst hP hw hK
    obtain ⟨f0, f1, f2, f3, f4, f5⟩ := hf it (by simp)
    exact wpAny_pyNext_range_end (I.ok.hd hc) st (by have : n ≤ i := hg; omega) fun h' eb => ⟨rfl, I.turned (t' := s.toks) (fun b o hb e => eb b o hb e) f0 f1 f3 f4 f5⟩
  self := fun _ _ _ _ _ st h => wpAny_pyIter_rangeiter st h
end L2

namespace L2
open PySem PySem.Spec PyProof.Rows
section
variable {X : Cx} {tg : Expr}
def iList (K : PySem.W.Frag) (tl : TE) : TI := fun σ H R => tl σ H fun x H1 => ∃ a, x = .ref a ∧ (∃ xs, SqL K H1 a xs) ∧ R (Itl K a) H1
def iTup (K : PySem.W.Frag) (tl : TE) : TI := fun σ H R => tl σ H fun x H1 => ∃ a, x = .ref a ∧ (∃ xs, SqT K H1 a xs) ∧ R (Itt K a) H1
theorem pi_list {l : Expr} {tl : TE} (hl : PE X l tl) : PI X tg l (iList X.K tl) := by
  intro pins s σ H R I h
  refine thn (hl pins s σ H _ I h) fun v s1 ⟨x, H1, I1, r1, q1⟩ => ?_
  obtain ⟨a, e, ⟨xs, hq⟩, q⟩ := q1
  subst e
  cases r1
  obtain ⟨its, rv, p, hz⟩ := I1.list hq
  refine wpAny_pyIter_list p.isList ?_
  refine ⟨s1.heap.objs.size, [s1.heap.objs.size], _, _, H1, rfl, I1.kept (t' := s1.toks) fun b o e => Heap.get?_push_of_some _ e, turn_list a _, ⟨_, Heap.get?_push_size _ rfl, rfl, rfl⟩, fun b hb => ?_, q⟩
  have e : b = s1.heap.objs.size := by simpa using hb
  subst e
  exact I1.fpOk (Nat.le_refl _) (I1.hok.fresh (Nat.le_refl _))
theorem range_it {pins : List (Addr × Obj)} {σ : St} {H : Hp} {s : Shared} {R : It → Hp → Prop} {E : Value → Shared → Prop} {lo hi : Int} {t u v : Tok} {tk : Nat} (I : Inv X pins σ H s) (h1 : -(2 ^ 62) ≤ lo) (h2 : lo < 2 ^ 62) (h3 : -(2 ^ 62) ≤ hi) (h4 : hi < 2 ^ 62)
    (q : R (Itr lo (hi - lo).toNat) H) : wpAny (model X.prog X.w) X.A (pyIter (.ref s.heap.objs.size)) (PIE X pins σ tg R) E { s with heap := s.heap.push { cls := .type "range", data := .fields #[.int lo t, .int hi u, .int 1 v] }, toks := tk } := by
  refine wpAny_pyIter_range (IsRange.new ..) (small_one h1 h2 h3 h4) ?_
  have I1 : Inv X pins σ H { s with heap := s.heap.push { cls := .type "range", data := .fields #[.int lo t, .int hi u, .int 1 v] }, toks := tk } := I.kept fun b o e => Heap.get?_push_of_some _ e
  refine ⟨(s.heap.push { cls := .type "range", data := .fields #[.int lo t, .int hi u, .int 1 v] }).objs.size, [(s.heap.push { cls := .type "range", data := .fields #[.int lo t, .int hi u, .int 1 v] }).objs.size], _, _, H, rfl,
    I1.kept (t' := tk) fun b o e => Heap.get?_push_of_some _ e, turn_range _ lo (hi - lo).toNat, ?_, fun b hb => ?_, q⟩
  · have e1 : lo + ((0 : Nat) : Int) * 1 = lo := by simp
    have e2 : (((hi - lo).toNat : Nat) : Int) - ((0 : Nat) : Int) = Builtin.Range.rangeSize lo hi 1 := by rw [rangeSize_one]; split <;> omega
    show IsRangeIter _ _ (lo + ((0 : Nat) : Int) * 1) ((((hi - lo).toNat : Nat) : Int) - ((0 : Nat) : Int)) 1
    rw [e1, e2]
    exact Heap.get?_push_size _ rfl
  · have e : b = (s.heap.push { cls := .type "range", data := .fields #[.int lo t, .int hi u, .int 1 v] }).objs.size := by simpa using hb
    subst e
    exact I1.fpOk (Nat.le_refl _) (I1.hok.fresh (Nat.le_refl _))
def iRng1 (ta : TA) : TI := fun σ H R => ta σ H fun vs H1 => ∃ j : Int, vs = [.int j] ∧ -(2 ^ 62) ≤ j ∧ j < 2 ^ 62 ∧ R (Itr 0 j.toNat) H1
def iRng2 (ta : TA) : TI := fun σ H R => ta σ H fun vs H1 => ∃ i j : Int, vs = [.int i, .int j] ∧ (-(2 ^ 62) ≤ i ∧ i < 2 ^ 62 ∧ -(2 ^ 62) ≤ j ∧ j < 2 ^ 62) ∧ R (Itr i (j - i).toNat) H1
theorem pi_range1 {a : Expr} {ta : TA} {p pos : Pos} (hg : Gl X "range") (hm : X.mg "range" = none) (ha : PA X [a] ta) (hs : starEach [a] X.env = [(false, eval a X.env)] := by rfl) : PI X tg (.Call (.Name "range" p) [a] [] pos) (iRng1 ta) := by
  intro pins s σ H R I h
  refine Call_ (ld_blt I hg hm boot_range (PyProof.Rows.callWith_type1 (thn (ha pos pins s σ H _ I h) fun us s1 ⟨vs, H1, I1, r1, q1⟩ => ?_) hs rfl))
  obtain ⟨j, e, q1, q2, q⟩ := q1
  subst e
  cases r1 with
  | cons r rr =>
    cases rr
    obtain ⟨t, rfl⟩ := r
    exact call_range_1 (range_it I1 (by omega) (by omega) q1 q2 (by simpa using q))
/-! ### for -/
def tFor (wi : TI) (g : TG) (tb : TS) : TS := fun D σ H => wi σ H fun J H1 => ∃ W : Nat → Nat → St → Hp → Prop, (∃ m, W 0 m σ H1) ∧ ∀ i m σ H, W i m σ H →
  (J.stop i H ∧ D.nx σ H) ∨ (J.go i H ∧ ∃ N : St → Hp → Prop, (∀ σ' H', N σ' H' → ∃ m', m' < m ∧ W (i + 1) m' σ' H') ∧ ∀ x H', J.yld i H x H' → g x σ H' fun σ2 H2 => tb { D with nx := N, ct := N, bk := D.nx } σ2 H2)
def pinsAt (fp : List Addr) (h : Heap) : List (Addr × Obj) := fp.filterMap fun b => (h.get? b).map fun o => (b, o)
theorem mem_pinsAt {fp : List Addr} {h : Heap} {b : Addr} {o : Obj} (hb : b ∈ fp) (e : h.get? b = some o) : (b, o) ∈ pinsAt fp h := List.mem_filterMap.mpr ⟨b, hb, by rw [e]; rfl⟩
theorem of_pinsAt {fp : List Addr} {h : Heap} {p : Addr × Obj} (hp : p ∈ pinsAt fp h) : p.1 ∈ fp ∧ h.get? p.1 = some p.2 := by
  obtain ⟨b, hb, e⟩ := List.mem_filterMap.mp hp
  cases q : h.get? b with
  | none => rw [q] at e; cases e
  | some o =>
    rw [q] at e
    have e' : (b, o) = p := Option.some.inj e
    subst e'
    exact ⟨hb, q⟩
theorem Inv.pinned {pins : List (Addr × Obj)} {σ : St} {H : Hp} {s : Shared} {fp : List Addr} (I : Inv X pins σ H s) (hf : ∀ b ∈ fp, FpOk X pins H b) (ho : ∀ b ∈ fp, ∃ o, s.heap.get? b = some o ∧ ∀ v, o.data ≠ .cell v) : Inv X (pins ++ pinsAt fp s.heap) σ H s :=
  I.pins_of fun p hp => (List.mem_append.mp hp).elim (fun z => I.pin p (List.mem_append_right _ z)) fun z => by
    obtain ⟨hb, e⟩ := of_pinsAt z
    obtain ⟨f0, f1, f2, _⟩ := hf p.1 hb
    obtain ⟨o, e', d⟩ := ho p.1 hb
    rw [e] at e'; cases e'
    exact ⟨e, f0, f1, f2, d⟩
theorem Inv.unpinned {pins pl : List (Addr × Obj)} {σ : St} {H : Hp} {s : Shared} (I : Inv X (pins ++ pl) σ H s) : Inv X pins σ H s := I.pins_of fun p hp => I.pin p (List.mem_append_right _ (List.mem_append_left _ hp))
theorem ps_for {iter : Expr} {body : List Stmt} {wi : TI} {g : TG} {tb : TS} {pos : Pos} (hp : PassesOwn (model X.prog X.w) X.A X.env X.xe) (hc : X.calm = true) (hi : PI X tg iter wi) (hg : PG X tg g) (hb : PSs X body tb)
    (hs : ∀ x, foldedSetIterable iter X.env x = pure x := by intro _; rfl) : PS X (.For tg iter body [] pos) (tFor wi g tb) := by
  intro pins s σ H D I h
  refine wpAny_For (thn (hi pins s σ H _ I h) fun v s1 h1 => thn h1 fun itv s2 h2 => ?_) hs
  obtain ⟨it, fp, tn, J, H2, e, I2, T, st2, f2, W, ⟨m0, w0⟩, turn⟩ := h2
  subst e
  -- what stays true of the iterator's objects through the loop
  have stat : ∀ {H' : Hp}, (∀ b ∈ fp, H' b = none) → ∀ b ∈ fp, FpOk X pins H' b := fun hn b hb => ⟨hn b hb, (f2 b hb).2⟩
  refine codeAny_forLoop_any (fun n s' => ∃ i σ' H', Inv X pins σ' H' s' ∧ tn i s'.heap ∧ (∀ b ∈ fp, H' b = none) ∧ W i n σ' H') ?_ m0 ⟨0, σ, H2, I2, st2, fun b hb => (f2 b hb).1, w0⟩
  rintro n s3 ⟨i, σ3, H3, I3, st3, fr3, w3⟩
  rcases turn i n σ3 H3 w3 with ⟨stop, qn⟩ | ⟨go, N, hN, step⟩
  · refine wpAny_passesOwn hp (thn (T.done X rfl rfl rfl hc i pins s3 σ3 H3 X.xe I3 (stat fr3) st3 stop) fun r s4 ⟨hr, I4⟩ => ?_)
    subst hr
    exact wpAny_execs_nil ⟨σ3, H3, I4, qn⟩
  · refine wpAny_passesOwn hp (thn (T.item X rfl rfl rfl hc i pins s3 σ3 H3 X.xe I3 (stat fr3) st3 go) fun r s4 ⟨u, hr, h4⟩ => ?_)
    subst hr
    refine wpAny_passesOwn hp (thn h4 fun _ s5 ⟨x, H5, I5, r5, y5, st5, fr5⟩ => ?_)
    have I5' := I5.pinned (stat fr5) (T.obj _ _ st5)
    refine wpAny_passesOwn hp (thn (hg _ s5 σ3 H5 x u _ I5' r5 (step x H5 y5)) fun _ s6 ⟨σ6, H6, I6, q6⟩ => ?_)
    refine wpAny_passesOwn hp (thn (hb _ s6 σ6 H6 _ I6 q6) fun f s7 q7 => ?_)
    have again : ∀ {σ7 : St} {H7 : Hp}, Inv X (pins ++ pinsAt fp s5.heap) σ7 H7 s7 → N σ7 H7 → ∃ m, m < n ∧ ∃ i σ' H', Inv X pins σ' H' s7 ∧ tn i s7.heap ∧ (∀ b ∈ fp, H' b = none) ∧ W i m σ' H' := fun {σ7 H7} I7 n7 => by
      obtain ⟨m', hm, w7⟩ := hN σ7 H7 n7
      refine ⟨m', hm, i + 1, σ7, H7, I7.unpinned, T.keep _ _ _ st5 fun b hb o e => (I7.pin (b, o) (List.mem_append_right _ (List.mem_append_right _ (mem_pinsAt hb e)))).1, fun b hb => ?_, w7⟩
      obtain ⟨o, e, d⟩ := T.obj _ _ st5 b hb
      exact (I7.pin (b, o) (List.mem_append_right _ (List.mem_append_right _ (mem_pinsAt hb e)))).2.1
    cases f with
    | next => obtain ⟨σ7, H7, I7, n7⟩ := q7; exact again I7 n7
    | cont => obtain ⟨σ7, H7, I7, n7⟩ := q7; exact again I7 n7
    | brk => obtain ⟨σ7, H7, I7, q7⟩ := q7; exact ⟨σ7, H7, I7.unpinned, q7⟩
    | ret v => obtain ⟨x7, σ7, H7, I7, r7, q7⟩ := q7; exact ⟨x7, σ7, H7, I7.unpinned, r7, q7⟩
end

/-! ### the forms one uses -/
theorem for_list {K : PySem.W.Frag} {a : Addr} {xs : List V} {g : TG} {tb : TS} {D : Ends} {σ : St} {H : Hp} (Pv : Nat → St → Hp → Prop) (h0 : Pv 0 σ H) (hl : ∀ i σ H, i ≤ xs.length → Pv i σ H → SqL K H a xs)
    (hs : ∀ i x σ H, xs[i]? = some x → Pv i σ H → g x σ H fun σ2 H2 => tb { D with nx := Pv (i + 1), ct := Pv (i + 1), bk := D.nx } σ2 H2) (hd : ∀ σ H, Pv xs.length σ H → D.nx σ H) :
    ∃ W : Nat → Nat → St → Hp → Prop, (∃ m, W 0 m σ H) ∧ ∀ i m σ H, W i m σ H →
      ((Itl K a).stop i H ∧ D.nx σ H) ∨ ((Itl K a).go i H ∧ ∃ N : St → Hp → Prop, (∀ σ' H', N σ' H' → ∃ m', m' < m ∧ W (i + 1) m' σ' H') ∧ ∀ x H', (Itl K a).yld i H x H' → g x σ H' fun σ2 H2 => tb { D with nx := N, ct := N, bk := D.nx } σ2 H2) := by
  refine ⟨fun i m σ H => m = xs.length - i ∧ i ≤ xs.length ∧ Pv i σ H, ⟨xs.length, by simp, Nat.zero_le _, h0⟩, ?_⟩
  rintro i m σ H ⟨rfl, hi, p⟩
  have q := hl i σ H hi p
  by_cases hlt : i < xs.length
  · refine .inr ⟨⟨xs, xs[i], q, by simp [hlt]⟩, Pv (i + 1), fun σ' H' p' => ⟨xs.length - (i + 1), by omega, rfl, hlt, p'⟩, fun x H' y => ?_⟩
    obtain ⟨e, y⟩ := y
    subst e
    exact hs i x σ _ (y xs q) p
  · have e : i = xs.length := by omega
    subst e
    exact .inl ⟨⟨xs, q, Nat.le_refl _⟩, hd σ H p⟩
theorem for_range {lo : Int} {n : Nat} {g : TG} {tb : TS} {D : Ends} {σ : St} {H : Hp} (Pv : Nat → St → Hp → Prop) (h0 : Pv 0 σ H)
    (hs : ∀ i σ H, i < n → Pv i σ H → g (.int (lo + i)) σ H fun σ2 H2 => tb { D with nx := Pv (i + 1), ct := Pv (i + 1), bk := D.nx } σ2 H2) (hd : ∀ σ H, Pv n σ H → D.nx σ H) :
    ∃ W : Nat → Nat → St → Hp → Prop, (∃ m, W 0 m σ H) ∧ ∀ i m σ H, W i m σ H →
      ((Itr lo n).stop i H ∧ D.nx σ H) ∨ ((Itr lo n).go i H ∧ ∃ N : St → Hp → Prop, (∀ σ' H', N σ' H' → ∃ m', m' < m ∧ W (i + 1) m' σ' H') ∧ ∀ x H', (Itr lo n).yld i H x H' → g x σ H' fun σ2 H2 => tb { D with nx := N, ct := N, bk := D.nx } σ2 H2) := by
  refine ⟨fun i m σ H => m = n - i ∧ i ≤ n ∧ Pv i σ H, ⟨n, by simp, Nat.zero_le _, h0⟩, ?_⟩
  rintro i m σ H ⟨rfl, hi, p⟩
  by_cases hlt : i < n
  · refine .inr ⟨hlt, Pv (i + 1), fun σ' H' p' => ⟨n - (i + 1), by omega, rfl, hlt, p'⟩, fun x H' y => ?_⟩
    obtain ⟨e, y⟩ := y
    subst e y
    exact hs i σ _ hlt p
  · have e : i = n := by omega
    subst e
    exact .inl ⟨Nat.le_refl _, hd σ H p⟩
end L2

namespace L2
open PySem PySem.Spec PyProof.Rows

abbrev R2 := V → V → Hp → VK → Prop
def OpR (X : Cx) (f : Value → Value → Sem Value) (r : R2) : Prop :=
  ∀ (pins : List (Addr × Obj)) (s : Shared) (σ : St) (H : Hp) (x y : V) (v u : Value) (Q : VK), Inv X pins σ H s → RelV x v → RelV y u → r x y H Q →
    wpAny (model X.prog X.w) X.A (f v u) (EP X pins σ Q) X.xe s
def UnR (X : Cx) (f : Value → Sem Value) (r : V → Hp → VK → Prop) : Prop :=
  ∀ (pins : List (Addr × Obj)) (s : Shared) (σ : St) (H : Hp) (x : V) (v : Value) (Q : VK), Inv X pins σ H s → RelV x v → r x H Q →
    wpAny (model X.prog X.w) X.A (f v) (EP X pins σ Q) X.xe s
def CallR (X : Cx) (f : Value) (r : List V → Hp → VK → Prop) : Prop :=
  ∀ (pins : List (Addr × Obj)) (s : Shared) (σ : St) (H : Hp) (xs : List V) (us : List Value) (Q : VK), Inv X pins σ H s → Vals xs us → r xs H Q →
    wpAny (model X.prog X.w) X.A (call f us) (EP X pins σ Q) X.xe s
def TruR (X : Cx) (r : V → Hp → (Bool → Hp → Prop) → Prop) : Prop :=
  ∀ (pins : List (Addr × Obj)) (s : Shared) (σ : St) (H : Hp) (x : V) (v : Value) (Q : Bool → Hp → Prop), Inv X pins σ H s → RelV x v → r x H Q →
    wpAny (model X.prog X.w) X.A (truthy v) (TP X pins σ Q) X.xe s

def tOp (r : R2) (ta tb : TE) : TE := fun σ H Q => ta σ H fun x H1 => tb σ H1 fun y H2 => r x y H2 Q
def tUn (r : V → Hp → VK → Prop) (ta : TE) : TE := fun σ H Q => ta σ H fun x H1 => r x H1 Q
def rI (C : Int → Int → Prop) (g : Int → Int → V) : R2 := fun x y H Q => ∃ i j, x = .int i ∧ y = .int j ∧ C i j ∧ Q (g i j) H
def rI0 (g : Int → Int → V) : R2 := fun x y H Q => ∃ i j, x = .int i ∧ y = .int j ∧ Q (g i j) H
def rU (g : Int → V) : V → Hp → VK → Prop := fun x H Q => ∃ i, x = .int i ∧ Q (g i) H

section
variable {X : Cx} {a b c : Expr} {ta tb tc : TE} {pos : Pos}

theorem binT (ha : PE X a ta) (hb : PE X b tb) {pins : List (Addr × Obj)} {s : Shared} {σ : St} {H : Hp} {R : V → V → Hp → Prop} (I : Inv X pins σ H s)
    (h : ta σ H fun x H1 => tb σ H1 fun y H2 => R x y H2) {Q : Value → Shared → Prop} {f : Value → Value → Sem Value}
    (hf : ∀ v u s2 x y H2, Inv X pins σ H2 s2 → RelV x v → RelV y u → R x y H2 → wpAny (model X.prog X.w) X.A (f v u) Q X.xe s2) :
    wpAny (model X.prog X.w) X.A (eval a X.env) (fun v s₁ => wpAny (model X.prog X.w) X.A (eval b X.env) (fun u s₂ => wpAny (model X.prog X.w) X.A (f v u) Q X.xe s₂) X.xe s₁) X.xe s := by
  refine thn (ha pins s σ H _ I h) fun v s1 ⟨x, H1, I1, r1, q1⟩ => ?_
  refine thn (hb pins s1 σ H1 _ I1 q1) fun u s2 ⟨y, H2, I2, r2, q2⟩ => ?_
  exact hf v u s2 x y H2 I2 r1 r2 q2

theorem pe_op {op : Operator} {r : R2} (ho : OpR X (binaryOp op) r) (ha : PE X a ta) (hb : PE X b tb) : PE X (.BinOp a op b pos) (tOp r ta tb) := by
  intro pins s σ H Q I h
  exact wpAny_BinOp (binT ha hb I h fun v u s2 x y H2 I2 rx ry q => ho pins s2 σ H2 x y v u Q I2 rx ry q)
theorem pe_un {op : UnaryOp} {r : V → Hp → VK → Prop} (ho : UnR X (unaryOp op) r) (ha : PE X a ta) : PE X (.UnaryOp op a pos) (tUn r ta) := by
  intro pins s σ H Q I h
  exact UnaryOp_ (thn (ha pins s σ H _ I h) fun v s1 ⟨x, H1, I1, r1, q1⟩ => ho pins s1 σ H1 x v Q I1 r1 q1)
/-! ### ints -/
theorem opI {f : Value → Value → Sem Value} {C : Int → Int → Prop} {g : Int → Int → Int}
    (rule : ∀ (i j : Int) (t u : Tok) (s : Shared) (Q : Value → Shared → Prop) (E : Value → Shared → Prop), C i j → Q (.int (g i j) s.toks) { s with toks := s.toks + 1 } → wpAny (model X.prog X.w) X.A (f (.int i t) (.int j u)) Q E s) :
    OpR X f (rI C fun i j => .int (g i j)) := by
  intro pins s σ H x y v u Q I rx ry h
  obtain ⟨i, j, rfl, rfl, hc, q⟩ := h
  obtain ⟨t, rfl⟩ := rx
  obtain ⟨t', rfl⟩ := ry
  exact rule i j t t' s _ _ hc ⟨.int (g i j), H, I.tok _, ⟨_, rfl⟩, q⟩
theorem opI0 {f : Value → Value → Sem Value} {g : Int → Int → Int}
    (rule : ∀ (i j : Int) (t u : Tok) (s : Shared) (Q : Value → Shared → Prop) (E : Value → Shared → Prop), Q (.int (g i j) s.toks) { s with toks := s.toks + 1 } → wpAny (model X.prog X.w) X.A (f (.int i t) (.int j u)) Q E s) :
    OpR X f (rI0 fun i j => .int (g i j)) := by
  intro pins s σ H x y v u Q I rx ry h
  obtain ⟨i, j, rfl, rfl, q⟩ := h
  obtain ⟨t, rfl⟩ := rx
  obtain ⟨t', rfl⟩ := ry
  exact rule i j t t' s _ _ ⟨.int (g i j), H, I.tok _, ⟨_, rfl⟩, q⟩
theorem opB0 {f : Value → Value → Sem Value} {g : Int → Int → Bool}
    (rule : ∀ (i j : Int) (t u : Tok) (s : Shared) (Q : Value → Shared → Prop) (E : Value → Shared → Prop), Q (.bool (g i j)) s → wpAny (model X.prog X.w) X.A (f (.int i t) (.int j u)) Q E s) :
    OpR X f (rI0 fun i j => .bl (g i j)) := by
  intro pins s σ H x y v u Q I rx ry h
  obtain ⟨i, j, rfl, rfl, q⟩ := h
  obtain ⟨t, rfl⟩ := rx
  obtain ⟨t', rfl⟩ := ry
  exact rule i j t t' s _ _ ⟨.bl (g i j), H, I, rfl, q⟩

def CDiv (i j : Int) : Prop := 0 < j ∧ j < 1073741824
def CDivN (i j : Int) : Prop := j ≠ 0 ∧ j.natAbs < 1073741824
def CPow (i j : Int) : Prop := 0 ≤ j ∧ j ≤ 1000000 ∧ i.natAbs < 2 ^ 64
def CMul (i j : Int) : Prop := (-(2 ^ 64) < i ∧ i < 2 ^ 64) ∨ (-(2 ^ 64) < j ∧ j < 2 ^ 64)
theorem CMul.ok {i j : Int} (h : CMul i j) : IntMulOk i j := by
  rcases h with ⟨h1, h2⟩ | ⟨h1, h2⟩
  · exact .of_left (intBits_le_64 h1 h2)
  · exact .of_right (intBits_le_64 h1 h2)
theorem op_add : OpR X (binaryOp .Add) (rI0 fun i j => .int (i + j)) := opI0 fun _ _ _ _ _ _ _ q => add_int q
theorem op_sub : OpR X (binaryOp .Sub) (rI0 fun i j => .int (i - j)) := opI0 fun _ _ _ _ _ _ _ q => sub_int q
theorem op_mul : OpR X (binaryOp .Mult) (rI CMul fun i j => .int (i * j)) := opI fun _ _ _ _ _ _ _ hc q => mul_int q hc.ok
theorem op_fdiv : OpR X (binaryOp .FloorDiv) (rI CDiv fun i j => .int (i / j)) := opI fun i j _ _ _ _ _ hc q => by
  have h1 : (0 : Int) < j := hc.1
  have h2 : j < 1073741824 := hc.2
  exact floordiv_int (by omega) (by rw [Int.fdiv_eq_ediv_of_nonneg i (by omega)]; exact q) (.inl (PyProof.noPylong_small (by omega)))
theorem op_mod : OpR X (binaryOp .Mod) (rI (fun _ j => 0 < j) fun i j => .int (i % j)) := opI fun i j _ _ _ _ _ hc q => by
  have h1 : (0 : Int) < j := hc
  exact mod_int' (by omega) (by rw [Int.fmod_eq_emod_of_nonneg i (by omega)]; exact q)
theorem op_pow : OpR X (binaryOp .Pow) (rI CPow fun i j => .int (i ^ j.toNat)) := opI fun _ _ _ _ _ _ _ hc q => pow_int_small hc.1 hc.2.1 hc.2.2 q
theorem unI {f : Value → Sem Value} {g : Int → Int}
    (rule : ∀ (i : Int) (t : Tok) (s : Shared) (Q : Value → Shared → Prop) (E : Value → Shared → Prop), Q (.int (g i) s.toks) { s with toks := s.toks + 1 } → wpAny (model X.prog X.w) X.A (f (.int i t)) Q E s) :
    UnR X f (rU fun i => .int (g i)) := by
  intro pins s σ H x v Q I rx h
  obtain ⟨i, rfl, q⟩ := h
  obtain ⟨t, rfl⟩ := rx
  exact rule i t s _ _ ⟨.int (g i), H, I.tok _, ⟨_, rfl⟩, q⟩
theorem un_neg : UnR X (unaryOp .USub) (rU fun i => .int (-i)) := unI fun _ _ _ _ _ q => neg_int q
/-! ### bools among ints: n += (a < b) -/
end

/-! ### comparisons -/
def scal : V → V → Bool
  | .non, .non => true | .non, .int _ => true | .int _, .non => true | .non, .bl _ => true | .bl _, .non => true | .non, .str _ => true | .str _, .non => true
  | .int _, .int _ => true | .bl _, .bl _ => true | .str _, .str _ => true | .byt _, .byt _ => true
  | .int _, .str _ => true | .str _, .int _ => true | .bl _, .str _ => true | .str _, .bl _ => true
  | _, _ => false
def rEq : R2 := fun x y H Q => scal x y = true ∧ Q (.bl (decide (x = y))) H
def rNe : R2 := fun x y H Q => scal x y = true ∧ Q (.bl (!decide (x = y))) H

theorem dec_int {i j : Int} : decide (V.int i = V.int j) = (i == j) := by
  rw [Bool.eq_iff_iff]
  simp
theorem dec_bl {i j : Bool} : decide (V.bl i = V.bl j) = (i == j) := by
  rw [Bool.eq_iff_iff]
  simp
theorem dec_str {i j : Str} : decide (V.str i = V.str j) = (i == j) := by
  rw [Bool.eq_iff_iff]
  simp
theorem dec_byt {i j : Array UInt8} : decide (V.byt i = V.byt j) = (i.toList == j.toList) := by
  rw [Bool.eq_iff_iff]
  cases i
  cases j
  simp

section
variable {X : Cx} {a b c : Expr} {ta tb tc : TE} {pos : Pos}
theorem fin_bl {pins : List (Addr × Obj)} {σ : St} {H : Hp} {s : Shared} {Q : VK} {k k' : Bool} (I : Inv X pins σ H s) (q : Q (.bl k) H) (e : k = k') : EP X pins σ Q (.bool k') s := by
  subst e
  exact ⟨.bl k, H, I, rfl, q⟩
theorem op_eq : OpR X (compareOp .Eq) rEq := by
  intro pins s σ H x y v u Q I rx ry h
  obtain ⟨hs, q⟩ := h
  cases x with
  | non =>
    cases rx
    cases y with
    | non => cases ry; exact PySem.EqNone.eq_none_none (fin_bl I q (by simp))
    | bl j => cases ry; exact PySem.EqNone.eq_none_bool (fin_bl I q (by simp))
    | int j => obtain ⟨t', rfl⟩ := ry; exact PySem.EqNone.eq_none_int (fin_bl I q (by simp))
    | str j => obtain ⟨t', rfl⟩ := ry; exact PySem.EqNone.eq_none_str (fin_bl I q (by simp))
    | _ => exact absurd (show false = true from hs) Bool.false_ne_true
  | bl i =>
    cases rx
    cases y with
    | non => cases ry; exact PySem.EqNone.eq_bool_none (fin_bl I q (by simp))
    | bl j => cases ry; exact eq_bool (fin_bl I q dec_bl)
    | str j => obtain ⟨t', rfl⟩ := ry; exact PySem.EqMixed.eq_bool_str (fin_bl I q (by simp))
    | _ => exact absurd (show false = true from hs) Bool.false_ne_true
  | int i =>
    obtain ⟨t, rfl⟩ := rx
    cases y with
    | non => cases ry; exact PySem.EqNone.eq_int_none (fin_bl I q (by simp))
    | int j => obtain ⟨t', rfl⟩ := ry; exact eq_int (fin_bl I q dec_int)
    | str j => obtain ⟨t', rfl⟩ := ry; exact PySem.EqMixed.eq_int_str (fin_bl I q (by simp))
    | _ => exact absurd (show false = true from hs) Bool.false_ne_true
  | str i =>
    obtain ⟨t, rfl⟩ := rx
    cases y with
    | non => cases ry; exact PySem.EqNone.eq_str_none (fin_bl I q (by simp))
    | bl j => cases ry; exact PySem.EqMixed.eq_str_bool (fin_bl I q (by simp))
    | int j => obtain ⟨t', rfl⟩ := ry; exact PySem.EqMixed.eq_str_int (fin_bl I q (by simp))
    | str j => obtain ⟨t', rfl⟩ := ry; exact eq_str (fin_bl I q dec_str)
    | _ => exact absurd (show false = true from hs) Bool.false_ne_true
  | byt i =>
    obtain ⟨t, rfl⟩ := rx
    cases y with
    | byt j => obtain ⟨t', rfl⟩ := ry; exact PySem.W.eq_bytes (fin_bl I q dec_byt)
    | _ => exact absurd (show false = true from hs) Bool.false_ne_true
  | _ => cases y <;> exact absurd (show false = true from hs) Bool.false_ne_true
theorem op_ne : OpR X (compareOp .NotEq) rNe := by
  intro pins s σ H x y v u Q I rx ry h
  obtain ⟨hs, q⟩ := h
  cases x with
  | non =>
    cases rx
    cases y with
    | non => cases ry; exact PySem.EqNone.ne_none_none (fin_bl I q (by simp))
    | bl j => cases ry; exact PySem.EqNone.ne_none_bool (fin_bl I q (by simp))
    | int j => obtain ⟨t', rfl⟩ := ry; exact PySem.EqNone.ne_none_int (fin_bl I q (by simp))
    | str j => obtain ⟨t', rfl⟩ := ry; exact PySem.EqNone.ne_none_str (fin_bl I q (by simp))
    | _ => exact absurd (show false = true from hs) Bool.false_ne_true
  | bl i =>
    cases rx
    cases y with
    | non => cases ry; exact PySem.EqNone.ne_bool_none (fin_bl I q (by simp))
    | bl j => cases ry; exact ne_bool (fin_bl I q (congrArg not dec_bl))
    | str j => obtain ⟨t', rfl⟩ := ry; exact PySem.EqMixed.ne_bool_str (fin_bl I q (by simp))
    | _ => exact absurd (show false = true from hs) Bool.false_ne_true
  | int i =>
    obtain ⟨t, rfl⟩ := rx
    cases y with
    | non => cases ry; exact PySem.EqNone.ne_int_none (fin_bl I q (by simp))
    | int j => obtain ⟨t', rfl⟩ := ry; exact ne_int (fin_bl I q (congrArg not dec_int))
    | str j => obtain ⟨t', rfl⟩ := ry; exact PySem.EqMixed.ne_int_str (fin_bl I q (by simp))
    | _ => exact absurd (show false = true from hs) Bool.false_ne_true
  | str i =>
    obtain ⟨t, rfl⟩ := rx
    cases y with
    | non => cases ry; exact PySem.EqNone.ne_str_none (fin_bl I q (by simp))
    | bl j => cases ry; exact PySem.EqMixed.ne_str_bool (fin_bl I q (by simp))
    | int j => obtain ⟨t', rfl⟩ := ry; exact PySem.EqMixed.ne_str_int (fin_bl I q (by simp))
    | str j => obtain ⟨t', rfl⟩ := ry; exact ne_str (fin_bl I q (congrArg not dec_str))
    | _ => exact absurd (show false = true from hs) Bool.false_ne_true
  | byt i =>
    obtain ⟨t, rfl⟩ := rx
    cases y with
    | byt j => obtain ⟨t', rfl⟩ := ry; exact PySem.W.ne_bytes (fin_bl I q (congrArg not dec_byt))
    | _ => exact absurd (show false = true from hs) Bool.false_ne_true
  | _ => cases y <;> exact absurd (show false = true from hs) Bool.false_ne_true

theorem op_lt : OpR X (compareOp .Lt) (rI0 fun i j => .bl (decide (i < j))) := opB0 fun _ _ _ _ _ _ _ q => lt_int q
theorem op_le : OpR X (compareOp .LtE) (rI0 fun i j => .bl (decide (i ≤ j))) := opB0 fun _ _ _ _ _ _ _ q => le_int q
theorem op_gt : OpR X (compareOp .Gt) (rI0 fun i j => .bl (decide (j < i))) := opB0 fun _ _ _ _ _ _ _ q => gt_int q
theorem op_isN : OpR X (compareOp .Is) (fun x y H Q => y = .non ∧ Q (.bl (decide (x = .non))) H) := by
  intro pins s σ H x y v u Q I rx ry h
  obtain ⟨rfl, q⟩ := h
  cases ry
  refine is_none_gen (fin_bl I q ?_)
  cases x <;> first
    | (cases rx; rfl)
    | (obtain ⟨t, rfl⟩ := rx; rfl)
theorem op_notN : OpR X (compareOp .IsNot) (fun x y H Q => y = .non ∧ Q (.bl (!decide (x = .non))) H) := by
  intro pins s σ H x y v u Q I rx ry h
  obtain ⟨rfl, q⟩ := h
  cases ry
  refine isnot_none_gen (fin_bl I q ?_)
  cases x <;> first
    | (cases rx; rfl)
    | (obtain ⟨t, rfl⟩ := rx; rfl)

def isObj : HO → Bool
  | .lst _ => true
  | .ins _ _ _ => true
  | _ => false
theorem nomark (b : Expr) {op : CmpOp} (h : op ≠ .In := by decide) (h2 : op ≠ .NotIn := by decide) : behindInMarks op b = false := by
  have e1 : (op == CmpOp.In) = false := by cases op <;> first | rfl | exact absurd rfl h
  have e2 : (op == CmpOp.NotIn) = false := by cases op <;> first | rfl | exact absurd rfl h2
  cases b <;> simp [behindInMarks, e1, e2]
theorem pe_cmpR {op : CmpOp} {r : R2} (ho : OpR X (compareOp op) r) (ha : PE X a ta) (hb : PE X b tb) (hm : behindInMarks op b = false) : PE X (.Compare a [op] [b] pos) (tOp r ta tb) := by
  intro pins s σ H Q I h
  exact wpAny_Compare1 (binT ha hb I h fun v u s2 x y H2 I2 rx ry q => ho pins s2 σ H2 x y v u Q I2 rx ry q) hm
def tTest (t : TE) : TT := fun σ H Q => t σ H fun x H' => ∃ k, x = .bl k ∧ Q k H'
theorem pt_cmpR {op : CmpOp} {r : R2} (ho : OpR X (compareOp op) r) (ha : PE X a ta) (hb : PE X b tb) (hm : behindInMarks op b = false) : PT X (.Compare a [op] [b] pos) (tTest (tOp r ta tb)) := by
  intro pins s σ H Q I h
  refine wpAny_isTrue_Compare1 (thn (ha pins s σ H _ I h) fun v s1 ⟨x, H1, I1, r1, q1⟩ => thn (hb pins s1 σ H1 _ I1 q1) fun u s2 ⟨y, H2, I2, r2, q2⟩ =>
    thn (ho pins s2 σ H2 x y v u _ I2 r1 r2 q2) fun c s3 ⟨z, H3, I3, r3, k, e, q3⟩ => ?_) hm
  subst e
  cases r3
  exact wpAny_truthy_bool ⟨H3, I3, q3⟩
def tChain (r r' : R2) (ta tb tc : TE) : TE := fun σ H Q => ta σ H fun x H1 => tb σ H1 fun y H2 => r x y H2 fun z H3 => ∃ k, z = .bl k ∧
  (if k = true then tc σ H3 fun w' H4 => r' y w' H4 Q else Q (.bl false) H3)
theorem pe_chain {op op' : CmpOp} {r r' : R2} (ho : OpR X (compareOp op) r) (ho' : OpR X (compareOp op') r') (ha : PE X a ta) (hb : PE X b tb) (hc : PE X c tc)
    (hm : lastMarks [op, op'] [b, c] = false := by with_unfolding_all rfl) : PE X (.Compare a [op, op'] [b, c] pos) (tChain r r' ta tb tc) := by
  intro pins s σ H Q I h
  refine Compare_chain (thn (ha pins s σ H _ I h) fun v s1 ⟨x, H1, I1, r1, q1⟩ => chain_link (thn (hb pins s1 σ H1 _ I1 q1) fun u s2 ⟨y, H2, I2, r2, q2⟩ =>
    thn (ho pins s2 σ H2 x y v u _ I2 r1 r2 q2) fun d s3 ⟨z, H3, I3, r3, k, e, q3⟩ => ?_)) hm
  subst e
  cases r3
  refine wpAny_truthy_bool ?_
  cases k with
  | false => exact ite_ff ⟨.bl false, H3, I3, rfl, q3⟩
  | true => exact ite_tt (chain_last (thn (hc pins s3 σ H3 _ I3 q3) fun w' s4 ⟨z', H4, I4, r4, q4⟩ => ho' pins s4 σ H4 y z' u w' Q I4 r2 r4 q4))
theorem pt_chain {op op' : CmpOp} {r r' : R2} (ho : OpR X (compareOp op) r) (ho' : OpR X (compareOp op') r') (ha : PE X a ta) (hb : PE X b tb) (hc : PE X c tc)
    (hm : lastMarks [op, op'] [b, c] = false := by with_unfolding_all rfl) : PT X (.Compare a [op, op'] [b, c] pos) (tTest (tChain r r' ta tb tc)) := by
  intro pins s σ H Q I h
  refine isTrue_chain (thn (ha pins s σ H _ I h) fun v s1 ⟨x, H1, I1, r1, q1⟩ => test_link (thn (hb pins s1 σ H1 _ I1 q1) fun u s2 ⟨y, H2, I2, r2, q2⟩ =>
    thn (ho pins s2 σ H2 x y v u _ I2 r1 r2 q2) fun d s3 ⟨z, H3, I3, r3, k, e, q3⟩ => ?_)) hm
  subst e
  cases r3
  refine wpAny_truthy_bool ?_
  cases k with
  | false =>
    obtain ⟨k', e', q'⟩ := q3
    cases e'
    exact ite_ff ⟨H3, I3, q'⟩
  | true =>
    refine ite_tt (test_last (thn (hc pins s3 σ H3 _ I3 q3) fun w' s4 ⟨z', H4, I4, r4, q4⟩ => thn (ho' pins s4 σ H4 y z' u w' _ I4 r2 r4 q4) fun d' s5 ⟨z2, H5, I5, r5, k2, e2, q5⟩ => ?_))
    subst e2
    cases r5
    exact wpAny_truthy_bool ⟨H5, I5, q5⟩

/-! ### truth -/
def TruV (K : PySem.W.Frag) (x : V) (H : Hp) (k : Bool) : Prop :=
  match x with
  | .non => k = false
  | .bl b => k = b
  | .int i => k = (i != 0)
  | .str y => y.length ≤ sizeLine ∧ k = ((y.length : Int) != 0)
  | .byt y => y.size ≤ sizeLine ∧ k = ((y.size : Int) != 0)
  | .ref p => (∃ xs, SqL K H p xs ∧ k = !xs.isEmpty) ∨ (∃ xs, SqT K H p xs ∧ k = !xs.isEmpty) ∨ ∃ kvs, H p = some (.dK kvs) ∧ k = !kvs.isEmpty
  | _ => False
theorem line63 : (sizeLine : Nat) < 2 ^ 63 := by rw [sizeLine_eq]; decide
/-! ### strs and bytes -/
def PlainIxT (b : Expr) : Prop := ∀ o i, subscripted b false o i = operate [o, i] (getItem o i)
/-! ### scalar builtins, by CallR -/
theorem vals1 {x : V} {us : List Value} (r : Vals [x] us) : ∃ u, us = [u] ∧ RelV x u := by
  cases r with
  | cons r1 r2 => cases r2; exact ⟨_, rfl, r1⟩
def LenV (K : PySem.W.Frag) (x : V) (H : Hp) (n : Nat) : Prop :=
  match x with
  | .str y => y.length ≤ sizeLine ∧ n = y.length
  | .byt y => y.size ≤ sizeLine ∧ n = y.size
  | .ref p => (∃ xs, SqL K H p xs ∧ n = xs.length) ∨ ∃ xs, SqT K H p xs ∧ n = xs.length
  | _ => False
end
end L2

namespace L2
open PySem PySem.Spec PyProof.Rows

/-! ### an instance, its attributes a map -/
structure ObjM (h : Heap) (x dx C : Addr) (mA : Str → Option Value) : Prop where
  obj : h.get? x = some (PySem.W.instObj C dx)
  ns : h.Ns1 dx mA
  ne : dx ≠ x

theorem lookIn_ns {h : Heap} {dx : Addr} {mA : Str → Option Value} (n : h.Ns1 dx mA) : ∃ od, h.get? dx = some od ∧ ∀ name, PySem.W.lookIn name od = some (mA name) := by
  obtain ⟨o, es, ep, ho, hd, hk, _, hm⟩ := n
  refine ⟨o, ho, fun name => ?_⟩
  have e := hm name
  unfold nsFind findBy at e
  rw [← Array.find?_toList] at e
  unfold PySem.W.lookIn
  rw [hd]
  dsimp only
  split
  · rename_i y q
    rw [q] at e
    exact congrArg some e
  · rename_i q
    rw [q] at e
    have a : es.toList.any (·.refKey) = false := by
      rw [List.any_eq_false]
      intro y hy
      obtain ⟨z, t, hkey⟩ := hk y (Array.mem_toList_iff.mp hy)
      simp [DictEntry.refKey, hkey]
    have a' : ¬ es.toList.any (·.refKey) = true := by rw [a]; exact Bool.false_ne_true
    rw [if_neg a']
    exact congrArg some e

theorem ObjM.look {h : Heap} {x dx C : Addr} {mA : Str → Option Value} (I : ObjM h x dx C mA) : ∃ od, PySem.W.InstAt h x (PySem.W.instObj C dx) C (some od) ∧ ∀ name, PySem.W.lookIn name od = some (mA name) :=
  let ⟨od, ho, hl⟩ := lookIn_ns I.ns
  ⟨od, ⟨I.obj, rfl, rfl, ho⟩, hl⟩

section
variable {prog : Program} {w : World} {A : Around} {E : Value → Shared → Prop} {s : Shared} {K : PySem.W.Frag} {x dx C f : Addr} {mA : Str → Option Value} {name : Str} {v : Value}

theorem get_map {expr : Bool} {Q : Value → Shared → Prop} (X : K.In s.heap) (I : ObjM s.heap x dx C mA) (hg : PySem.W.plainGet K C name = true) (hh : PySem.W.hasDictIn K C = true)
    (ha : PySem.W.findIn K (.ref C) name = some none) (hv : mA name = some v) (hv' : PySem.W.handedIn v = true) (h : Q v { s with toks := s.toks + 1 }) :
    wpAny (model prog w) A (getAttr (.ref x) name expr) Q E s := by
  obtain ⟨od, J, hl⟩ := I.look
  exact PySem.W.get_value X J (PySem.W.plainGet_of hg).1 (PySem.W.findObj_own hh ha rfl (by rw [hl, hv])) hv' h

theorem get_meth {pl : Sem Bool} {Q : Value × List Value → Shared → Prop} (X : K.In s.heap) (I : ObjM s.heap x dx C mA) (hg : PySem.W.plainGet K C name = true)
    (hf : PySem.W.findIn K (.ref C) name = some (some (.ref f))) (ht : PySem.W.isFn K (.ref f) = true) (hv : mA name = none) (h : Q (.ref f, [.ref x]) s) :
    wpAny (model prog w) A (getMethod (.ref x) name pl) Q E s := by
  obtain ⟨od, J, hl⟩ := I.look
  exact PySem.W.method_fn X J (PySem.W.plainGet_of hg).1 (PySem.W.plainGet_of hg).2 hf (beq_iff_eq.mp ht) (by show (PySem.W.lookIn name od).map (·.isSome) = some false; rw [hl, hv]; rfl) h

theorem set_map {ns : List Str} {Q : Unit → Shared → Prop} (X : K.In s.heap) (I : ObjM s.heap x dx C mA)
    (hs : PySem.W.findIn K (.ref C) "__setattr__" = some (some (.builtin "object.__setattr__"))) (hp : PySem.W.plainOver K C = true) (ht : PySem.W.takerIn K C name = some none) (hh : PySem.W.hasDictIn K C = true)
    (hw : PySem.Within mA ns) (hsz : ns.length ≤ sizeLine)
    (h : ∀ h', ObjM h' x dx C (fun y => if y = name then some v else mA y) → Heap.SameBut dx s.heap h' → Q () { s with heap := h', toks := s.toks + 2 }) :
    wpAny (model prog w) A (setAttr (.ref x) name v) Q E s := by
  obtain ⟨od, J, hl⟩ := I.look
  refine PySem.W.set_plain X J hs (PySem.W.osa_open (s := { s with toks := s.toks + 1 }) (r := none) X J hp ht fun b => ?_)
  obtain ⟨cd, hc, hd'⟩ := PySem.W.any_some hh
  have hx : s.heap.get? x = some ⟨.ref C, some dx, .plain, #[]⟩ := I.obj
  refine wpAny_bind (wpAny_pure (wpAny_bind (wpAny_bind (wpAny_loadPart hx (wpAny_bind (PySem.W.Looks.here (s := { s with toks := s.toks + 1 }) (PySem.W.looks_clsIn X hc) ?_))))))
  rw [hd']
  refine wpAny_pure (a := some dx) (wpAny_bind (wpAny_pure (wpAny_bind ?_)))
  refine wpAny_nsSet1 (s := { s with toks := s.toks + 1 }) I.ns fun h' hn2 hs2 => ?_
  obtain ⟨oD, esD, epD, hoD, hdD, hcD⟩ := hn2.count (PySem.Within.cons name v hw)
  refine wpAny_bind (wpAny_lookBehind hoD (by rw [hdD]; exact pastItsLine_dict (Nat.le_trans hcD (by rw [List.length_cons]; omega))) ?_)
  exact wpAny_pure (h _ ⟨(hs2.2 _ (Ne.symm I.ne)).trans I.obj, hn2, I.ne⟩ hs2)

theorem make_map {R : Result → Shared → Prop} {vs : List Value} {kw : List (Str × Value)} (X : K.In s.heap) (hm : PySem.W.makesIn K C = true)
    (hi : PySem.W.findIn K (.ref C) "__init__" = some (some (.ref f))) (hf : PySem.W.typeIn K (.ref f) = some (.type "function"))
    (h : codeAny (model prog w) (A.under (.builtin "type.__call__" ⟨.ref C :: vs, kw⟩)) (.call (.ref f) ⟨.ref (s.heap.objs.size + 1) :: vs, kw⟩) (PySem.W.InitBack (s.heap.objs.size + 1) R)
      { s with heap := (s.heap.push PySem.W.emptyDict).push (PySem.W.instObj C s.heap.objs.size) }) :
    codeAny (model prog w) A (.call (.ref C) ⟨vs, kw⟩) R s := by
  obtain ⟨hh, g, d, t, os⟩ := s
  exact PySem.W.make_core (PySem.W.makes_of X hm) (PySem.W.looks_findIn X hi) (fun self => PySem.W.bind_fn X self hf) (.inl rfl) h
end

/-! ### the attributes as a list of pairs -/
def putF (f : Str) (v : V) : List (Str × V) → List (Str × V)
  | [] => [(f, v)]
  | (g, x) :: r => if g = f then (g, v) :: r else (g, x) :: putF f v r
theorem lookup_putF (f g : Str) (v : V) : ∀ fs : List (Str × V), (putF f v fs).lookup g = if g = f then some v else fs.lookup g
  | [] => by
    show List.lookup g [(f, v)] = _
    by_cases h : g = f
    · have hb : (g == f) = true := beq_iff_eq.mpr h
      simp only [List.lookup, hb, if_pos h]
    · have hb : (g == f) = false := beq_eq_false_iff_ne.mpr h
      simp only [List.lookup, hb, if_neg h]
  | (k, x) :: r => by
    have ih := lookup_putF f g v r
    rw [show putF f v ((k, x) :: r) = (if k = f then (k, v) :: r else (k, x) :: putF f v r) from rfl]
    by_cases hk : k = f
    · rw [if_pos hk]
      by_cases h : g = k
      · have hb : (g == k) = true := beq_iff_eq.mpr h
        simp only [List.lookup, hb, if_pos (h.trans hk)]
      · have hb : (g == k) = false := beq_eq_false_iff_ne.mpr h
        simp only [List.lookup, hb, if_neg (fun e : g = f => h (e.trans hk.symm))]
    · rw [if_neg hk]
      by_cases h : g = k
      · have hb : (g == k) = true := beq_iff_eq.mpr h
        simp only [List.lookup, hb, if_neg (fun e : g = f => hk (h.symm.trans e))]
      · have hb : (g == k) = false := beq_eq_false_iff_ne.mpr h
        simp only [List.lookup, hb]
        exact ih
theorem keys_putF (f : Str) (v : V) : ∀ fs : List (Str × V), f ∈ (putF f v fs).map (·.1) ∧ ∀ g, g ∈ fs.map (·.1) → g ∈ (putF f v fs).map (·.1)
  | [] => ⟨by simp [putF], fun g h => by simp at h⟩
  | (k, x) :: r => by
    obtain ⟨i1, i2⟩ := keys_putF f v r
    rw [show putF f v ((k, x) :: r) = (if k = f then (k, v) :: r else (k, x) :: putF f v r) from rfl]
    by_cases hk : k = f
    · rw [if_pos hk]
      subst hk
      exact ⟨by simp, fun g h => by simpa using h⟩
    · rw [if_neg hk]
      refine ⟨?_, fun g h => ?_⟩
      · rw [List.map_cons]
        exact List.mem_cons_of_mem _ i1
      · rw [List.map_cons] at h ⊢
        rcases List.mem_cons.mp h with e | e
        · exact List.mem_cons.mpr (.inl e)
        · exact List.mem_cons_of_mem _ (i2 g e)
theorem length_putF (f : Str) (v : V) : ∀ fs : List (Str × V), (putF f v fs).length ≤ fs.length + 1
  | [] => by simp [putF]
  | (k, x) :: r => by
    have ih := length_putF f v r
    rw [show putF f v ((k, x) :: r) = (if k = f then (k, v) :: r else (k, x) :: putF f v r) from rfl]
    by_cases hk : k = f
    · rw [if_pos hk, List.length_cons, List.length_cons]; omega
    · rw [if_neg hk, List.length_cons, List.length_cons]; omega

theorem RelO.some_of {v : V} {o : Option Value} (r : RelO (some v) o) : ∃ u, o = some u ∧ RelV v u := by
  cases o with
  | none => exact (show False from r).elim
  | some u => exact ⟨u, rfl, r⟩
theorem RelO.none_of {o : Option Value} (r : RelO none o) : o = none := by
  cases o with
  | none => rfl
  | some u => exact (show False from r).elim
theorem handed_of {v : V} {u : Value} (r : RelV v u) : PySem.W.handedIn u = true := by
  cases v with
  | non => cases (show u = Value.none from r); rfl
  | bl b => cases (show u = Value.bool b from r); rfl
  | int i => obtain ⟨t, e⟩ := (show ∃ t, u = Value.int i t from r); cases e; rfl
  | str x => obtain ⟨t, e⟩ := (show ∃ t, u = Value.str x t from r); cases e; rfl
  | byt b => obtain ⟨t, e⟩ := (show ∃ t, u = Value.bytes b t from r); cases e; rfl
  | flt b => obtain ⟨t, e⟩ := (show ∃ t, u = Value.float b t from r); cases e; rfl
  | ref a => cases (show u = Value.ref a from r); rfl
  | ty n => cases (show u = Value.type n from r); rfl

section
variable {P : Program} {w : World} {H H' : Hp} {h h' : Heap} {a C dx : Addr} {fs fs' : List (Str × V)}
theorem ins_get (hok : HOk P w H h) (e : H a = some (.ins C dx fs)) : ∃ mA, ObjM h a dx C mA ∧ (∀ f, RelO (fs.lookup f) (mA f)) ∧ PySem.Within mA (fs.map (·.1)) ∧ fs.length ≤ 1000 ∧ H dx = some (.own a) := by
  obtain ⟨d, z, ne, ob, mA, n, r, q⟩ := (show ObjOk P w H h a (.ins C dx fs) from hok a _ e)
  exact ⟨mA, ⟨ob, n, ne⟩, r, q, z, d⟩
end

/-! ### what of the text a class must have -/
structure Cls (K : PySem.W.Frag) (C : Addr) : Prop where
  pg : PySem.W.plainGet K C Str.empty = true
  hd : PySem.W.hasDictIn K C = true
  po : PySem.W.plainOver K C = true
  sa : PySem.W.findIn K (.ref C) "__setattr__" = some (some (.builtin "object.__setattr__"))
theorem Cls.get {K : PySem.W.Frag} {C : Addr} (c : Cls K C) (f : Str) : PySem.W.plainGet K C f = true := c.pg
def NoAttr (K : PySem.W.Frag) (C : Addr) (f : Str) : Prop := PySem.W.findIn K (.ref C) f = some none
theorem NoAttr.taker {K : PySem.W.Frag} {C : Addr} {f : Str} (n : NoAttr K C f) : PySem.W.takerIn K C f = some none := by
  unfold PySem.W.takerIn
  rw [show PySem.W.findIn K (.ref C) f = some none from n]
  rfl
structure Con (K : PySem.W.Frag) (C : Addr) (f : Str) (v : V) (u : Value) : Prop where
  at_ : PySem.W.findIn K (.ref C) f = some (some u)
  rel : RelV v u
  get : PySem.W.specialIn K u "__get__" = some none
  cp : PySem.W.copiedNames.contains f = false
structure Meth (K : PySem.W.Frag) (C : Addr) (m : Str) (f : Addr) : Prop where
  at_ : PySem.W.findIn K (.ref C) m = some (some (.ref f))
  fn : PySem.W.isFn K (.ref f) = true
  kp : PySem.W.keepIn K (.ref f) = true

section
variable {X : Cx} {pins : List (Addr × Obj)} {σ : St} {H : Hp} {s : Shared} {a C dx : Addr} {fs : List (Str × V)} {f : Str} {v : V} {A : Around} {E : Value → Shared → Prop}

theorem getattr_ok {b : Bool} {Q : Value → Shared → Prop} (I : Inv X pins σ H s) (e : H a = some (.ins C dx fs)) (c : Cls X.K C) (n : NoAttr X.K C f) (l : fs.lookup f = some v)
    (h : ∀ u s', Inv X pins σ H s' → RelV v u → Q u s') : wpAny (model X.prog X.w) A (getAttr (.ref a) f b) Q E s := by
  obtain ⟨mA, O, r, _, _, _⟩ := ins_get I.hok e
  obtain ⟨u, hu, ru⟩ := RelO.some_of (v := v) (o := mA f) (by rw [← l]; exact r f)
  exact get_map I.kIn O (c.get f) c.hd n hu (handed_of ru) (h u _ (I.tok _) ru)

theorem getmeth_ok {m : Str} {g : Addr} {pl : Sem Bool} {Q : Value × List Value → Shared → Prop} (I : Inv X pins σ H s) (e : H a = some (.ins C dx fs)) (c : Cls X.K C) (k : Meth X.K C m g) (l : fs.lookup m = none)
    (h : Q (.ref g, [.ref a]) s) : wpAny (model X.prog X.w) A (getMethod (.ref a) m pl) Q E s := by
  obtain ⟨mA, O, r, _, _, _⟩ := ins_get I.hok e
  have hn : mA m = none := RelO.none_of (by rw [← l]; exact r m)
  exact get_meth I.kIn O (c.get m) k.at_ k.fn hn h

theorem setattr_ok {y : V} {u : Value} {Q : Unit → Shared → Prop} (I : Inv X pins σ H s) (e : H a = some (.ins C dx fs)) (c : Cls X.K C) (n : NoAttr X.K C f) (hl : fs.length < 1000) (ry : RelV y u)
    (h : ∀ s', Inv X pins σ (upd H a (.ins C dx (putF f y fs))) s' → Q () s') : wpAny (model X.prog X.w) A (setAttr (.ref a) f u) Q E s := by
  obtain ⟨mA, O, r, wi, _, ho⟩ := ins_get I.hok e
  have hz : (fs.map (·.1)).length ≤ sizeLine := by rw [List.length_map, sizeLine_eq]; omega
  refine set_map I.kIn O c.sa c.po n.taker c.hd wi hz fun h' O' sb => h _ ?_
  have hd : ∃ o, h'.get? dx = some o := let ⟨o, _, _, e', _⟩ := O'.ns; ⟨o, e'⟩
  refine I.write (x := a) (e := dx) (by rw [e]; exact True.intro) (.inr ho) (fun b q hb z => (sb.2 b hb).trans z) hd ?_
  refine ⟨by rw [upd_ne O.ne]; exact ho, ?_, O.ne, O'.obj, _, O'.ns, fun g => ?_, fun g hg => ?_⟩
  · have := length_putF f y fs; omega
  · show RelO ((putF f y fs).lookup g) (if g = f then some u else mA g)
    rw [lookup_putF]
    by_cases q : g = f
    · rw [if_pos q, if_pos q]; exact ry
    · rw [if_neg q, if_neg q]; exact r g
  · by_cases q : g = f
    · rw [q]; exact (keys_putF f y fs).1
    · refine (keys_putF f y fs).2 g (wi g fun z => hg ?_)
      show (if g = f then some u else mA g) = none
      rw [if_neg q]; exact z

theorem Inv.made (I : Inv X pins σ H s) : Inv X pins σ (upd (upd H s.heap.objs.size (.own (s.heap.objs.size + 1))) (s.heap.objs.size + 1) (.ins C s.heap.objs.size []))
    { s with heap := (s.heap.push PySem.W.emptyDict).push (PySem.W.instObj C s.heap.objs.size) } := by
  have e1 : (s.heap.push PySem.W.emptyDict).get? s.heap.objs.size = some PySem.W.emptyDict := Heap.get?_push_size s.heap rfl
  have e2 : ((s.heap.push PySem.W.emptyDict).push (PySem.W.instObj C s.heap.objs.size)).get? (s.heap.objs.size + 1) = some (PySem.W.instObj C s.heap.objs.size) := by
    have := Heap.get?_push_size (s.heap.push PySem.W.emptyDict) (o := PySem.W.instObj C s.heap.objs.size) rfl
    rwa [Heap.size_push] at this
  have e3 : (s.heap.push PySem.W.emptyDict).Ns s.heap.objs.size (fun _ => none) := ⟨PySem.W.emptyDict, #[], _, e1, rfl, (fun e he => absurd he (by simp)), fun _ => rfl⟩
  have I1 := I.laid (a := s.heap.objs.size) (o := .own (s.heap.objs.size + 1)) (h' := s.heap.push PySem.W.emptyDict) (t' := s.toks) (fun b u q => Heap.get?_push_of_some _ q) (Nat.le_refl _) ⟨_, e1⟩
  refine I1.laid (a := s.heap.objs.size + 1) (o := .ins C s.heap.objs.size []) (t' := s.toks) (fun b u q => Heap.get?_push_of_some _ q) (Nat.le_of_eq (Heap.size_push _ _)) ?_
  have ne : s.heap.objs.size ≠ s.heap.objs.size + 1 := Nat.ne_of_lt (Nat.lt_succ_self _)
  refine ⟨by rw [upd_ne ne, upd_same], Nat.zero_le _, ne, e2, fun _ => none, (Heap.Ns1.of_empty e3).at fun o q => Heap.get?_push_of_some _ q, fun _ => True.intro, fun y hy => absurd rfl hy⟩

theorem attr_of {prog : Program} {w : World} {env : Env} {e : Expr} {f : Str} {pos : Pos} {s : Shared} {Q : Value → Shared → Prop} (hb : attributeBase e f env (eval e env) = eval e env)
    (h : wpAny (model prog w) A (eval e env) (fun o s₁ => wpAny (model prog w) A (getAttr o f true) Q E s₁) E s) : wpAny (model prog w) A (eval (.Attribute e f pos) env) Q E s :=
  Attribute_any_ h (by rw [arm_eval_Attribute, hb])
end

/-! ### readings and rules -/
def tFld (K : PySem.W.Frag) (ta : TE) (f : Str) : TE := fun σ H Q => ta σ H fun x H1 => ∃ a C dx fs v, x = .ref a ∧ H1 a = some (.ins C dx fs) ∧ Cls K C ∧ NoAttr K C f ∧ fs.lookup f = some v ∧ Q v H1
def tCon (K : PySem.W.Frag) (ta : TE) (f : Str) : TE := fun σ H Q => ta σ H fun x H1 => ∃ a C dx fs v u, x = .ref a ∧ H1 a = some (.ins C dx fs) ∧ Cls K C ∧ Con K C f v u ∧ fs.lookup f = none ∧ Q v H1
def sFld (K : PySem.W.Frag) (ta tv : TE) (f : Str) : TS := fun D σ H => tv σ H fun y H1 => ta σ H1 fun x H2 => ∃ a C dx fs, x = .ref a ∧ H2 a = some (.ins C dx fs) ∧ Cls K C ∧ NoAttr K C f ∧ fs.length < 1000 ∧
  D.nx σ (upd H2 a (.ins C dx (putF f y fs)))
def InOp (X : Cx) (op : Operator) (rd : V → V → Hp → VK → Prop) : Prop :=
  ∀ (pins : List (Addr × Obj)) (s : Shared) (σ : St) (H : Hp) (x y : V) (u v : Value) (Q : VK), Inv X pins σ H s → RelV x u → RelV y v → rd x y H Q → wpAny (model X.prog X.w) X.A (inplaceOp op u v) (EP X pins σ Q) X.xe s
def sFldAug (K : PySem.W.Frag) (ta tv : TE) (rd : V → V → Hp → VK → Prop) (f : Str) : TS := fun D σ H => ta σ H fun x H1 => ∃ a C dx fs v, x = .ref a ∧ H1 a = some (.ins C dx fs) ∧ Cls K C ∧ NoAttr K C f ∧ fs.lookup f = some v ∧
  tv σ H1 fun y H2 => rd v y H2 fun z H3 => ∃ dx' fs', H3 a = some (.ins C dx' fs') ∧ fs'.length < 1000 ∧ D.nx σ (upd H3 a (.ins C dx' (putF f z fs')))

section
variable {X : Cx} {o e value : Expr} {f : Str} {pos pos' tpos : Pos} {ta tv : TE}
theorem pe_fld (he : PE X e ta) (hb : attributeBase e f X.env (eval e X.env) = eval e X.env) : PE X (.Attribute e f pos) (tFld X.K ta f) := by
  intro pins s σ H Q I h
  refine attr_of hb (thn (he pins s σ H _ I h) fun u s1 ⟨x, H1, I1, rx, a, C, dx, fs, v, ex, ea, c, n, l, q⟩ => ?_)
  subst ex
  obtain rfl : u = Value.ref a := rx
  exact getattr_ok I1 ea c n l fun u' s2 I2 ru => ⟨v, H1, I2, ru, q⟩
theorem ps_fld (ha : PE X o ta) (hv : PE X value tv) (hs : swapsWith value (some (.Attribute o f pos')) pos.line X.env = pure false) : PS X (.Assign [.Attribute o f pos'] value pos) (sFld X.K ta tv f) := by
  intro pins s σ H D I h
  refine plainObj_wpAny_Assign_Attribute (thn (hv pins s σ H _ I h) fun u s1 ⟨y, H1, I1, ry, q⟩ => thn (ha pins s1 σ H1 _ I1 q) fun ov s2 ⟨x, H2, I2, rx, a, C, dx, fs, ex, ea, c, n, l, q2⟩ => ?_) hs
  subst ex
  obtain rfl : ov = Value.ref a := rx
  exact setattr_ok I2 ea c n l ry fun s3 I3 => ⟨σ, _, I3, q2⟩
def rAdd : V → V → Hp → VK → Prop := fun x y H Q => ∃ i j, x = .int i ∧ y = .int j ∧ Q (.int (i + j)) H
def rSub : V → V → Hp → VK → Prop := fun x y H Q => ∃ i j, x = .int i ∧ y = .int j ∧ Q (.int (i - j)) H
end

/-! ### isinstance -/
section
variable {X : Cx} {pins : List (Addr × Obj)} {σ : St} {H : Hp} {s : Shared} {A : Around} {E : Value → Shared → Prop} {Q : Value → Shared → Prop} {c : Value} {b : Bool}
inductive TyOf (K : PySem.W.Frag) (H : Hp) : V → Value → Prop where
  | non : TyOf K H .non (.type "NoneType")
  | bl (x : Bool) : TyOf K H (.bl x) (.type "bool")
  | int (i : Int) : TyOf K H (.int i) (.type "int")
  | str (x : Str) : TyOf K H (.str x) (.type "str")
  | flt (x : UInt64) : TyOf K H (.flt x) (.type "float")
  | lst {a : Addr} {xs : List V} (e : H a = some (.lst xs)) : TyOf K H (.ref a) (.type "list")
  | frz {a : Addr} {o : Obj} {xs : List V} (e : H a = some (.frz o (.lst xs))) : TyOf K H (.ref a) (.type "list")
  | tup {a : Addr} {xs : List V} (e : H a = some (.tup xs)) : TyOf K H (.ref a) (.type "tuple")
  | dK {a : Addr} {kvs : List (Key × V)} (e : H a = some (.dK kvs)) : TyOf K H (.ref a) (.type "dict")
  | dT {a : Addr} {kvs : List (List Key × V)} (e : H a = some (.dT kvs)) : TyOf K H (.ref a) (.type "dict")
  | ins {a C dx : Addr} {fs : List (Str × V)} (e : H a = some (.ins C dx fs)) (cl : Cls K C) (ha : PySem.W.findIn K (.ref C) "__class__" = some (some (.builtin "object.__class__")))
      (hn : PySem.W.specialIn K (.builtin "object.__class__") "__get__" = some (some (.builtin "getset_descriptor.__get__"))) (htk : PySem.W.takesIn K (.builtin "object.__class__") = some true)
      (hm : PySem.W.mroIn K C (.type "object") = some true) : TyOf K H (.ref a) (.ref C)
theorem isinst_ok {x : V} {u t : Value} (I : Inv X pins σ H s) (rx : RelV x u) (ty : TyOf X.K H x t) (e : PySem.W.kitOne X.K t c = some b) (h : ∀ tk, Q (.bool b) { s with toks := tk }) :
    wpAny (model X.prog X.w) A (call (.builtin "isinstance") [u, c]) Q E s := by
  cases ty with
  | non => cases (show u = Value.none from rx); exact PySem.W.kia_one PySem.W.kitx_none I.kIn True.intro e (fun z => nomatch z) h
  | bl y => cases (show u = Value.bool y from rx); exact PySem.W.kia_one PySem.W.kitx_bool I.kIn True.intro e (fun z => nomatch z) h
  | int i => obtain ⟨t, q⟩ := (show ∃ t, u = Value.int i t from rx); cases q; exact PySem.W.kia_one PySem.W.kitx_int I.kIn True.intro e (fun z => nomatch z) h
  | str y => obtain ⟨t, q⟩ := (show ∃ t, u = Value.str y t from rx); cases q; exact PySem.W.kia_one PySem.W.kitx_str I.kIn True.intro e (fun z => nomatch z) h
  | flt y => obtain ⟨t, q⟩ := (show ∃ t, u = Value.float y t from rx); cases q; exact PySem.W.kia_one PySem.W.kitx_float I.kIn True.intro e (fun z => nomatch z) h
  | @lst a xs ea =>
    cases (show u = Value.ref a from rx)
    obtain ⟨_, _, n, _, h1⟩ := (show ObjOk X.prog X.w H s.heap a (.lst xs) from I.hok a _ ea)
    exact PySem.W.kia_one PySem.W.kitx_list I.kIn ⟨_, h1, rfl⟩ e (fun z => nomatch z) h
  | @frz a ob xs ea =>
    cases (show u = Value.ref a from rx)
    obtain ⟨_, _, _, n, _, h1⟩ := (show ObjOk X.prog X.w H s.heap a (.frz ob (.lst xs)) from I.hok a _ ea)
    exact PySem.W.kia_one PySem.W.kitx_list I.kIn ⟨_, h1, rfl⟩ e (fun z => nomatch z) h
  | @tup a xs ea =>
    cases (show u = Value.ref a from rx)
    obtain ⟨_, _, _, p⟩ := (show ObjOk X.prog X.w H s.heap a (.tup xs) from I.hok a _ ea)
    obtain ⟨o, h1, h2, _⟩ := p
    exact PySem.W.kia_one PySem.W.kitx_tuple I.kIn ⟨o, h1, h2⟩ e (fun z => nomatch z) h
  | @dK a kvs ea =>
    cases (show u = Value.ref a from rx)
    obtain ⟨_, _, vs, _, p⟩ := (show ObjOk X.prog X.w H s.heap a (.dK kvs) from I.hok a _ ea)
    obtain ⟨o, es, ep, h1, h2, _⟩ := p
    exact PySem.W.kia_one PySem.W.kitx_dict I.kIn ⟨o, h1, h2.1⟩ e (fun z => nomatch z) h
  | @dT a kvs ea =>
    cases (show u = Value.ref a from rx)
    obtain ⟨_, _, xs, _, o, es, ep, h1, h2, _⟩ := (show ObjOk X.prog X.w H s.heap a (.dT kvs) from I.hok a _ ea)
    exact PySem.W.kia_one PySem.W.kitx_dict I.kIn ⟨o, h1, h2.1⟩ e (fun z => nomatch z) h
  | @ins a C dx fs ea cl ha hn htk hm =>
    cases (show u = Value.ref a from rx)
    obtain ⟨mA, O, _⟩ := ins_get I.hok ea
    obtain ⟨od, J, _⟩ := O.look
    exact PySem.W.kia_one (PySem.W.kitx_own (cl.get _) cl.hd ha hn htk hm) I.kIn J e (fun z => nomatch z) h
end
end L2

namespace L2
open PySem PySem.Spec PyProof.Rows

/-! ### room -/
structure Room (k : Nat) (A : Around) : Prop where
  hd : A.handled = none
  dp : A.depth + 3 * k + 5 < recursionLimit
  un : A.units + 16 * k + 200 < cLine
theorem Room.mono {j k : Nat} {A : Around} (r : Room k A) (h : j ≤ k) : Room j A := ⟨r.hd, by have := r.dp; omega, by have := r.un; omega⟩
theorem Room.deeper {k : Nat} {A : Around} (r : Room (k + 1) A) (env : Env) : Room k (A.deeper env) :=
  ⟨r.hd, by have := r.dp; show A.depth + 1 + 3 * k + 5 < _; omega, by have := r.un; show A.units + 3 + 16 * k + 200 < _; omega⟩
theorem make_depth {A : Around} {C : Addr} {us : List Value} {kw : List (Str × Value)} : (A.under (.builtin "type.__call__" ⟨.ref C :: us, kw⟩)).depth = A.depth + 1 := by
  first | rfl | simp [Around.under, Code.weight, Code.isCreation, Code.isGuard, Code.isCaller, Code.frames, Code.isFrame, guardIds]
theorem make_units {A : Around} {C : Addr} {us : List Value} {kw : List (Str × Value)} : (A.under (.builtin "type.__call__" ⟨.ref C :: us, kw⟩)).units = A.units + 1 := by
  first | rfl | simp [Around.under, Code.cUnits, Code.frames, Code.isFrame]
theorem Room.make {k : Nat} {A : Around} (r : Room (k + 1) A) (C : Addr) (us : List Value) (kw : List (Str × Value)) : Room k (A.under (.builtin "type.__call__" ⟨.ref C :: us, kw⟩)) :=
  ⟨r.hd, by have := r.dp; rw [make_depth]; omega, by have := r.un; rw [make_units]; omega⟩
theorem Room.depth {k : Nat} {A : Around} (r : Room k A) : A.depth < recursionLimit := by have := r.dp; omega
theorem Room.units {k : Nat} {A : Around} (r : Room k A) : A.units + 64 < cLine := by have := r.un; omega
/-! ### argument lists and displays -/
def tNil : TA := fun _ H Q => Q [] H
def tCons (ta : TE) (tr : TA) : TA := fun σ H Q => ta σ H fun x H1 => tr σ H1 fun xs H2 => Q (x :: xs) H2
section
variable {X : Cx} {e : Expr} {es : List Expr} {te : TE} {t : TA} {pos : Pos}
theorem pa_nil : PA X [] tNil := fun _ _ _ _ H Q I h => Calls.spliced_nil ⟨[], H, I, .nil, h⟩
theorem pa_cons (ha : PE X e te) (hr : PA X es t) (hs : starEach (e :: es) X.env = (false, eval e X.env) :: starEach es X.env := by rfl) : PA X (e :: es) (tCons te t) := by
  intro pos pins s σ H Q I h
  rw [hs]
  show wpAny _ _ (spliced ((false, eval e X.env) :: backTo pos (starEach es X.env))) _ _ s
  refine Calls.spliced_cons (thn (ha pins s σ H _ I h) fun u s1 ⟨x, H1, I1, r1, q1⟩ => ?_)
  exact thn (hr pos pins s1 σ H1 _ I1 q1) fun us s2 ⟨xs, H2, I2, r2, q2⟩ => ⟨x :: xs, H2, I2, .cons r1 r2, q2⟩

def tTup (t : TA) : TE := fun σ H Q => t σ H fun xs H1 => xs.length ≤ sizeLine ∧ ∀ p, H1 p = none → Q (.ref p) (upd H1 p (.tup xs))
def tLst (t : TA) : TE := fun σ H Q => t σ H fun xs H1 => xs.length ≤ sizeLine ∧ ∀ p, H1 p = none → Q (.ref p) (upd H1 p (.lst xs))
theorem pe_tup {x1} (h : PA X es t) : PE X (.Tuple es x1 pos) (tTup t) := by
  intro pins s σ H Q I hq
  refine wpAny_Tuple_spliced (thn (h pos pins s σ H _ I hq) fun us s1 ⟨xs, H1, I1, r, z, q⟩ => ⟨by rw [← r.length]; exact z, ?_⟩)
  have hf : H1 s1.heap.objs.size = none := I1.hok.fresh (Nat.le_refl _)
  refine ⟨.ref s1.heap.objs.size, upd H1 s1.heap.objs.size (.tup xs), I1.laid (t' := s1.toks) (fun b u e => Heap.get?_push_of_some _ e) (Nat.le_refl _) ?_, rfl, q _ hf⟩
  exact ⟨z, us, r, ⟨_, Heap.get?_push_size _ rfl, rfl, _, rfl⟩⟩
theorem pe_lst (h : PA X es t) : PE X (.List es pos) (tLst t) := by
  intro pins s σ H Q I hq
  refine wpAny_List_spliced (thn (h pos pins s σ H _ I hq) fun us s1 ⟨xs, H1, I1, r, z, q⟩ => ⟨by rw [← r.length]; exact z, ?_⟩)
  have hf : H1 s1.heap.objs.size = none := I1.hok.fresh (Nat.le_refl _)
  refine ⟨.ref s1.heap.objs.size, upd H1 s1.heap.objs.size (.lst xs), I1.laid (t' := s1.toks) (fun b u e => Heap.get?_push_of_some _ e) (Nat.le_refl _) ?_, rfl, q _ hf⟩
  exact ⟨z, us, 0, r, Heap.get?_push_size _ rfl⟩
end

/-! ### what a def promises -/
abbrev Sp := List V → Hp → VK → XK → Prop
abbrev CXT := List Env → Hp → Shared → XK → Value → Shared → Prop

structure Env0 (P : Program) (w : World) (K : PySem.W.Frag) (mg : Str → Option Value) (base : Heap) (A : Around) (outer : List Env) (s : Shared) (H : Hp) : Prop where
  frames : A.frames = some outer
  mod : Mod K mg base
  bs : ∀ b o, base.get? b = some o → s.heap.get? b = some o ∧ H b = none
  bsz : base.objs.size ≤ s.heap.objs.size
  funs : s.heap.FunFrames base outer
  frf : ∀ b ∈ frs outer, H b = none
  hok : HOk P w H s.heap
  bare : AllBare s.gens
def CE (outer : List Env) (P : Program) (w : World) (H : Hp) (s : Shared) (Q : VK) (u : Value) (s' : Shared) : Prop :=
  ∃ v H', s'.os = s.os ∧ AllBare s'.gens ∧ Un (frs outer) [] H H' s.heap s'.heap ∧ HOk P w H' s'.heap ∧ RelV v u ∧ Q v H'
def CR (CX : CXT) (outer : List Env) (P : Program) (w : World) (H : Hp) (s : Shared) (Q : VK) (E : XK) (r : Result) (s' : Shared) : Prop :=
  match r with
  | .ok (.ret u) => CE outer P w H s Q u s'
  | .ok _ => False
  | .error e => CX outer H s E e s'
structure FnOk (P : Program) (w : World) (K : PySem.W.Frag) (mg : Str → Option Value) (base : Heap) (CX : CXT) (k : Nat) (f : Addr) (fd : FuncData) (ps : List Str) (sp : Sp) : Prop where
  len : ∀ vs H Q E, sp vs H Q E → vs.length = ps.length
  run : ∀ (A : Around) (outer : List Env) (s : Shared) (H : Hp) (args : Args) (us : List Value) (vs : List V) (Q : VK) (E : XK), Room k A → Env0 P w K mg base A outer s H → BindsTo s fd args (ps.zip us) → Vals vs us → sp vs H Q E →
    codeAny (model P w) A (.call (.ref f) args) (CR CX outer P w H s Q E) s
theorem Env0.make {P : Program} {w : World} {K : PySem.W.Frag} {mg : Str → Option Value} {base : Heap} {A : Around} {outer : List Env} {s : Shared} {H : Hp} (e : Env0 P w K mg base A outer s H) (C : Addr) (us : List Value) (kw : List (Str × Value)) :
    Env0 P w K mg base (A.under (.builtin "type.__call__" ⟨.ref C :: us, kw⟩)) outer s H := ⟨by first | exact e.frames | (simpa [Around.under, Code.envs, Code.isFrame, pushEnvs] using e.frames), e.mod, e.bs, e.bsz, e.funs, e.frf, e.hok, e.bare⟩
section
variable {X : Cx} {pins : List (Addr × Obj)} {σ : St} {H : Hp} {s s' : Shared}
theorem Inv.env0 (I : Inv X pins σ H s) : Env0 X.prog X.w X.K X.mg X.base X.A X.stack s H :=
  ⟨I.ok.frames, I.ok.mod, I.bs, Nat.le_trans I.ok.bsz I.sz, I.stack, I.stkFree, I.hok, I.bare⟩
theorem Inv.after {Q : VK} {u : Value} (I : Inv X pins σ H s) (h : CE X.stack X.prog X.w H s Q u s') : EP X pins σ Q u s' := by
  obtain ⟨v, H', os, bare, un, hok, r, q⟩ := h
  obtain ⟨hh, g, d, t, os'⟩ := s'
  obtain rfl : os' = s.os := os
  exact ⟨v, H', I.call (h' := hh) (g' := g) (d' := d) (t' := t) (ch := []) un hok bare (fun b z => absurd z (by simp)), r, q⟩
end

/-! ### calls -/
def tCall (sp : Sp) (dvs : List V) (E : XK) (t : TA) : TE := fun σ H Q => t σ H fun vs H1 => sp (vs ++ dvs) H1 Q E
def tMeth (C : Addr) (m : Str) (sp : Sp) (dvs : List V) (E : XK) (ta : TE) (t : TA) : TE := fun σ H Q => ta σ H fun x H1 => ∃ a dx fs, x = .ref a ∧ H1 a = some (.ins C dx fs) ∧ fs.lookup m = none ∧
  t σ H1 fun vs H2 => sp (x :: (vs ++ dvs)) H2 Q E
def tMake (C : Addr) (sp : Sp) (dvs : List V) (E : XK) (t : TA) : TE := fun σ H Q => t σ H fun vs H1 => ∀ x dx, H1 x = none → H1 dx = none → dx ≠ x →
  sp (.ref x :: (vs ++ dvs)) (upd (upd H1 dx (.own x)) x (.ins C dx [])) (fun v H2 => v = .non ∧ Q (.ref x) H2) E

def Binds (K : PySem.W.Frag) (fd : FuncData) (ps : List Str) (ds : List Value) : Prop :=
  ∀ (s : Shared) (us : List Value), K.In s.heap → (us ++ ds).length = ps.length → BindsTo s fd ⟨us, []⟩ (ps.zip (us ++ ds))
theorem Binds.all {K : PySem.W.Frag} {fd : FuncData} {ps : List Str} (h : ∀ us : List Value, us.length = ps.length → bindArgs fd ⟨us, []⟩ = pure (ps.zip us)) : Binds K fd ps [] := fun s us _ hl => by
  rw [List.append_nil] at hl ⊢
  exact .of_eq (h us hl)

def Passes (CX : CXT) (X : Cx) (E : XK) : Prop := ∀ (pins : List (Addr × Obj)) (σ : St) (H : Hp) (s : Shared) (e : Value) (s' : Shared), Inv X pins σ H s → CX X.stack H s E e s' → X.xe e s'

section
variable {X : Cx} {CX : CXT} {k : Nat} {f C : Addr} {fd : FuncData} {ps : List Str} {sp : Sp} {dvs : List V} {ds : List Value} {E : XK} {x m : Str} {p pos apos : Pos} {e o : Expr} {es : List Expr} {ta : TE} {t : TA}

theorem run_fn {pins : List (Addr × Obj)} {σ : St} {H : Hp} {s : Shared} {Q : VK} {us : List Value} {vs : List V} (F : FnOk X.prog X.w X.K X.mg X.base CX k f fd ps sp) (hr : Room k X.A) (hb : Binds X.K fd ps ds) (hd : Vals dvs ds) (hx : Passes CX X E)
    (I : Inv X pins σ H s) (r : Vals vs us) (h : sp (vs ++ dvs) H Q E) : wpAny (model X.prog X.w) X.A (call (.ref f) us) (EP X pins σ Q) X.xe s := by
  have r2 : Vals (vs ++ dvs) (us ++ ds) := r.append hd
  have hl : (us ++ ds).length = ps.length := by rw [← r2.length]; exact F.len _ _ _ _ h
  refine wpAny_call (codeAny_mono (F.run X.A X.stack s H ⟨us, []⟩ (us ++ ds) (vs ++ dvs) Q E hr I.env0 (hb s us I.kIn hl) r2 h) fun r s' hq => ?_)
  cases r with
  | error e => exact hx pins σ H s e s' I hq
  | ok fl =>
    cases fl with
    | ret u => exact I.after hq
    | next => exact False.elim hq
    | brk => exact False.elim hq
    | cont => exact False.elim hq

theorem pe_call (F : FnOk X.prog X.w X.K X.mg X.base CX k f fd ps sp) (hr : Room k X.A) (hg : Gl X x) (hm : X.mg x = some (.ref f)) (hk : PySem.W.keepIn X.K (.ref f) = true) (hb : Binds X.K fd ps ds) (hd : Vals dvs ds) (hx : Passes CX X E)
    (ha : PA X (e :: es) t) (hdb : (x == ("__debug__" : Str)) = false := by decide) (he : starEach (e :: es) X.env = (false, eval e X.env) :: starEach es X.env := by rfl) (hpl : (backTo pos (starEach es X.env)).any (·.1) = false := by rfl) :
    PE X (.Call (.Name x p) (e :: es) [] pos) (tCall sp dvs E t) := by
  intro pins s σ H Q I h
  refine wpAny_Call_Name_kw (ld_glob I hg hm ?_ hdb)
  refine PySem.W.callWith_K (h₀ := X.base) I.ok.mod.kin hk (thn (ha pos pins s σ H _ I h) fun us s1 ⟨vs, H1, I1, r, q⟩ => ⟨I1.kIn, ?_⟩) he hpl
  exact run_fn F hr hb hd hx I1 r q
theorem pe_meth {pl : Sem Bool} (he : PE X o ta) (c : Cls X.K C) (hm : Meth X.K C m f) (F : FnOk X.prog X.w X.K X.mg X.base CX k f fd ps sp) (hr : Room k X.A) (hb : Binds X.K fd ps ds) (hd : Vals dvs ds) (hx : Passes CX X E) (ha : PA X (e :: es) t)
    (hst : starEach (e :: es) X.env = (false, eval e X.env) :: starEach es X.env := by rfl) (hpl : (backTo pos (starEach es X.env)).any (·.1) = false := by rfl)
    (ht : eval (.Call (.Attribute o m apos) (e :: es) [] pos) X.env = (do
      let ov ← eval o X.env
      standAt apos.atName
      let (f, first) ← holding [ov] (getMethod ov m pl)
      callWith pos f first (backTo pos (starEach (e :: es) X.env)) (backToKw pos (keywordEach [] X.env))) := by rfl) :
    PE X (.Call (.Attribute o m apos) (e :: es) [] pos) (tMeth C m sp dvs E ta t) := by
  intro pins s σ H Q I h
  refine PySem.W.methodCall_KW (pl := pl) (thn (he pins s σ H _ I h) fun u s1 ⟨x, H1, I1, rx, a, dx, fs, ex, ea, l, q⟩ => ?_) ht
  subst ex
  obtain rfl : u = Value.ref a := rx
  refine getmeth_ok I1 ea c hm l ?_
  refine PySem.W.callWith_K (first := [.ref a]) (h₀ := X.base) I.ok.mod.kin hm.kp (thn (ha pos pins s1 σ H1 _ I1 q) fun us s2 ⟨vs, H2, I2, r, q2⟩ => ⟨I2.kIn, ?_⟩) hst hpl
  exact run_fn (us := .ref a :: us) (vs := .ref a :: vs) F hr hb hd hx I2 (.cons rfl r) q2
theorem pe_meth0 {pl : Sem Bool} (he : PE X o ta) (c : Cls X.K C) (hm : Meth X.K C m f) (F : FnOk X.prog X.w X.K X.mg X.base CX k f fd ps sp) (hr : Room k X.A) (hb : Binds X.K fd ps ds) (hd : Vals dvs ds) (hx : Passes CX X E)
    (ht : eval (.Call (.Attribute o m apos) [] [] pos) X.env = (do
      let ov ← eval o X.env
      standAt apos.atName
      let (f, first) ← holding [ov] (getMethod ov m pl)
      callWith pos f first (backTo pos (starEach [] X.env)) (backToKw pos (keywordEach [] X.env))) := by rfl) :
    PE X (.Call (.Attribute o m apos) [] [] pos) (tMeth C m sp dvs E ta tNil) := by
  intro pins s σ H Q I h
  refine PySem.W.methodCall_KW (pl := pl) (thn (he pins s σ H _ I h) fun u s1 ⟨x, H1, I1, rx, a, dx, fs, ex, ea, l, q⟩ => ?_) ht
  subst ex
  obtain rfl : u = Value.ref a := rx
  refine getmeth_ok I1 ea c hm l ?_
  exact PySem.W.callWith_K0 (first := [.ref a]) I1.kIn hm.kp (run_fn (us := [.ref a]) (vs := [.ref a]) F hr hb hd hx I1 (.cons rfl .nil) q)

structure Mk (K : PySem.W.Frag) (C f : Addr) : Prop where
  makes : PySem.W.makesIn K C = true
  init : PySem.W.findIn K (.ref C) "__init__" = some (some (.ref f))
  fn : PySem.W.isFn K (.ref f) = true
  kp : PySem.W.keepIn K (.ref C) = true

theorem run_make {pins : List (Addr × Obj)} {σ : St} {H : Hp} {s : Shared} {Q : VK} {us : List Value} {vs : List V} (M : Mk X.K C f) (F : FnOk X.prog X.w X.K X.mg X.base CX k f fd ps sp) (hr : Room (k + 1) X.A) (hb : Binds X.K fd ps ds) (hd : Vals dvs ds)
    (hx : Passes CX X E) (I : Inv X pins σ H s) (r : Vals vs us)
    (h : ∀ x dx, H x = none → H dx = none → dx ≠ x → sp (.ref x :: (vs ++ dvs)) (upd (upd H dx (.own x)) x (.ins C dx [])) (fun v H2 => v = .non ∧ Q (.ref x) H2) E) :
    wpAny (model X.prog X.w) X.A (call (.ref C) us) (EP X pins σ Q) X.xe s := by
  have hq := h (s.heap.objs.size + 1) s.heap.objs.size (I.hok.fresh (Nat.le_succ _)) (I.hok.fresh (Nat.le_refl _)) (Nat.ne_of_lt (Nat.lt_succ_self _))
  have I2 := Inv.made (C := C) I
  have r2 : Vals (V.ref (s.heap.objs.size + 1) :: (vs ++ dvs)) (Value.ref (s.heap.objs.size + 1) :: (us ++ ds)) := .cons rfl (r.append hd)
  have hl : (Value.ref (s.heap.objs.size + 1) :: us ++ ds).length = ps.length := by
    have e := r2.length
    rw [F.len _ _ _ _ hq] at e
    exact e.symm
  refine wpAny_call (make_map (f := f) I.kIn M.makes M.init (beq_iff_eq.mp M.fn) (codeAny_mono (F.run _ X.stack _ _ ⟨Value.ref (s.heap.objs.size + 1) :: us, []⟩ (Value.ref (s.heap.objs.size + 1) :: (us ++ ds)) _ _ E (hr.make C us [])
    (I2.env0.make C us []) (hb _ (Value.ref (s.heap.objs.size + 1) :: us) I2.kIn hl) r2 hq) fun r s' hq' => ?_))
  cases r with
  | error e => exact hx pins σ _ _ e s' I2 hq'
  | ok fl =>
    cases fl with
    | ret u =>
      obtain ⟨v, H', I3, rv, ev, q3⟩ := I2.after hq'
      subst ev
      exact ⟨rv, ⟨V.ref (s.heap.objs.size + 1), H', I3, rfl, q3⟩⟩
    | next => exact False.elim hq'
    | brk => exact False.elim hq'
    | cont => exact False.elim hq'
theorem pe_make (M : Mk X.K C f) (F : FnOk X.prog X.w X.K X.mg X.base CX k f fd ps sp) (hr : Room (k + 1) X.A) (hg : Gl X x) (hm : X.mg x = some (.ref C)) (hb : Binds X.K fd ps ds) (hd : Vals dvs ds) (hx : Passes CX X E)
    (ha : PA X (e :: es) t) (hdb : (x == ("__debug__" : Str)) = false := by decide) (he : starEach (e :: es) X.env = (false, eval e X.env) :: starEach es X.env := by rfl) (hpl : (backTo pos (starEach es X.env)).any (·.1) = false := by rfl) :
    PE X (.Call (.Name x p) (e :: es) [] pos) (tMake C sp dvs E t) := by
  intro pins s σ H Q I h
  refine wpAny_Call_Name_kw (ld_glob I hg hm ?_ hdb)
  refine PySem.W.callWith_K (h₀ := X.base) I.ok.mod.kin M.kp (thn (ha pos pins s σ H _ I h) fun us s1 ⟨vs, H1, I1, r, q⟩ => ⟨I1.kIn, ?_⟩) he hpl
  exact run_make M F hr hb hd hx I1 r q
end

/-! ### keywords -/
def PK (X : Cx) (kws : List Keyword) (t : TA) : Prop :=
  ∀ (pos : Pos) (pins : List (Addr × Obj)) (s : Shared) (σ : St) (H : Hp) (Q : List V → Hp → Prop), Inv X pins σ H s → t σ H Q → wpAny (model X.prog X.w) X.A (evalAll ((backToKw pos (keywordEach kws X.env)).map (·.2))) (AP X pins σ Q) X.xe s
section
variable {X : Cx} {CX : CXT} {k : Nat} {f C : Addr} {fd : FuncData} {ps ks : List Str} {sp : Sp} {E : XK} {x m : Str} {p pos apos kpos : Pos} {e o : Expr} {es : List Expr} {kws : List Keyword} {te ta : TE} {t tk : TA} {nm : Option Str}
structure KBinds (K : PySem.W.Frag) (fd : FuncData) (ps ks : List Str) (g : List Value → List Value → List Value) (gV : List V → List V → List V) : Prop where
  to : ∀ (s : Shared) (us ws : List Value), K.In s.heap → (g us ws).length = ps.length → BindsTo s fd ⟨us, ks.zip ws⟩ (ps.zip (g us ws))
  rel : ∀ {vs : List V} {us : List Value} {zs : List V} {ws : List Value}, Vals vs us → Vals zs ws → Vals (gV vs zs) (g us ws)
def tCallK (sp : Sp) (gV : List V → List V → List V) (E : XK) (t tk : TA) : TE := fun σ H Q => t σ H fun vs H1 => tk σ H1 fun zs H2 => sp (gV vs zs) H2 Q E
variable {g : List Value → List Value → List Value} {gV : List V → List V → List V}
end

/-! ### a def's body keeps its promise -/
structure FnScope (N P : List Str) (sc : Scope) : Prop where
  kind : sc.kind = .function
  co : sc.isCoroutine = false
  gen : sc.isGenerator = false
  nd : N.Nodup
  pre : N.take P.length = P
  par : ∀ x ∈ P, sc.names.lookup x = some .local ∨ sc.names.lookup x = some .cell
  nofree : ∀ y ∈ sc.names, y.2 ≠ .free

theorem bindL_out {kindOf : Str → Option NameKind} {x : Str} : ∀ {binds : List (Str × Value)} {m : Str → Option Value}, (∀ v, (x, v) ∉ binds) → bindL kindOf binds m x = m x
  | [], _, _ => rfl
  | (n, v) :: r, m, h => by
    unfold bindL
    rw [bindL_out fun w hw => h w (List.mem_cons_of_mem _ hw)]
    split
    · have : x ≠ n := by rintro rfl; exact h v List.mem_cons_self
      simp [this]
    · rfl
theorem bindC_out {kindOf : Str → Option NameKind} {x : Str} : ∀ {binds : List (Str × Value)} {m : Str → Option Value}, (∀ v, (x, v) ∉ binds) → bindC kindOf binds m x = m x
  | [], _, _ => rfl
  | (n, v) :: r, m, h => by
    unfold bindC
    rw [bindC_out fun w hw => h w (List.mem_cons_of_mem _ hw)]
    split
    · rfl
    · have : x ≠ n := by rintro rfl; exact h v List.mem_cons_self
      simp [this]
theorem bindL_get {kindOf : Str → Option NameKind} {x : Str} {v : Value} : ∀ {P : List Str} {vs : List Value} {i : Nat} {m : Str → Option Value}, P.Nodup → P[i]? = some x → vs[i]? = some v → kindOf x = some .local →
    bindL kindOf (P.zip vs) m x = some v
  | [], _, _, _, _, h, _, _ => by simp at h
  | _ :: _, [], _, _, _, _, h, _ => by simp at h
  | p :: P, w :: vs, 0, m, nd, h1, h2, hk => by
    simp at h1 h2; subst h1; subst h2
    show bindL kindOf ((p, w) :: P.zip vs) m p = _
    unfold bindL
    rw [bindL_out fun v hv => (List.nodup_cons.mp nd).1 (List.of_mem_zip hv).1, if_pos hk]
    simp
  | p :: P, w :: vs, i + 1, m, nd, h1, h2, hk => by
    show bindL kindOf ((p, w) :: P.zip vs) m x = _
    unfold bindL
    exact bindL_get (i := i) (List.nodup_cons.mp nd).2 (by simpa using h1) (by simpa using h2) hk
theorem bindC_get {kindOf : Str → Option NameKind} {x : Str} {v : Value} : ∀ {P : List Str} {vs : List Value} {i : Nat} {m : Str → Option Value}, P.Nodup → P[i]? = some x → vs[i]? = some v → kindOf x ≠ some .local →
    bindC kindOf (P.zip vs) m x = some v
  | [], _, _, _, _, h, _, _ => by simp at h
  | _ :: _, [], _, _, _, _, h, _ => by simp at h
  | p :: P, w :: vs, 0, m, nd, h1, h2, hk => by
    simp at h1 h2; subst h1; subst h2
    show bindC kindOf ((p, w) :: P.zip vs) m p = _
    unfold bindC
    rw [bindC_out fun v hv => (List.nodup_cons.mp nd).1 (List.of_mem_zip hv).1, if_neg hk]
    simp
  | p :: P, w :: vs, i + 1, m, nd, h1, h2, hk => by
    show bindC kindOf ((p, w) :: P.zip vs) m x = _
    unfold bindC
    exact bindC_get (i := i) (List.nodup_cons.mp nd).2 (by simpa using h1) (by simpa using h2) hk

def start (N : List Str) (vs : List V) : St := vs.map some ++ List.replicate (N.length - vs.length) none

def cxOf (CX : CXT) (P : Program) (w : World) (K : PySem.W.Frag) (mg : Str → Option Value) (base : Heap) (N : List Str) (qual : Str) (scope : Scope) (f : Addr) (cd : Value) (A : Around) (outer : List Env) (s : Shared) (H : Hp) (E : XK) : Cx where
  prog := P
  w := w
  K := K
  mg := mg
  base := base
  A := A.deeper (envOfC qual scope s.heap.objs.size f cd)
  N := N
  s₀ := s
  H₀ := H
  env := envOfC qual scope s.heap.objs.size f cd
  outer := outer
  stack := envOfC qual scope s.heap.objs.size f cd :: outer
  ex := []
  calm := true
  fn := fun _ => true
  pn := []
  xe := fun e s' => wpAny (model P w) (A.deeper (envOfC qual scope s.heap.objs.size f cd)) (leaving (envOfC qual scope s.heap.objs.size f cd) e) (fun _ s'' => CX outer H s E e s'') (fun e' s'' => CX outer H s E e' s'') s'

theorem cell_has {sc : Scope} {n : Nat} {x : Str} (h : sc.names.lookup x = some .cell) : ∃ c, (cellsFrom n sc.names []).lookup x = some c := by
  have q := PySem.W.cellsFrom_some sc.names n [] (.inl h)
  exact Option.isSome_iff_exists.mp q

theorem inv_start {CX : CXT} {P : Program} {w : World} {K : PySem.W.Frag} {mg : Str → Option Value} {base : Heap} {N ps : List Str} {qual : Str} {scope : Scope} {f : Addr} {cd : Value} {A : Around} {outer : List Env} {s s1 : Shared} {H : Hp} {E : XK} {us : List Value} {vs : List V}
    (S : FnScope N ps scope) (hd : A.handled = none) (e0 : Env0 P w K mg base A outer s H) (hl : vs.length = ps.length) (r : Vals vs us)
    (x : InCallC s s.heap.objs.size (bindL (envOfC qual scope s.heap.objs.size f cd).kindOf (ps.zip us) fun _ => none) (cellsFrom (s.heap.objs.size + 1) scope.names []) (bindC (envOfC qual scope s.heap.objs.size f cd).kindOf (ps.zip us) fun _ => none) s1) :
    Inv (cxOf CX P w K mg base N qual scope f cd A outer s H E) [] (start N vs) H s1 := by
  have hpl : ps.length ≤ N.length := by have := congrArg List.length S.pre; rw [List.length_take] at this; omega
  obtain ⟨h1, tk, rfl, hk⟩ := x.done
  have noA : ∀ b : Addr, b ∉ (cxOf CX P w K mg base N qual scope f cd A outer s H E).ex := fun b z => absurd (show b ∈ ([] : List Addr) from z) (by simp)
  refine ⟨⟨e0.mod, S.kind, rfl, rfl, Nat.le_refl _, fun y z c h1 h2 => ?_, fun y hy => ?_, fun y c _ h => ?_, fun _ => hd, Around.frames_deeper e0.frames, .inr ⟨rfl, rfl⟩, fun b z => absurd z (noA b), e0.bs, e0.bsz, fun b _ _ => noA b, fun b z => absurd z (noA b), e0.funs, e0.frf⟩,
    rfl, e0.bare, Un.kept hk, ⟨_, x.toInCall.ns, fun i y v h1 h2 h3 => ?_⟩, fun y c h => ⟨_, x.cell y c h⟩, e0.hok.fresh (Nat.le_refl _), fun y c h => ?_, fun p hp => absurd (show p ∈ ([] : List (Addr × Obj)) from hp) (by simp), e0.hok.kept hk, ?_⟩
  · exact name_of_addr x.apart (PySem.mem_of_lookup h1) (PySem.mem_of_lookup h2)
  · have hy : scope.names.lookup y = some .cell ∨ scope.names.lookup y = some .free := hy
    rcases hy with hy | hy
    · exact cell_has hy
    · exact absurd rfl (S.nofree _ (PySem.mem_of_lookup hy))
  · exact Nat.le_of_lt (x.above y c (PySem.mem_of_lookup h))
  · have hi : i < vs.length := by
      unfold start at h2
      by_cases hi : i < vs.length
      · exact hi
      · rw [List.getElem?_append_right (by simpa using hi)] at h2
        rw [List.getElem?_replicate] at h2
        split at h2 <;> cases h2
    have ha : vs[i]? = some v := by
      unfold start at h2
      rw [List.getElem?_append_left (by simpa using hi), List.getElem?_map] at h2
      cases e : vs[i]? with
      | none => rw [e] at h2; cases h2
      | some a => rw [e] at h2; cases h2; rfl
    obtain ⟨u, hu, rv⟩ := r.get ha
    have hp : ps[i]? = some y := by
      rw [← S.pre, List.getElem?_take_of_lt (by omega)]; exact h1
    have ndP : ps.Nodup := by rw [← S.pre]; exact S.nd.sublist (List.take_sublist _ _)
    refine ⟨u, rv, ?_⟩
    rcases S.par y (List.mem_of_getElem? hp) with k | k
    · exact .inl ⟨k, bindL_get ndP hp hu k⟩
    · obtain ⟨c, e⟩ := cell_has (n := s.heap.objs.size + 1) k
      refine .inr ⟨.inl k, c, e, ?_⟩
      have q := x.cell y c e
      rw [bindC_get ndP hp hu (by show scope.names.lookup y ≠ _; rw [k]; decide)] at q
      exact q
  · exact e0.hok.fresh (Nat.le_of_lt (x.above y c (PySem.mem_of_lookup h)))
  · unfold start
    show _ = N.length
    rw [List.length_append, List.length_map, List.length_replicate]
    omega

theorem fn_of {CX : CXT} {P : Program} {w : World} {K : PySem.W.Frag} {mg : Str → Option Value} {base : Heap} {k : Nat} {f : Addr} {name qual : Str} {params : Arguments} {body : List Stmt} {scope : Scope} {dV kV doc pm cdv ct oc : Value} {an od : Option Addr}
    {osl : Array (Option Value)} {N ps : List Str} {sp : Sp} (lk : K.lookup f = some ⟨oc, od, .func (PySem.W.fnOf name qual params body scope dV kV doc pm an cdv ct), osl⟩) (hcd : PySem.W.codeIn K cdv qual = true) (S : FnScope N ps scope)
    (len : ∀ vs H Q E, sp vs H Q E → vs.length = ps.length)
    (hbody : ∀ (A : Around) (outer : List Env) (s : Shared) (H : Hp) (vs : List V) (Q : VK) (E : XK), Room k (A.deeper (envOfC qual scope s.heap.objs.size f cdv)) → sp vs H Q E →
      ∃ t, PSs (cxOf CX P w K mg base N qual scope f cdv A outer s H E) body t ∧ t { nx := fun _ H' => Q .non H', rt := Q } (start N vs) H) :
    FnOk P w K mg base CX (k + 1) f (PySem.W.fnOf name qual params body scope dV kV doc pm an cdv ct) ps sp := by
  refine ⟨len, fun A outer s H args us vs Q E hr e0 hb r hsp => ?_⟩
  have hl := len _ _ _ _ hsp
  have KX : K.In s.heap := e0.mod.kin.keeps fun b o e => (e0.bs b o e).1
  have lim : s.heap.NoLimit := e0.mod.nolimit.keeps fun b o e => (e0.bs b o e).1
  have hkind : ∀ y ∈ ps.zip us, scope.names.lookup y.1 = some .local ∨ (scope.names.lookup y.1 = some .cell ∧ ((cellsFrom (s.heap.objs.size + 1) scope.names []).lookup y.1).isSome = true) := fun ⟨n, v⟩ hy => by
    rcases S.par n (List.of_mem_zip hy).1 with q | q
    · exact .inl q
    · exact .inr ⟨q, PySem.W.cellsFrom_some _ _ _ (.inl q)⟩
  refine codeAny_call_function hr.depth (KX _ _ lk) rfl S.co S.gen rfl (PySem.W.codeRec_of KX hcd) (hb _ _ _ _ ?_)
  refine wpAny_newFunctionEnv_cells S.kind hkind fun env he s1 x => ?_
  subst he
  refine ⟨lim.keeps x.toInCall.keep, codeAny_func ?_⟩
  obtain ⟨t, ht, hq⟩ := hbody A outer s H vs Q E (hr.deeper _) hsp
  have I : Inv (cxOf CX P w K mg base N qual scope f cdv A outer s H E) [] (start N vs) H s1 := inv_start S hr.hd e0 hl r x
  refine wpAny_mono (ht [] s1 (start N vs) H _ I hq) (fun fl s' hs => ?_) fun e s' hs => hs
  have fin : ∀ {σ' : St} {H' : Hp} {v : V} {u : Value}, Inv (cxOf CX P w K mg base N qual scope f cdv A outer s H E) [] σ' H' s' → RelV v u → Q v H' → CE outer P w H s Q u s' :=
    fun {σ' H' v u} J rv q => ⟨v, H', J.os, J.bare, J.base, J.hok, rv, q⟩
  cases fl with
  | ret u =>
    obtain ⟨v, σ', H', J, rv, q⟩ := hs
    exact fin J rv q
  | next =>
    obtain ⟨σ', H', J, q⟩ := hs
    exact fin (v := V.non) (u := Value.none) J rfl q
  | brk =>
    obtain ⟨_, _, _, q⟩ := hs
    exact False.elim q
  | cont =>
    obtain ⟨_, _, _, q⟩ := hs
    exact False.elim q
end L2

namespace L2
open PySem PySem.Spec PyProof.Rows
section
variable {X : Cx} {x : Str} {p pos : Pos} {e : Expr} {es : List Expr} {t : TA} {id T : String} {r : List V → Hp → VK → Prop}

def tCB (r : List V → Hp → VK → Prop) (t : TA) : TE := fun σ H Q => t σ H fun vs H1 => r vs H1 Q
theorem pe_callB (hc : CallR X (.builtin id) r) (hg : Gl X x) (hm : X.mg x = none) (hv : bootBuiltins x = some (.builtin id)) (ha : PA X (e :: es) t) (hn : x ≠ "__name__" := by decide) (hdb : (x == ("__debug__" : Str)) = false := by decide)
    (he : starEach (e :: es) X.env = (false, eval e X.env) :: starEach es X.env := by rfl) (hpl : (backTo pos (starEach es X.env)).any (·.1) = false := by rfl) : PE X (.Call (.Name x p) (e :: es) [] pos) (tCB r t) := by
  intro pins s σ H Q I h
  refine wpAny_Call_Name_kw (ld_blt I hg hm hv ?_ hn hdb)
  exact PyProof.Rows.callWith_builtin1 (thn (ha pos pins s σ H _ I h) fun us s1 ⟨vs, H1, I1, r1, q1⟩ => hc pins s1 σ H1 vs us Q I1 r1 q1) he hpl
theorem pe_callTy (hc : CallR X (.type T) r) (hg : Gl X x) (hm : X.mg x = none) (hv : bootBuiltins x = some (.type T)) (ha : PA X (e :: es) t) (hn : x ≠ "__name__" := by decide) (hdb : (x == ("__debug__" : Str)) = false := by decide)
    (he : starEach (e :: es) X.env = (false, eval e X.env) :: starEach es X.env := by rfl) (hpl : (backTo pos (starEach es X.env)).any (·.1) = false := by rfl) : PE X (.Call (.Name x p) (e :: es) [] pos) (tCB r t) := by
  intro pins s σ H Q I h
  refine wpAny_Call_Name_kw (ld_blt I hg hm hv ?_ hn hdb)
  exact PyProof.Rows.callWith_type1 (thn (ha pos pins s σ H _ I h) fun us s1 ⟨vs, H1, I1, r1, q1⟩ => hc pins s1 σ H1 vs us Q I1 r1 q1) he hpl
end
end L2

namespace HT
open PySem PyProof.Rows

def lexLt : List Int → List Int → Bool
  | [], [] => false
  | [], _ :: _ => true
  | _ :: _, [] => false
  | x :: xs, y :: ys => if x = y then lexLt xs ys else decide (x < y)
section
open PySem.SeqAt
open PySem.AutoSeq1 (wpAny_loadPart')
open PySem.MeetsSeq PySem.MeetsSeq2 PySem.MeetsSeq3

end

section
variable {prog : Program} {w : World} {A : Around} {E : Value → Shared → Prop} {s : Shared}

/-! ### t[a:b], not the whole -/
def sIx (n d : Nat) : Option Int → Nat
  | none => d
  | some v => if v < 0 then (v + (n : Int)).toNat else min v.toNat n
theorem sIx_none (n d : Nat) : sIx n d none = d := rfl
theorem sIx_nat (n d k : Nat) : sIx n d (some (k : Int)) = min k n := by
  show (if (k : Int) < 0 then ((k : Int) + (n : Int)).toNat else min (k : Int).toNat n) = min k n
  rw [if_neg (by omega), Int.toNat_natCast]
end
end HT

namespace L2
open PySem PySem.Spec PyProof.Rows

/-! ### the parts of a slice -/
abbrev TO := St → Hp → (Option Int → Hp → Prop) → Prop
def PO (X : Cx) (e : Option Expr) (t : TO) : Prop :=
  ∀ (pins : List (Addr × Obj)) (s : Shared) (σ : St) (H : Hp) (Q : Option Int → Hp → Prop), Inv X pins σ H s → t σ H Q →
    wpAny (model X.prog X.w) X.A (evalPart e X.env) (fun u s' => ∃ o H', Inv X pins σ H' s' ∧ IsPart u o ∧ Q o H') X.xe s
def tNoPart : TO := fun _ H Q => Q none H
def tPart (t : TE) : TO := fun σ H Q => t σ H fun x H1 => ∃ i, x = .int i ∧ Q (some i) H1

section
variable {X : Cx} {e : Expr} {te : TE} {lo hi : Option Expr} {tl th : TO} {pos p2 : Pos}

theorem po_none : PO X none tNoPart := by
  intro pins s σ H Q I h
  rw [evalPart_none]
  exact wpAny_pure ⟨none, H, I, .none, h⟩
theorem po_some (h : PE X e te) : PO X (some e) (tPart te) := by
  intro pins s σ H Q I hw
  rw [evalPart_some]
  refine thn (h pins s σ H _ I hw) fun u s1 ⟨x, H1, I1, r1, q1⟩ => ?_
  obtain ⟨i, rfl, q⟩ := q1
  obtain ⟨t, rfl⟩ := r1
  exact ⟨some i, H1, I1, .int i t, q⟩

def SlR (X : Cx) (r : V → Option Int → Option Int → Hp → VK → Prop) : Prop :=
  ∀ (pins : List (Addr × Obj)) (s : Shared) (σ : St) (H : Hp) (x : V) (v vl vu : Value) (lo hi : Option Int) (sl : Addr) (Q : VK), Inv X pins σ H s → RelV x v → s.heap.IsSliceOf sl vl vu .none → IsPart vl lo → IsPart vu hi → r x lo hi H Q →
    ∃ T id, typeLookup (.type T) "__getitem__" = pure (some (.builtin id)) ∧ s.TypeIs v T ∧ wpAny (model X.prog X.w) X.A (getItem v (.ref sl)) (EP X pins σ Q) X.xe s
def tSl (r : V → Option Int → Option Int → Hp → VK → Prop) (te : TE) (tl th : TO) : TE := fun σ H Q => te σ H fun x H1 => tl σ H1 fun l H2 => th σ H2 fun u H3 => r x l u H3 Q
theorem pe_slice {r : V → Option Int → Option Int → Hp → VK → Prop} (hr : SlR X r) (he : PE X e te) (hl : PO X lo tl) (hu : PO X hi th) : PE X (.Subscript e (.Slice lo hi none p2) pos) (tSl r te tl th) := by
  intro pins s σ H Q I h
  refine Subscript_ (thn (he pins s σ H _ I h) fun v s1 ⟨x, H1, I1, r1, q1⟩ => ?_)
  refine wpAny_Slice (thn (hl pins s1 σ H1 _ I1 q1) fun vl s2 ⟨l, H2, I2, pl, q2⟩ => thn (hu pins s2 σ H2 _ I2 q2) fun vu s3 ⟨u, H3, I3, pu, q3⟩ => ?_)
  rw [evalPart_none]
  refine wpAny_pure ?_
  have I4 : Inv X pins σ H3 { s3 with heap := s3.heap.push { cls := .type "slice", data := .fields #[vl, vu, .none] } } := I3.kept (t' := s3.toks) fun b ob q => Heap.get?_push_of_some _ q
  obtain ⟨T, id, hT, ht, hg⟩ := hr pins { s3 with heap := s3.heap.push { cls := .type "slice", data := .fields #[vl, vu, .none] } } σ H3 x v vl vu l u s3.heap.objs.size Q I4 r1 (Heap.IsSliceOf.new ..) pl pu q3
  show wpAny (model X.prog X.w) X.A (subscriptTail e (.Slice lo hi none p2) v (.ref s3.heap.objs.size)) (EP X pins σ Q) X.xe { s3 with heap := s3.heap.push { cls := .type "slice", data := .fields #[vl, vu, .none] } }
  exact tail_any (ops := [.ref s3.heap.objs.size, v]) ht hT hg (by with_unfolding_all rfl)

def cutV (xs : List V) (lo hi : Option Int) : List V := (xs.drop (HT.sIx xs.length 0 lo)).take (HT.sIx xs.length xs.length hi - HT.sIx xs.length 0 lo)
theorem cutV_length (xs : List V) (lo hi : Option Int) : (cutV xs lo hi).length ≤ xs.length := by
  unfold cutV
  rw [List.length_take, List.length_drop]
  omega
def rSlT (K : PySem.W.Frag) : V → Option Int → Option Int → Hp → VK → Prop := fun x lo hi H Q => ∃ a xs, x = .ref a ∧ SqT K H a xs ∧
  ¬ (HT.sIx xs.length 0 lo = 0 ∧ HT.sIx xs.length xs.length hi = xs.length) ∧ ∀ p, H p = none → Q (.ref p) (upd H p (.tup (cutV xs lo hi)))
/-! ### t < u, t + u -/
def rLtT (K : PySem.W.Frag) : R2 := fun x y H Q => ∃ a b ns ms, x = .ref a ∧ y = .ref b ∧ SqT K H a (ns.map V.int) ∧ SqT K H b (ms.map V.int) ∧ Q (.bl (HT.lexLt ns ms)) H
def rCatT (K : PySem.W.Frag) : R2 := fun x y H Q => ∃ a b xs ys, x = .ref a ∧ y = .ref b ∧ SqT K H a xs ∧ SqT K H b ys ∧ xs ≠ [] ∧ xs.length + ys.length ≤ sizeLine ∧
  (ys = [] → Q (.ref a) H) ∧ (ys ≠ [] → ∀ p, H p = none → Q (.ref p) (upd H p (.tup (xs ++ ys))))
end
end L2

namespace L2
open PySem PySem.Spec PyProof.Rows

/-! ### places -/
def ixN (n : Nat) (i : Int) : Option Nat := if 0 ≤ i then (if i < n then some i.toNat else none) else if -(n : Int) ≤ i then some (i + n).toNat else none
def atI {α : Type} (xs : List α) (i : Int) : Option α := (ixN xs.length i).bind fun j => xs[j]?
theorem ixN_seq {n : Nat} {i : Int} {j : Nat} (h : ixN n i = some j) : seqIndex? i n = some j ∧ j < n ∧ -(n : Int) ≤ i ∧ i < n := by
  unfold ixN at h
  by_cases h0 : 0 ≤ i
  · rw [if_pos h0] at h
    by_cases h1 : i < n
    · rw [if_pos h1] at h
      have e : i.toNat = j := Option.some.inj h
      exact ⟨by rw [seqIndex_of h0 h1, e], by omega, by omega, h1⟩
    · rw [if_neg h1] at h; cases h
  · rw [if_neg h0] at h
    by_cases h1 : -(n : Int) ≤ i
    · rw [if_pos h1] at h
      have e : (i + n).toNat = j := Option.some.inj h
      exact ⟨by rw [seqIndex_neg (by omega) h1, e], by omega, h1, by omega⟩
    · rw [if_neg h1] at h; cases h
theorem atI_get {α : Type} {xs : List α} {i : Int} {v : α} (h : atI xs i = some v) : ∃ j, seqIndex? i xs.length = some j ∧ xs[j]? = some v ∧ j < xs.length ∧ -(xs.length : Int) ≤ i ∧ i < xs.length := by
  unfold atI at h
  cases e : ixN xs.length i with
  | none => rw [e] at h; cases h
  | some j =>
    rw [e] at h
    obtain ⟨h1, h2, h3, h4⟩ := ixN_seq e
    exact ⟨j, h1, h, h2, h3, h4⟩
theorem atI_nat {α : Type} {xs : List α} {j : Nat} {v : α} (h : xs[j]? = some v) : atI xs (j : Int) = some v := by
  have hj : j < xs.length := (List.getElem?_eq_some_iff.mp h).1
  have e : ixN xs.length (j : Int) = some j := by
    unfold ixN
    rw [if_pos (by omega), if_pos (by omega)]; simp
  unfold atI; rw [e]; exact h
/-! ### what may be subscripted -/
def PlainIx (b : Expr) : Prop := ∀ o i, subscripted b false o i = operate [o, i] (getItem o i)
def IxR (X : Cx) (r : R2) : Prop :=
  ∀ (value slice : Expr) (pins : List (Addr × Obj)) (s : Shared) (σ : St) (H : Hp) (x y : V) (v u : Value) (Q : VK), Inv X pins σ H s → RelV x v → RelV y u → r x y H Q →
    subscripted slice false v u = operate [v, u] (getItem v u) → wpAny (model X.prog X.w) X.A (subscriptTail value slice v u) (EP X pins σ Q) X.xe s
def MtR (X : Cx) (id : String) (r : V → List V → Hp → VK → Prop) : Prop :=
  ∀ (pins : List (Addr × Obj)) (s : Shared) (σ : St) (H : Hp) (x : V) (xs : List V) (v : Value) (us : List Value) (Q : VK), Inv X pins σ H s → RelV x v → Vals xs us → r x xs H Q →
    wpAny (model X.prog X.w) X.A (call (.builtin id) (v :: us)) (EP X pins σ Q) X.xe s
section
variable {X : Cx} {a b : Expr} {ta tb : TE} {pos : Pos}
theorem pe_ix {r : R2} (hr : IxR X r) (ha : PE X a ta) (hb : PE X b tb) (hs : PlainIx b) : PE X (.Subscript a b pos) (tOp r ta tb) := by
  intro pins s σ H Q I h
  exact Subscript_ (binT ha hb I h fun v u s2 x y H2 I2 rx ry q => hr a b pins s2 σ H2 x y v u Q I2 rx ry q (hs _ _))

def rIxL (K : PySem.W.Frag) : R2 := fun x y H Q => ∃ p xs i v, x = .ref p ∧ y = .int i ∧ SqL K H p xs ∧ atI xs i = some v ∧ Q v H
def rIxT (K : PySem.W.Frag) : R2 := fun x y H Q => ∃ p xs i v, x = .ref p ∧ y = .int i ∧ SqT K H p xs ∧ atI xs i = some v ∧ Q v H
def rIxS : R2 := fun x y H Q => ∃ z i c, x = .str z ∧ y = .int i ∧ z.length ≤ sizeLine ∧ atI z.cps.toList i = some c ∧ Q (.str ⟨#[c]⟩) H
theorem ix_list : IxR X (rIxL X.K) := by
  intro value slice pins s σ H x y v u Q I rx ry h hs
  obtain ⟨p, xs, i, z, rfl, rfl, hq, he, q⟩ := h
  cases rx
  obtain ⟨t, rfl⟩ := ry
  obtain ⟨its, r, pl, hz⟩ := I.list hq
  obtain ⟨j, h1, h2, h3, h4, h5⟩ := atI_get he
  obtain ⟨w, ew, rw'⟩ := r.get h2
  have hl := r.length
  have hn := line63
  have fin : EP X pins σ Q w s := ⟨z, H, I, rw', q⟩
  by_cases h0 : 0 ≤ i
  · have hj : i.toNat = j := by
      rw [seqIndex_of h0 h5] at h1
      exact Option.some.inj h1
    exact item_listR pl.isList h0 (by omega) (by rw [hj]; simpa using ew) fin hs
  · have hj : (i + (its.toArray.size : Int)).toNat = j := by
      rw [seqIndex_neg (by omega) h4] at h1
      rw [List.size_toArray, ← hl]
      exact Option.some.inj h1
    exact subscriptTail_builtinR (x := w) pl.isList.typeIs slot_list_getitem.lookup
      (wpAny_getItem_list_neg (Q := fun r s' => r = w ∧ EP X pins σ Q r s') pl.isList (by omega) (by rw [List.size_toArray] <;> omega) (by omega) (by rw [hj]; simpa using ew) ⟨rfl, fin⟩) hs
theorem ix_tup : IxR X (rIxT X.K) := by
  intro value slice pins s σ H x y v u Q I rx ry h hs
  obtain ⟨p, xs, i, z, rfl, rfl, hq, he, q⟩ := h
  cases rx
  obtain ⟨t, rfl⟩ := ry
  obtain ⟨its, r, pl, hz⟩ := I.tuple hq
  obtain ⟨j, h1, h2, h3, h4, h5⟩ := atI_get he
  obtain ⟨w, ew, rw'⟩ := r.get h2
  have hl := r.length
  have hn := line63
  have fin : EP X pins σ Q w s := ⟨z, H, I, rw', q⟩
  exact subscriptTail_builtinR (x := w) pl.typeIs slot_tuple_getitem.lookup
    (getItem_tuple (j := j) (Q := fun r s' => r = w ∧ EP X pins σ Q r s') pl (by omega) (by omega) (by rw [List.size_toArray, ← hl]; exact h1) (by simpa using ew) ⟨rfl, fin⟩) hs
def rIx (K : PySem.W.Frag) : R2 := fun x y H Q => rIxL K x y H Q ∨ rIxT K x y H Q ∨ rIxS x y H Q
/-! ### xs[i] = v, any sign -/
theorem mapSeq_set (its : List Value) (n j : Nat) (u : Value) : Obj.mapSeq (·.setIfInBounds j u) { cls := .type "list", data := .seq its.toArray n } = { cls := .type "list", data := .seq (its.set j u).toArray n } := by
  simp [Obj.mapSeq]
theorem Inv.lst {pins : List (Addr × Obj)} {σ : St} {H : Hp} {s : Shared} {p : Addr} {xs : List V} (I : Inv X pins σ H s) (h : H p = some (.lst xs)) :
    ∃ (its : List Value) (n : Nat), Vals xs its ∧ s.heap.get? p = some { cls := .type "list", data := .seq its.toArray n } ∧ xs.length ≤ sizeLine := by
  obtain ⟨z, its, n, r, e⟩ := I.hok p _ h
  exact ⟨its, n, r, e, z⟩
theorem Inv.lstUpd {pins : List (Addr × Obj)} {σ : St} {H : Hp} {s : Shared} {p : Addr} {xs ys : List V} {its its' : List Value} {n n' : Nat} {f : Obj → Obj} (I : Inv X pins σ H s) (h : H p = some (.lst xs))
    (ho : s.heap.get? p = some { cls := .type "list", data := .seq its.toArray n }) (hf : f { cls := .type "list", data := .seq its.toArray n } = { cls := .type "list", data := .seq its'.toArray n' }) (r : Vals ys its') (hz : ys.length ≤ sizeLine) (t : Nat) :
    Inv X pins σ (upd H p (.lst ys)) { s with heap := s.heap.update p f, toks := t } := by
  have e : (s.heap.update p f).get? p = some { cls := .type "list", data := .seq its'.toArray n' } := by
    rw [Heap.get?_update_self f ho (by rw [hf] <;> rfl), hf]
  refine I.write (x := p) (e := p) (by rw [h]; trivial) (.inl rfl) (fun b u hb q => (Heap.get?_update_other _ _ (Ne.symm hb)).trans q) ⟨_, e⟩ ?_
  exact ⟨hz, its', n', r, e⟩
def rSetL : V → V → V → Hp → (Hp → Prop) → Prop := fun o i v H Q => ∃ p xs k j, o = .ref p ∧ i = .int k ∧ H p = some (.lst xs) ∧ ixN xs.length k = some j ∧ Q (upd H p (.lst (xs.set j v)))
theorem set_list : PSet X rSetL := by
  intro pins s σ H o i v ov iv u Q I ro ri rv h
  obtain ⟨p, xs, k, j, rfl, rfl, hp, hj, q⟩ := h
  cases ro
  obtain ⟨t, rfl⟩ := ri
  obtain ⟨its, n, r, ho, hz⟩ := I.lst hp
  obtain ⟨h1, h2, h3, h4⟩ := ixN_seq hj
  have hl := r.length
  have hn := line63
  have I' : Inv X pins σ (upd H p (.lst (xs.set j v))) { s with heap := s.heap.update p (Obj.mapSeq (·.setIfInBounds j u)) } :=
    I.lstUpd hp ho (mapSeq_set its n j u) (r.set rv j) (by rw [List.length_set]; exact hz) s.toks
  by_cases h0 : 0 ≤ k
  · have hk : k.toNat = j := by
      rw [seqIndex_of h0 h4] at h1
      exact Option.some.inj h1
    exact PySem.W.ki_setAt ho h0 (by omega) (by rw [List.size_toArray, ← hl]; exact h4) (by rw [hk]; exact ⟨_, I', q⟩)
  · have hk : (k + (its.toArray.size : Int)).toNat = j := by
      rw [seqIndex_neg (by omega) h3] at h1
      rw [List.size_toArray, ← hl]
      exact Option.some.inj h1
    exact PySem.W.ki_setBack ho (by omega) (by rw [List.size_toArray, ← hl]; exact h3) (by omega) (by rw [hk]; exact ⟨_, I', q⟩)

/-! ### slices -/
theorem slice_bounds (lo hi : Option Int) (n : Nat) : (sliceBounds lo hi none n).1 = ((HT.sIx n 0 lo : Nat) : Int) ∧ (sliceBounds lo hi none n).2.1 = ((HT.sIx n n hi : Nat) : Int) ∧ (sliceBounds lo hi none n).2.2 = 1 := by
  refine ⟨?_, ?_, rfl⟩
  · cases lo with
    | none => simp [sliceBounds, HT.sIx]
    | some i =>
      simp only [sliceBounds, HT.sIx, Option.getD_none, show (1 : Int) > 0 by decide, if_true]
      by_cases h : i < 0
      · simp only [h, if_true] <;> omega
      · simp only [h, if_false] <;> omega
  · cases hi with
    | none => simp [sliceBounds, HT.sIx]
    | some i =>
      simp only [sliceBounds, HT.sIx, Option.getD_none, show (1 : Int) > 0 by decide, if_true]
      by_cases h : i < 0
      · simp only [h, if_true] <;> omega
      · simp only [h, if_false] <;> omega
theorem slicePick_cut (its : List Value) (lo hi : Option Int) : slicePick its.toArray lo hi none = ((its.drop (HT.sIx its.length 0 lo)).take (HT.sIx its.length its.length hi - HT.sIx its.length 0 lo)).toArray := by
  obtain ⟨h1, h2, h3⟩ := slice_bounds lo hi its.toArray.size
  unfold slicePick
  rw [h1, h2, h3]
  simp only [sliceRange_one, pick_run, List.size_toArray] <;> rfl
def rSlL (K : PySem.W.Frag) : V → Option Int → Option Int → Hp → VK → Prop := fun x lo hi H Q => ∃ a xs, x = .ref a ∧ SqL K H a xs ∧ ∀ p, H p = none → Q (.ref p) (upd H p (.lst (cutV xs lo hi)))
theorem sl_list : SlR X (rSlL X.K) := by
  intro pins s σ H x v vl vu lo hi sl Q I rx hs pl pu h
  obtain ⟨a, xs, rfl, hx, q⟩ := h
  cases rx
  obtain ⟨its, r, ht, hz⟩ := I.list hx
  have hlen := r.length
  refine ⟨"list", _, slot_list_getitem.lookup, ht.isList.typeIs, ?_⟩
  refine wpAny_getItem_list_slice ht.isList hs pl pu .none (by simp) ?_ (by rw [List.size_toArray] <;> omega)
  rw [slicePick_cut, ← hlen]
  refine ⟨.ref s.heap.objs.size, _, I.laid (t' := s.toks) (o := .lst (cutV xs lo hi)) (fun b ob q => Heap.get?_push_of_some _ q) (Nat.le_refl _) ?_, rfl, q _ (I.hok.fresh (Nat.le_refl _))⟩
  exact ⟨Nat.le_trans (cutV_length xs lo hi) hz, _, 0, (r.drop (HT.sIx xs.length 0 lo)).take (HT.sIx xs.length xs.length hi - HT.sIx xs.length 0 lo), Heap.get?_push_size _ rfl⟩

/-! ### in, not in: flat items -/
def flatV : V → Bool
  | .non => true
  | .bl _ => true
  | .int _ => true
  | .str _ => true
  | _ => false
def eqV : V → V → Bool
  | .non, .non => true
  | .bl a, .bl b => a == b
  | .bl a, .int b => (if a then 1 else 0) == b
  | .int a, .bl b => a == (if b then 1 else 0)
  | .int a, .int b => a == b
  | .str a, .str b => a == b
  | _, _ => false
def eqU (x : V) (u : Value) : Bool := match u with
  | .none => eqV .non x
  | .bool b => eqV (.bl b) x
  | .int i _ => eqV (.int i) x
  | .str z _ => eqV (.str z) x
  | _ => false
def inV (x : V) (xs : List V) : Bool := xs.any fun y => eqV y x
def rIn (K : PySem.W.Frag) (neg : Bool) : R2 := fun x y H Q => ∃ p xs, y = .ref p ∧ (SqL K H p xs ∨ SqT K H p xs) ∧ flatV x = true ∧ xs.all flatV = true ∧ Q (.bl (if neg then !inV x xs else inV x xs)) H
/-! ### len, list(x), tuple(x) of any list or tuple that is read -/
theorem call_len_seq : CallR X (.builtin "len") (fun xs H Q => ∃ p ys, xs = [.ref p] ∧ (SqL X.K H p ys ∨ SqT X.K H p ys) ∧ Q (.int ys.length) H) := by
  intro pins s σ H xs us Q I r h
  obtain ⟨p, ys, rfl, hq, q⟩ := h
  obtain ⟨u, rfl, rx⟩ := vals1 r
  cases rx
  have hn := line63
  rcases hq with hq | hq
  · obtain ⟨its, r', pl, hz⟩ := I.list hq
    have hlen := r'.length
    exact Calls.call_len_list pl.isList (by simp only [List.size_toArray] <;> omega) ⟨.int ys.length, H, I.tok _, ⟨s.toks + 1, by rw [List.size_toArray, hlen]⟩, q⟩
  · obtain ⟨its, r', pl, hz⟩ := I.tuple hq
    have hlen := r'.length
    exact len_tuple pl (by simp only [List.size_toArray] <;> omega) ⟨.int ys.length, H, I.tok _, ⟨s.toks + 1, by rw [List.size_toArray, hlen]⟩, q⟩
theorem call_list_of : CallR X (.type "list") (fun xs H Q => ∃ p ys, xs = [.ref p] ∧ (SqL X.K H p ys ∨ SqT X.K H p ys) ∧ ∀ l, H l = none → Q (.ref l) (upd H l (.lst ys))) := by
  intro pins s σ H xs us Q I r h
  obtain ⟨p, ys, rfl, hq, q⟩ := h
  obtain ⟨u, rfl, rx⟩ := vals1 r
  cases rx
  have fin : ∀ (its : List Value), Vals ys its → ys.length ≤ sizeLine → ∀ (h' : Heap) (c' : Nat), (∀ b o', s.heap.get? b = some o' → h'.get? b = some o') →
      h'.get? s.heap.objs.size = some { cls := .type "list", dict := none, data := .seq its.toArray c', slots := #[] } → EP X pins σ Q (.ref s.heap.objs.size) { s with heap := h' } := fun its r' hz h' c' kp e =>
    ⟨.ref s.heap.objs.size, _, I.laid (t' := s.toks) kp (Nat.le_refl _) (show ObjOk X.prog X.w _ h' _ (.lst ys) from ⟨hz, its, c', r', e⟩), rfl, q _ (I.hok.fresh (Nat.le_refl _))⟩
  rcases hq with hq | hq
  · obtain ⟨its, r', pl, hz⟩ := I.list hq
    have hlen := r'.length
    obtain ⟨o, ho, hc, n, hd⟩ := pl.isList
    exact call_list_seq p (.inl rfl) ho hc hd (fun h' c' kp e => fin its r' hz h' c' kp e) (by simp only [List.size_toArray] <;> omega)
  · obtain ⟨its, r', pl, hz⟩ := I.tuple hq
    have hlen := r'.length
    obtain ⟨o, ho, hc, n, hd⟩ := pl
    exact call_list_seq p (.inr rfl) ho hc hd (fun h' c' kp e => fin its r' hz h' c' kp e) (by simp only [List.size_toArray] <;> omega)
theorem call_tuple_of : CallR X (.type "tuple") (fun xs H Q => ∃ p ys, xs = [.ref p] ∧ ((SqL X.K H p ys ∧ ∀ l, H l = none → Q (.ref l) (upd H l (.tup ys))) ∨ (SqT X.K H p ys ∧ Q (.ref p) H))) := by
  intro pins s σ H xs us Q I r h
  obtain ⟨p, ys, rfl, h⟩ := h
  obtain ⟨u, rfl, rx⟩ := vals1 r
  cases rx
  rcases h with ⟨hq, q⟩ | ⟨hq, q⟩
  · obtain ⟨its, r', pl, hz⟩ := I.list hq
    have hlen := r'.length
    refine call_tuple_list pl.isList (fun h' kp => ?_) (by simp only [List.size_toArray] <;> omega)
    have I1 : Inv X pins σ H { s with heap := h' } := I.kept (t' := s.toks) kp
    have I2 : Inv X pins σ (upd H h'.objs.size (.tup ys)) { s with heap := h'.push { cls := .type "tuple", data := .seq its.toArray } } :=
      I1.laid (t' := s.toks) (fun b o e => Heap.get?_push_of_some _ e) (Nat.le_refl _) (show ObjOk X.prog X.w _ _ _ (.tup ys) from ⟨hz, its, r', IsTup.new _ _⟩)
    exact ⟨.ref h'.objs.size, _, I2, rfl, q _ (I1.hok.fresh (Nat.le_refl _))⟩
  · obtain ⟨its, r', pl, hz⟩ := I.tuple hq
    exact call_tuple_same pl ⟨.ref p, H, I, rfl, q⟩

/-! ### the call of a builtin's method: o.m(..) -/
def tyV (K : PySem.W.Frag) (T : String) (x : V) (H : Hp) : Prop := match x with
  | .str _ => T = "str"
  | .int _ => T = "int"
  | .ref p => (T = "list" ∧ ∃ xs, SqL K H p xs) ∨ (T = "tuple" ∧ ∃ o, K.lookup p = some o ∧ o.cls = .type "tuple" ∧ o.dict = none) ∨
      (T = "dict" ∧ ((∃ kvs, H p = some (.dK kvs)) ∨ ∃ kvs, H p = some (.dT kvs))) ∨ (T = "set" ∧ ∃ S n, H p = some (.set S n))
  | _ => False
theorem tyV_is {pins : List (Addr × Obj)} {σ : St} {H : Hp} {s : Shared} {T : String} {x : V} {v : Value} (I : Inv X pins σ H s) (r : RelV x v) (ty : tyV X.K T x H) :
    s.TypeIs v T ∧ ∀ a, v = .ref a → ∃ ob, s.heap.get? a = some ob ∧ ob.dict = none := by
  cases x with
  | str z =>
    obtain ⟨t, rfl⟩ := r
    cases (show T = "str" from ty)
    exact ⟨typeIs_str s z t, fun _ e => nomatch e⟩
  | int i =>
    obtain ⟨t, rfl⟩ := r
    cases (show T = "int" from ty)
    exact ⟨typeIs_int s i t, fun _ e => nomatch e⟩
  | ref p =>
    cases r
    rcases ty with ⟨rfl, xs, hq⟩ | ⟨rfl, o, hk, hc, hd⟩ | ⟨rfl, hk⟩ | ⟨rfl, S, n, hk⟩
    · obtain ⟨its, _, pl, _⟩ := I.list hq
      refine ⟨pl.isList.typeIs, fun a e => ?_⟩
      cases e
      obtain ⟨o, n, e, c, hd, _⟩ := pl
      exact ⟨o, e, hd⟩
    · refine ⟨⟨o, I.kIn p o hk, hc⟩, fun a e => ?_⟩
      cases e
      exact ⟨o, I.kIn _ o hk, hd⟩
    · have z : ∃ o, s.heap.get? p = some o ∧ o.ExactDict := by
        rcases hk with ⟨kvs, hk⟩ | ⟨kvs, hk⟩
        · obtain ⟨_, _, _, _, o, _, _, e, ex, _⟩ := I.hok p _ hk
          exact ⟨o, e, ex⟩
        · obtain ⟨_, _, _, _, o, _, _, e, ex, _⟩ := I.hok p _ hk
          exact ⟨o, e, ex⟩
      obtain ⟨o, e, ex⟩ := z
      refine ⟨⟨o, e, ex.1⟩, fun a e2 => ?_⟩
      cases e2
      exact ⟨o, e, ex.2.1⟩
    · obtain ⟨o, _, _, _, e, ex, _⟩ := I.hok p _ hk
      refine ⟨⟨o, e, ex.1⟩, fun a e2 => ?_⟩
      cases e2
      exact ⟨o, e, ex.2.1⟩
  | _ => exact False.elim ty
def tBM0 (K : PySem.W.Frag) (T : String) (r : V → List V → Hp → VK → Prop) (to : TE) : TE := fun σ H Q => to σ H fun x H1 => tyV K T x H1 ∧ r x [] H1 Q
def tBM (K : PySem.W.Frag) (T : String) (r : V → List V → Hp → VK → Prop) (to : TE) (t : TA) : TE := fun σ H Q => to σ H fun x H1 => tyV K T x H1 ∧ t σ H1 fun xs H2 => r x xs H2 Q
variable {o e : Expr} {es : List Expr} {to : TE} {t : TA} {name : Str} {apos cpos : Pos} {T id : String} {r : V → List V → Hp → VK → Prop}
theorem pe_bm0 (pa : PlainAttrs T) (slot : Slot T name id) (hty : typeOf (.builtin id) = pure (.type "method_descriptor")) (hm : MtR X id r) (ho : PE X o to)
    (hbase : attributeBase o name X.env (eval o X.env) = eval o X.env := by rfl) (hline : (apos.endLine == cpos.line) = true := by rfl) : PE X (.Call (.Attribute o name apos) [] [] cpos) (tBM0 X.K T r to) := by
  intro pins s σ H Q I h
  refine wpAny_Call_method0_late hbase hline (thn (ho pins s σ H _ I h) fun v s1 ⟨x, H1, I1, r1, ty, q1⟩ => ?_)
  obtain ⟨h1, h2⟩ := tyV_is I1 r1 ty
  exact ⟨T, id, pa, slot, hty, h1, h2, Calls.callWith_builtin rfl (PySem.evalArgs_none (hm pins s1 σ H1 x [] v [] Q I1 r1 .nil q1))⟩
theorem pe_bm (pa : PlainAttrs T) (slot : Slot T name id) (hty : typeOf (.builtin id) = pure (.type "method_descriptor")) (hm : MtR X id r) (ho : PE X o to) (ha : PA X (e :: es) t)
    (hbase : attributeBase o name X.env (eval o X.env) = eval o X.env := by rfl)
    (hfew : ((backTo cpos (starEach (e :: es) X.env)).all (fun x => !x.1) && (backToKw cpos (keywordEach [] X.env)).all (fun x => x.1.isSome)
      && decide ((e :: es).length + ([] : List Keyword).length + (if ([] : List Keyword).isEmpty then 0 else 1) < 30)) = true := by rfl)
    (hline : (apos.endLine == cpos.line) = true := by rfl) (hs : starEach (e :: es) X.env = (false, eval e X.env) :: starEach es X.env := by rfl) (hplain : (backTo cpos (starEach es X.env)).any (·.1) = false := by rfl) :
    PE X (.Call (.Attribute o name apos) (e :: es) [] cpos) (tBM X.K T r to t) := by
  intro pins s σ H Q I h
  refine wpAny_Call_method_late hbase hfew hline rfl (thn (ho pins s σ H _ I h) fun v s1 ⟨x, H1, I1, r1, ty, q1⟩ => ?_)
  obtain ⟨h1, h2⟩ := tyV_is I1 r1 ty
  refine ⟨T, id, pa, slot, hty, h1, h2, ?_⟩
  have hA := ha cpos pins s1 σ H1 _ I1 q1
  rw [hs] at hA ⊢
  refine Calls.callWith_builtin (by show (false || (backTo cpos (starEach es X.env)).any (·.1)) = false; rw [hplain] <;> rfl) (Calls.evalArgs_plain ?_)
  exact thn hA fun us s2 ⟨vs, H2, I2, r2, q2⟩ => hm pins s2 σ H2 x vs v us Q I2 r1 r2 q2
/- xs.append(e), list.index on a module's tuple .. are MtR facts of 06m -/
end
end L2

namespace L2
open PySem PySem.Spec PyProof.Rows

def MtM (X : Cx) (id : String) (r : V → List V → Hp → VK → Prop) : Prop :=
  ∀ (pins : List (Addr × Obj)) (s : Shared) (σ : St) (H : Hp) (x : V) (xs : List V) (v : Value) (us : List Value) (Q : VK), Inv X pins σ H s → RelV x v → Vals xs us → r x xs H Q →
    wpAny (model X.prog X.w) X.A (call (.builtin id) (v :: us)) (EP X pins σ Q) X.xe s

/-! ### lists of values -/
theorem Vals.one : ∀ {x : V} {us : List Value}, Vals [x] us → ∃ u, us = [u] ∧ RelV x u
  | _, _, .cons r .nil => ⟨_, rfl, r⟩
theorem Vals.two : ∀ {x y : V} {us : List Value}, Vals [x, y] us → ∃ u v, us = [u, v] ∧ RelV x u ∧ RelV y v
  | _, _, _, .cons r (.cons q .nil) => ⟨_, _, rfl, r, q⟩
theorem Vals.rep {xs : List V} {us : List Value} (h : Vals xs us) : ∀ k : Nat, Vals (List.replicate k xs).flatten (List.replicate k us).flatten
  | 0 => .nil
  | k + 1 => by
    rw [List.replicate_succ, List.replicate_succ, List.flatten_cons, List.flatten_cons]
    exact Vals.append h (Vals.rep h k)
theorem foldl_rep (its : List Value) : ∀ (k : Nat) (acc : List Value),
    List.foldl (fun x1 x2 => x1 ++ x2) acc.toArray (List.replicate k its.toArray) = (acc ++ (List.replicate k its).flatten).toArray
  | 0, acc => by simp
  | k + 1, acc => by
    have e : acc.toArray ++ its.toArray = (acc ++ its).toArray := by simp
    have e2 : (acc ++ its) ++ (List.replicate k its).flatten = acc ++ (List.replicate (k + 1) its).flatten := by
      rw [List.replicate_succ, List.flatten_cons, List.append_assoc]
    rw [← e2, ← foldl_rep its k (acc ++ its), ← e, List.replicate_succ, List.foldl_cons]

section
variable {X : Cx} {pins : List (Addr × Obj)} {σ : St} {H : Hp} {s : Shared} {l b : Addr} {xs ys zs : List V}

/-! ### the two steps: a tracked list is rewritten, a new list is laid -/
theorem Inv.lset {its its' : List Value} {n : Nat} {f : Array Value → Array Value} {t' : Nat} (I : Inv X pins σ H s) (hH : H l = some (.lst xs))
    (e : s.heap.get? l = some { cls := .type "list", data := .seq its.toArray n }) (hf : f its.toArray = its'.toArray) (hv : Vals ys its') (hz : ys.length ≤ sizeLine) :
    Inv X pins σ (upd H l (.lst ys)) { s with heap := s.heap.update l (Obj.mapSeq f), toks := t' } := by
  have q := PySem.IsL.update e f
  rw [hf] at q
  refine I.write (x := l) (e := l) (by rw [hH]; exact trivial) (.inl rfl) (fun b' u hb hu => (Heap.get?_update_other s.heap (Obj.mapSeq f) (Ne.symm hb)).trans hu) ⟨_, q⟩ ?_
  exact ⟨hz, its', _, hv, q⟩
theorem Inv.lnew {its : List Value} {t' : Nat} (I : Inv X pins σ H s) (hv : Vals ys its) (hz : ys.length ≤ sizeLine) :
    Inv X pins σ (upd H s.heap.objs.size (.lst ys)) { s with heap := s.heap.push { cls := .type "list", data := .seq its.toArray }, toks := t' } :=
  I.laid (fun _ _ q => Heap.get?_push_of_some _ q) (Nat.le_refl _) ⟨hz, its, 0, hv, Heap.get?_push_size _ rfl⟩
theorem Inv.fresh (I : Inv X pins σ H s) : H s.heap.objs.size = none := I.hok.fresh (Nat.le_refl _)
theorem Inv.lstM (I : Inv X pins σ H s) (hH : H l = some (.lst xs)) : xs.length ≤ sizeLine ∧ ∃ (its : List Value) (n : Nat), Vals xs its ∧ xs.length = its.length ∧ s.heap.get? l = some { cls := .type "list", data := .seq its.toArray n } := by
  obtain ⟨z, its, n, r, e⟩ := I.hok l _ hH
  exact ⟨z, its, n, r, r.length, e⟩

theorem notLongL {n : Nat} (h : n ≤ sizeLine) : Builtin.List.listTooLong n = false := by
  unfold Builtin.List.listTooLong
  exact decide_eq_false (by omega)
end

section
variable {X : Cx}

/-! ### methods -/
def rAppend : V → List V → Hp → VK → Prop := fun x vs H Q => ∃ l xs y, x = .ref l ∧ vs = [y] ∧ H l = some (.lst xs) ∧ xs.length < sizeLine ∧ Q .non (upd H l (.lst (xs ++ [y])))
theorem mt_append : MtM X "list.append" rAppend := by
  intro pins s σ H x vs v us Q I rx rv h
  obtain ⟨l, xs, y, rfl, rfl, hH, hz, q⟩ := h
  cases rx
  obtain ⟨u, rfl, ru⟩ := rv.one
  obtain ⟨z, its, n, r, hl, e⟩ := I.lstM hH
  refine call_meets F.slot_list_append ⟨_, e, rfl⟩ F.entry_list_append (F.args_list_append_2 _ _) (PySem.list_append l its.toArray n u (by rw [List.size_toArray]; omega)) ⟨e, ?_⟩
  refine ⟨.non, _, I.lset (its' := its ++ [u]) hH e (by simp) (r.append (.cons ru .nil)) ?_, rfl, q⟩
  rw [List.length_append, List.length_singleton]
  omega

def rExtend : V → List V → Hp → VK → Prop := fun x vs H Q => ∃ l b xs zs, x = .ref l ∧ vs = [.ref b] ∧ H l = some (.lst xs) ∧ H b = some (.lst zs) ∧ xs.length + zs.length ≤ sizeLine ∧ Q .non (upd H l (.lst (xs ++ zs)))
def rPop : V → List V → Hp → VK → Prop := fun x vs H Q => ∃ l xs y, x = .ref l ∧ vs = [] ∧ H l = some (.lst xs) ∧ xs[xs.length - 1]? = some y ∧ Q y (upd H l (.lst xs.dropLast))
def rPopAt : V → List V → Hp → VK → Prop := fun x vs H Q => ∃ l xs i k y, x = .ref l ∧ vs = [.int i] ∧ H l = some (.lst xs) ∧ -(2 ^ 63) ≤ i ∧ i < 2 ^ 63 ∧ seqIndex? i xs.length = some k ∧ xs[k]? = some y ∧ Q y (upd H l (.lst (xs.eraseIdx k)))
def rReverse : V → List V → Hp → VK → Prop := fun x vs H Q => ∃ l xs, x = .ref l ∧ vs = [] ∧ H l = some (.lst xs) ∧ Q .non (upd H l (.lst xs.reverse))
def rClear : V → List V → Hp → VK → Prop := fun x vs H Q => ∃ l xs, x = .ref l ∧ vs = [] ∧ H l = some (.lst xs) ∧ Q .non (upd H l (.lst []))
/-! ### list + list, list += list, list * int -/
def rCat : R2 := fun x y H Q => ∃ l b xs zs, x = .ref l ∧ y = .ref b ∧ H l = some (.lst xs) ∧ H b = some (.lst zs) ∧ xs.length + zs.length ≤ sizeLine ∧ ∀ p, H p = none → Q (.ref p) (upd H p (.lst (xs ++ zs)))
theorem op_cat : OpR X (binaryOp .Add) rCat := by
  intro pins s σ H x y v u Q I rx ry h
  obtain ⟨l, b, xs, zs, rfl, rfl, hH, hB, hz, q⟩ := h
  cases rx
  cases ry
  obtain ⟨z, its, n, r, hl, e⟩ := I.lstM hH
  obtain ⟨z2, its2, n2, r2, hl2, e2⟩ := I.lstM hB
  refine PySem.P.add_list e e2 ?_ (by rw [List.size_toArray, List.size_toArray]; omega)
  have ea : its.toArray ++ its2.toArray = (its ++ its2).toArray := by simp
  rw [ea]
  exact ⟨.ref _, _, I.lnew (t' := s.toks) (r.append r2) (by rw [List.length_append]; omega), rfl, q _ I.fresh⟩
def rRep : R2 := fun x y H Q => ∃ l k xs, x = .ref l ∧ y = .int k ∧ H l = some (.lst xs) ∧ -(2 ^ 63) ≤ k ∧ k < 2 ^ 63 ∧ xs.length * k.toNat ≤ sizeLine ∧
  ∀ p, H p = none → Q (.ref p) (upd H p (.lst (List.replicate k.toNat xs).flatten))
theorem len_rep {α : Type} (xs : List α) (k : Nat) : (List.replicate k xs).flatten.length = k * xs.length := by
  induction k with
  | zero => simp
  | succ k ih => rw [List.replicate_succ, List.flatten_cons, List.length_append, ih, Nat.succ_mul, Nat.add_comm]
theorem op_rep : OpR X (binaryOp .Mult) rRep := by
  intro pins s σ H x y v u Q I rx ry h
  obtain ⟨l, k, xs, rfl, rfl, hH, h1, h2, hz, q⟩ := h
  cases rx
  obtain ⟨t, rfl⟩ := ry
  obtain ⟨z, its, n, r, hl, e⟩ := I.lstM hH
  have hlen : its.toArray.size * k.toNat ≤ sizeLine := by rw [List.size_toArray, ← hl]; exact hz
  have hcap : ¬ its.toArray.size * k.toNat > (2 ^ 63 - 1) / 8 := by
    have : (sizeLine : Nat) ≤ (2 ^ 63 - 1) / 8 := by decide
    omega
  have hfit : ¬ (!Builtin.List.listFitsIndex k) = true := by
    rw [fitsIndex_both h1 h2]
    exact Bool.false_ne_true
  have hlong : ¬ Builtin.List.listTooLong (its.toArray.size * k.toNat) = true := by
    rw [notLongL hlen]
    exact Bool.false_ne_true
  have hnew : List.foldl (fun x1 x2 => x1 ++ x2) #[] (List.replicate (if its.toArray.isEmpty = true then 0 else k.toNat) its.toArray) = (List.replicate k.toNat its).flatten.toArray := by
    have f0 : ∀ m : Nat, List.foldl (fun x1 x2 => x1 ++ x2) #[] (List.replicate m its.toArray) = (List.replicate m its).flatten.toArray := fun m => by
      have := foldl_rep its m []
      rw [List.nil_append] at this
      exact this
    rw [f0]
    cases its with
    | nil => simp
    | cons a r' => rw [if_neg (by simp)]
  refine wpAny_binaryOp_repeat_ref (T := "list") (U := "int") (by decide) ⟨_, e, rfl⟩ (fun s' => typeIs_int s' k t) noFill_list_mul F.fills_int_mul F.slot_int_rmul repeat_list F.slot_int_index.lookup
    (call_meets F.slot_int_rmul (typeIs_int s k t) F.entry_int_rmul (F.args_int_rmul_2 _ _) (int___rmul___int_list k t l its.toArray n)
      ⟨e, rfl, ⟨_, e, rfl⟩, call_meets F.slot_list_mul ⟨_, e, rfl⟩ F.entry_list_mul (F.args_list_mul_2 _ _) (AutoListH.list___mul___list_int_3 l its.toArray n k t hfit hcap hlong) ⟨e, ?_⟩⟩)
  rw [hnew]
  exact ⟨.ref _, _, I.lnew (t' := s.toks) (r.rep k.toNat) (by rw [len_rep, Nat.mul_comm]; exact hz), rfl, q _ I.fresh⟩

/-! ### del xs[i] -/
end

/-! ### xs[a:b] = ys -/
section
variable {prog : Program} {w : World} {A : Around} {E : Value → Shared → Prop} {s : Shared}
set_option maxRecDepth 100000 in
end

section
variable {X : Cx}
end
end L2

namespace Att
open PySem PySem.W PySem.Calls PyProof.Rows

/-! ### the script -/
theorem ints_of_wellAll {P : Params} {h : Heap} : ∀ (ns : List Int) (vs : List Value), WellAll P h vs (ns.map WData.int) → IntsAre vs ns := by
  intro ns
  induction ns with
  | nil =>
    intro vs w
    rw [List.map_nil] at w
    cases w
    exact .nil
  | cons n ns ih =>
    intro vs w
    rw [List.map_cons] at w
    cases w with
    | cons a b =>
      cases a
      exact .cons _ _ (ih _ b)

theorem script_of {l : OpenLaw} {n : Nat} (hn : l.most = some n) {P : Params} {h : Heap} {args : List WData} {vals : List Value}
    (hpre : l.row.toRowW.claim.pre args = true) (hwl : WellAll P h vals args) :
    ∃ a vs ns, vals = [Value.ref a] ∧ args = [WData.list (ns.map WData.int)] ∧ h.get? a = some { cls := .type "list", data := .seq vs.toArray } ∧ IntsAre vs ns ∧ ns.length ≤ n := by
  have hsh : WShape.hasAll [] args [.list .int] = true := (pre_splitW hpre).1
  have hc : l.pre.holds [] { args := args } = true := (pre_splitW hpre).2
  obtain ⟨d, r, rfl, h1, h2⟩ := hasAllW_cons hsh
  obtain rfl := hasAllW_nil h2
  obtain ⟨xs, rfl, h3⟩ := hasW_list h1
  obtain ⟨ns, rfl⟩ := items_int h3
  have hlen : ns.length ≤ n := by
    unfold OpenLaw.pre at hc
    have h4 : (WTm.not (.lt (.lit (.int (n : Int))) (.len (.arg 0)))).holds [] { args := [.list (ns.map .int)] } = true := by
      have h4 := (holds_andW hc).1
      rw [hn] at h4
      exact h4
    have h5 := condW_of h4 (w_not (w_lt w_lit (w_len_list (w_arg rfl))))
    rw [List.length_map] at h5
    refine Nat.le_of_not_lt fun q => ?_
    have q' : (n : Int) < ((ns.length : Nat) : Int) := by omega
    first
      | (rw [decide_eq_true q'] at h5; exact absurd h5 (by decide))
      | (simp at h5; omega)
  cases hwl with
  | cons w1 w2 =>
    cases w2
    cases w1 with
    | list ho hall => exact ⟨_, _, ns, rfl, rfl, ho, ints_of_wellAll ns _ hall, hlen⟩

theorem post_true (l : OpenLaw) (args : List WData) : l.row.toRowW.claim.post args (.bool true) args = true :=
  postW_of (r := l.row.toRowW) (X := (true == true))
    (show WShape.has [] (.bool true) .bool = true by first | rfl | decide | simp [WShape.has, WShape.arms, WShape.armsAll])
    (show (WTm.eq .res (.lit (.bool true))).value [] { args := args, res := some (.bool true), after := args } = some (.bool (true == true)) from w_eq_bool (w_res rfl) w_lit) rfl

/-! ### the attachment: holds_open's last premise (the goal 'hc' behind k_head) from a wpAny of the law's body -/
theorem attach_call {l : OpenLaw} {n : Nat} {q : Program} {loose : List Str} {XP : (Str → Option Value) → Heap → Prop} {YP : World → Heap → Prop} {d : DefRec}
    (hn : l.most = some n) (hdf : d.params.defaults = [])
    (call : ∀ (w : World) (s₀ s₁ : Shared) (mg mb : Str → Option Value) (fa : Addr) (o : Obj) (pm cd doc : Value) (a : Addr) (vs : List Value) (ns : List Int),
      Ground q loose [] XP w s₀ mg mb s₁.heap → YP w s₁.heap →
      s₁.heap.get? fa = some o → o.data = .func (docDef d.name d.params d.body d.scope pm cd doc) → s₁.heap.CodeRec cd d.name → mg d.name = some (.ref fa) →
      s₁.heap.get? a = some { cls := .type "list", data := .seq vs.toArray } → IntsAre vs ns → ns.length ≤ n → s₁.gens = #[] →
      codeAny (model l.prog w) callerA (.call (.ref fa) ⟨[.ref a], []⟩) (fun r s' => r = .ok (.ret (.bool true)) ∧ OldK s₁.heap s'.heap ∧ s'.os = s₁.os ∧ AllBare s'.gens) s₁) :
    WalkO q loose XP YP l.row.toRowW d [] (fun f vs => PySem.call f vs) := by
  intro w s₀ s₁ mg mb G Y fa o pm cd doc dV kV ho hd hcd hD hmg hg args vals as hpre hlay hrd hwl hlo
  obtain rfl : dV = .none := Dflts.none hD hdf
  obtain rfl : kV = .none := Dflts.noKw hD
  obtain ⟨a, vs, ns, rfl, rfl, hobj, hints, hlen⟩ := script_of hn hpre hwl
  refine enter_call (codeAny_mono (call w s₀ s₁ mg mb fa o pm cd doc a vs ns G Y ho (fd_plain hd) hcd hmg hobj hints hlen hg) fun r s' hq => ?_)
  obtain ⟨rfl, h2, h3, h4⟩ := hq
  exact ⟨.inl ⟨.bool true, .bool true, [], rfl, fun _ => rfl, .bool true, post_true l _, fun _ => ⟨List.Pairwise.nil, fun _ hm => (nomatch hm)⟩⟩, h2, h3, h4⟩

/-! ### rules over ANY heap (no ledger) from facts about the written part K: the library's own take a ledger (News) for what they write -/
section
variable {prog : Program} {w : World} {A : Around} {E : Value → Shared → Prop} {s : Shared} {K : Frag}

/-! the whole heap as the ledger: makes every rule that writes through a ledger a rule over any heap -/
def noObjs (h : Heap) : Heap := { h with objs := #[] }
def ledger (h : Heap) (L d : Addr) : List (Addr × Obj) := (List.range h.objs.size).filterMap fun a => if a = L ∨ a = d then none else (h.get? a).map fun o => (a, o)
end
end Att

namespace L2
open PySem PySem.Spec PyProof.Rows

theorem vals_ints : ∀ {vs : List Value} {ns : List Int}, IntsAre vs ns → Vals (ns.map V.int) vs
  | _, _, .nil => .nil
  | _, _, .cons n t h => .cons ⟨t, rfl⟩ (vals_ints h)

def Only (H : Hp) : Prop := ∀ b, H b = none ∨ ∃ o xs, H b = some (.frz o (.lst xs))

theorem law_call {P : Program} {w : World} {K : PySem.W.Frag} {mg mb : Str → Option Value} {CX : CXT} {k : Nat} {fa a : Addr} {fd : FuncData} {x : Str} {sp : Sp} {s₁ : Shared} {vs : List Value} {ns : List Int}
    (KX : K.In s₁.heap) (hns : s₁.heap.Ns mainGlobals mg) (hb : s₁.heap.Ns builtinsNs mb) (hbb : ∀ x : Str, x ≠ "__name__" → mb x = bootBuiltins x) (hlim : s₁.heap.NoLimit) (hg : s₁.gens = #[])
    (ha : s₁.heap.get? a = some { cls := .type "list", data := .seq vs.toArray }) (hi : IntsAre vs ns) (hl : ns.length ≤ sizeLine) (hr : Room k callerA)
    (F : ∀ base : Heap, K.In base → base.Ns mainGlobals mg → FnOk P w K mg base CX k fa fd [x] sp) (hbind : ∀ (s : Shared) (u : Value), BindsTo s fd ⟨[u], []⟩ [(x, u)])
    (hsp : ∀ H : Hp, Only H → SqL K H a (ns.map V.int) → sp [.ref a] H (fun v _ => v = .bl true) fun _ _ _ => False)
    (hCX : ∀ H e s', CX [] H s₁ (fun _ _ _ => False) e s' → False) :
    codeAny (model P w) callerA (.call (.ref fa) ⟨[.ref a], []⟩) (fun r s' => r = .ok (.ret (.bool true)) ∧ OldK s₁.heap s'.heap ∧ s'.os = s₁.os ∧ AllBare s'.gens) s₁ := by
  have rv := vals_ints hi
  have lenV := hi.length
  -- from an abstract heap in which nothing but the script may be tracked
  have core : ∀ H : Hp, Only H → SqL K H a (ns.map V.int) → HOk P w H s₁.heap → (∀ b, H b ≠ none → b = a) → (H a ≠ none → K.lookup a = none) →
      codeAny (model P w) callerA (.call (.ref fa) ⟨[.ref a], []⟩) (fun r s' => r = .ok (.ret (.bool true)) ∧ OldK s₁.heap s'.heap ∧ s'.os = s₁.os ∧ AllBare s'.gens) s₁ := by
    intro H hO hS hok hA hK
    have base_of : ∀ {b : Addr} {o : Obj}, s₁.heap.get? b = some o → H b = none → (hidT s₁.heap H).get? b = some o := fun e n => hidT_get e n
    have noA : ∀ {b : Addr} {o : Obj} {es : Array DictEntry} {ep : Nat}, s₁.heap.get? b = some o → o.data = .dict es ep → H b = none := fun {b o es ep} e d => by
      cases q : H b with
      | none => rfl
      | some u =>
        have e' : b = a := hA b (by rw [q]; simp)
        subst e'
        rw [ha] at e; cases e
        have d' : Data.seq vs.toArray _ = Data.dict es ep := d
        cases d'
    have nsK : ∀ {b : Addr} {m : Str → Option Value}, s₁.heap.Ns b m → (hidT s₁.heap H).Ns b m := fun {b m} ⟨o, es, ep, e, d, r⟩ => ⟨o, es, ep, base_of e (noA e d), d, r⟩
    have hKb : K.In (hidT s₁.heap H) := fun b o e => base_of (KX b o e) (by
      cases q : H b with
      | none => rfl
      | some u =>
        have e' : b = a := hA b (by rw [q]; simp)
        subst e'
        rw [hK (by rw [q]; simp)] at e; cases e)
    have hM : Mod K mg (hidT s₁.heap H) := ⟨hKb, nsK hns, ⟨mb, nsK hb, hbb⟩, let ⟨mc, h1, h2⟩ := hlim; ⟨mc, nsK h1, h2⟩⟩
    have e0 : Env0 P w K mg (hidT s₁.heap H) callerA [] s₁ H := ⟨rfl, hM, fun b o e => of_hidT e, Nat.le_of_eq (hidT_size _ _), trivial, fun b hb => absurd (show b ∈ ([] : List Addr) from hb) (by simp), hok, .of_eq hg⟩
    refine codeAny_mono ((F _ hKb (nsK hns)).run callerA [] s₁ H ⟨[.ref a], []⟩ [.ref a] [.ref a] _ _ hr e0 (hbind s₁ (.ref a)) (.cons rfl .nil) (hsp H hO hS)) fun r s' h => ?_
    cases r with
    | error e => exact (hCX H e s' h).elim
    | ok fl =>
      cases fl with
      | next => exact False.elim h
      | brk => exact False.elim h
      | cont => exact False.elim h
      | ret u =>
        obtain ⟨v, H', os, bare, un, hok', r', q⟩ := h
        have q' : v = .bl true := q
        subst q'
        obtain rfl : u = Value.bool true := r'
        refine ⟨rfl, OldK.of_keep fun b o e => ?_, os, bare⟩
        cases q : H b with
        | none => exact un.keep b o e q (by intro z; exact absurd (show b ∈ ([] : List Addr) from z) (by simp)) (by simp)
        | some u =>
          rcases hO b with z | ⟨ob, xs, z⟩
          · rw [q] at z; cases z
          · have z2 := un.frzs b ob _ z
            obtain ⟨e1, _⟩ := hok b _ z
            obtain ⟨e2, _⟩ := hok' b _ z2
            rw [e] at e1; cases e1
            exact e2
  cases hk : K.lookup a with
  | some o =>
    -- the script is one of the module's own objects
    have e := KX a o hk
    rw [ha] at e
    cases e
    refine core (fun _ => none) (fun _ => .inl rfl) (.inr ⟨_, vs.toArray, _, hk, rfl, rfl, rfl, by rw [List.size_toArray, lenV]; exact hl, by simpa using rv⟩) (fun b u z => by have z' : (none : Option HO) = some u := z; cases z') (fun b z => absurd rfl z) fun z => absurd rfl z
  | none =>
    refine core (fun b => if b = a then some (.frz { cls := .type "list", data := .seq vs.toArray } (.lst (ns.map V.int))) else none) (fun b => ?_) (.inl (.inr ⟨{ cls := .type "list", data := .seq vs.toArray }, if_pos rfl⟩)) (fun b u z => ?_) (fun b z => ?_) fun _ => hk
    · by_cases hb : b = a
      · exact .inr ⟨_, _, if_pos hb⟩
      · exact .inl (if_neg hb)
    · by_cases hb : b = a
      · have z' := (if_pos hb).symm.trans z
        cases z'
        subst hb
        exact ⟨ha, by rw [List.length_map]; exact hl, vs, _, rv, ha⟩
      · have z' := (if_neg hb).symm.trans z
        cases z'
    · by_cases hb : b = a
      · exact hb
      · exact absurd (if_neg hb) z
end L2

namespace L2
open PySem PySem.Spec PyProof.Rows

abbrev KOf {K : PySem.W.Frag} {h : Heap} (_ : K.In h) : PySem.W.Frag := K

theorem walk_of {l : PySem.W.OpenLaw} {n k : Nat} {q : Program} {loose : List Str} {XP : (Str → Option Value) → Heap → Prop} {YP : World → Heap → Prop} {d : DefRec} {K : Params → PySem.W.Frag} {CX : World → CXT} {sp : World → Sp} {x : Str}
    (hn : l.most = some n) (hn2 : n ≤ sizeLine) (hdf : d.params.defaults = []) (hr : Room k callerA)
    (hY : ∀ (w : World) (h : Heap), YP w h → (K w.params).In h)
    (F : ∀ (w : World) (mg : Str → Option Value) (fa : Addr) (h : Heap), (K w.params).In h → h.Ns mainGlobals mg → mg d.name = some (.ref fa) →
      ∃ fd : FuncData, (∀ (s : Shared) (u : Value), BindsTo s fd ⟨[u], []⟩ [(x, u)]) ∧
        ∀ base : Heap, (K w.params).In base → base.Ns mainGlobals mg → FnOk l.prog w (K w.params) mg base (CX w) k fa fd [x] (sp w))
    (hsp : ∀ (w : World) (H : Hp) (a : Addr) (ns : List Int), ns.length ≤ n → Only H → SqL (K w.params) H a (ns.map V.int) → sp w [.ref a] H (fun v _ => v = .bl true) fun _ _ _ => False)
    (hCX : ∀ (w : World) (H : Hp) (s : Shared) (e : Value) (s' : Shared), CX w [] H s (fun _ _ _ => False) e s' → False) :
    PySem.W.WalkO q loose XP YP l.row.toRowW d [] (fun f vs => PySem.call f vs) := by
  refine Att.attach_call hn hdf fun w s₀ s₁ mg mb fa o pm cd doc a vs ns G Y ho hd hcd hmg hobj hints hlen hg => ?_
  have KX := hY w _ Y
  obtain ⟨fd, hb, hF⟩ := F w mg fa _ KX G.T.g hmg
  exact law_call KX G.T.g G.T.b G.T.builtins G.T.nolimit hg hobj hints (Nat.le_trans hlen hn2) hr hF hb (fun H hO hS => hsp w H a ns hlen hO hS) fun H e s' => hCX w H s₁ e s'
end L2

/- THE LAST THEOREM (shape; LID, My.* are yours):
   My.Adr: a structure of the addresses that your layer names (classes, functions); My.Txt K t: a structure (Prop) of the equations over K;
   My.txt_mk : {K} {implicit addresses ..} (e1 : nsIn K mainGlobals "law" = some (some (.ref f))) (e2 : K.lookup f = some ⟨oc, od, .func (fnOf "law" "law" params body scope dV kV doc pm an cdv ct), sl⟩) (e3 : codeIn K cdv "law" = true) .. : ∃ t, My.Txt K t

set_option maxRecDepth 100000 in
set_option maxHeartbeats 0 in
theorem PySem.Challenge.cw_LID_holds : PySem.Challenge.rw_LID.Holds := by
  w_on; o_law; k_head; (case hw => w_witness2)
  k_fill
  refine L2.walk_of (l := PySem.Challenge.rw_LID) (n := 63) (k := 40) (x := "script") (CX := fun w => ..) (sp := fun _ => My.sp_law) rfl (by decide) rfl ⟨rfl, by decide, by decide⟩ (fun w h Y => PySem.W.kIn_of Y) ?F ?S ?C
  case F =>
    intro w mg fa h KX G hmg
    have T : ∃ t, My.Txt (L2.KOf KX) t := by
      dsimp only [L2.KOf]                          -- K must stand as «<heap const> w.params» for k_is
      refine' My.txt_mk ?e1 ?e2 ?e3 ..
      (case e1 => PySem.W.k_is)                    -- in the order: a name -> its address -> its object -> its parts
      (case e2 => PySem.W.k_is)
      ..
    obtain ⟨t, T⟩ := T
    have e0 := hmg.symm.trans (PySem.W.mg_of KX G T.law)
    cases e0                                       -- fa is the law's own address
    exact ⟨_, fun s u => .of_eq rfl, fun base kb nb => My.law_fn T kb nb⟩     -- if «.of_eq rfl» comes too early: refine' ⟨_, ?b, fun base kb nb => My.law_fn T kb nb⟩; exact fun s u => .of_eq rfl
  case S => exact fun w H a ns hl hO hS => ..
  case C => exact ..
(the tactic k_is has no namespace: write k_is) -/

/-! SHORT WORDS over the layer: a def of the text, its body, what a loop and a test want. -/
namespace L2
open PySem PySem.Spec PyProof.Rows

/-! ### the text by places -/
/-! ### no exception leaves a def -/
abbrev CX0 : CXT := fun _ _ _ _ _ _ => False
abbrev E0 : XK := fun _ _ _ => False
theorem pass0 {X : Cx} : Passes CX0 X E0 := fun _ _ _ _ _ _ _ h => h.elim

/-! ### a def (or method) of the text as it stands behind the top -/
structure Fun (K : PySem.W.Frag) (x qual : Str) (st : Stmt) (f : Addr) (fd : FuncData) : Prop where
  ex : ∃ (oc : Value) (od : Option Addr) (kV doc pm : Value) (an : Option Addr) (cdv ct : Value) (osl : Array (Option Value)),
    fd = PySem.W.fnOf x qual (defArgs st) (defBody st) (defScope st) .none kV doc pm an cdv ct ∧ K.lookup f = some ⟨oc, od, .func fd, osl⟩ ∧ PySem.W.codeIn K cdv qual = true
  kp : PySem.W.keepIn K (.ref f) = true
section
variable {P : Program} {w : World} {K : PySem.W.Frag} {mg : Str → Option Value} {base : Heap}
theorem Fun.ok {x qual : Str} {st : Stmt} {f : Addr} {fd : FuncData} {N ps : List Str} {k : Nat} {sp : Sp} (F : Fun K x qual st f fd) (S : FnScope N ps (defScope st)) (len : ∀ vs H Q E, sp vs H Q E → vs.length = ps.length)
    (hbody : ∀ (cdv : Value) (A : Around) (outer : List Env) (s : Shared) (H : Hp) (vs : List V) (Q : VK) (E : XK), Room k (A.deeper (envOfC qual (defScope st) s.heap.objs.size f cdv)) → sp vs H Q E →
      ∃ t, PSs (cxOf CX0 P w K mg base N qual (defScope st) f cdv A outer s H E).nox (defBody st) t ∧ t { nx := fun _ H' => Q .non H', rt := Q } (start N vs) H) : FnOk P w K mg base CX0 (k + 1) f fd ps sp := by
  obtain ⟨oc, od, kV, doc, pm, an, cdv, ct, osl, rfl, lk, hcd⟩ := F.ex
  refine fn_of lk hcd S len fun A outer s H vs Q E hr hsp => ?_
  obtain ⟨t, h, q⟩ := hbody cdv A outer s H vs Q E hr hsp
  exact ⟨t, h.nox, q⟩
theorem Fun.binds {x qual : Str} {st : Stmt} {f : Addr} {fd : FuncData} {ps : List Str} (F : Fun K x qual st f fd)
    (h : ∀ (kV doc pm : Value) (an : Option Addr) (cdv ct : Value) (us : List Value), us.length = ps.length → bindArgs (PySem.W.fnOf x qual (defArgs st) (defBody st) (defScope st) .none kV doc pm an cdv ct) ⟨us, []⟩ = pure (ps.zip us)) : Binds K fd ps [] := by
  obtain ⟨oc, od, kV, doc, pm, an, cdv, ct, osl, rfl, lk, hcd⟩ := F.ex
  exact .all (h kV doc pm an cdv ct)
theorem fun_mk {x qual : Str} {st : Stmt} {f : Addr} {oc : Value} {od an : Option Addr} {osl : Array (Option Value)} {kV doc pm cdv ct : Value} (l : K.lookup f = some ⟨oc, od, .func (PySem.W.fnOf x qual (defArgs st) (defBody st) (defScope st) .none kV doc pm an cdv ct), osl⟩)
    (c : PySem.W.codeIn K cdv qual = true) (k : PySem.W.keepIn K (.ref f) = true) : Fun K x qual st f (PySem.W.fnOf x qual (defArgs st) (defBody st) (defScope st) .none kV doc pm an cdv ct) := ⟨⟨oc, od, kV, doc, pm, an, cdv, ct, osl, rfl, l, c⟩, k⟩
end
/-! ### expressions in short: the name that stands in the i-th slot -/
section
variable {X : Cx}
theorem pv (i : Nat) {x : Str} {pos : Pos} (hN : X.N[i]? = some x := by rfl) (hv : Vis X.env.scope x := by first | exact Or.inl rfl | exact Or.inr (Or.inl rfl) | exact Or.inr (Or.inr rfl)) (hd : (x == ("__debug__" : Str)) = false := by decide)
    (hcd : (x == ("__classdict__" : Str)) = false := by decide) : PE X (.Name x pos) (tVar i) := pe_var hN hv hd hcd
end

/-! ### tests -/
theorem iteF {A B : Prop} (h : B) : if false = true then A else B := by
  rw [if_neg Bool.false_ne_true]
  exact h
theorem iteT {A B : Prop} (h : A) : if true = true then A else B := by
  rw [if_pos rfl]
  exact h
theorem ite2 {c A B : Prop} [Decidable c] (h1 : c → A) (h2 : ¬ c → B) : if c then A else B := by
  by_cases h : c
  · rw [if_pos h]
    exact h1 h
  · rw [if_neg h]
    exact h2 h
/-! ### heaps -/
def Same (H H' : Hp) : Prop := ∀ b o, H b = some o → H' b = some o
theorem Same.refl (H : Hp) : Same H H := fun _ _ h => h
theorem Same.trans {H H1 H2 : Hp} (a : Same H H1) (b : Same H1 H2) : Same H H2 := fun c o h => b c o (a c o h)
theorem Same.free {H H' : Hp} (e : Same H H') {l : Addr} (h : H' l = Option.none) : H l = Option.none := by
  cases q : H l with
  | none => rfl
  | some o =>
    rw [e l o q] at h
    cases h
theorem Same.seq {K : PySem.W.Frag} {H H' : Hp} {a : Addr} {xs : List V} (e : Same H H') (h : SqL K H a xs) : SqL K H' a xs := by
  rcases h with (h | ⟨o, h⟩) | h
  · exact .inl (.inl (e _ _ h))
  · exact .inl (.inr ⟨o, e _ _ h⟩)
  · exact .inr h

end L2

end
section
open PySem PySem.W PyProof.Rows PySem.Calls PySem.Spec
set_option Elab.async false
open Builtin Builtin.ObjectAttr Builtin.Getset_descriptor
set_option maxRecDepth 100000
set_option maxHeartbeats 4000000
namespace EX
section
variable {prog : Program} {w : World} {A : Around} {E : Value → Shared → Prop} {s : Shared} {K : Frag} {x C D : Addr}
theorem ty {M : Model} {h : Heap} {ox : Obj} (hx : h.get? x = some ox) (hc : ox.cls = .ref C) : Looks M h (typeOf (.ref x)) (.ref C) := hc ▸ (Looks.ld hx).andThen .now
theorem class_get {R : Result → Shared → Prop} {tp : Value} (X : K.In s.heap) (L0 : Looks (model prog w) s.heap (typeOf (.ref x)) (.ref C)) (hm : mroIn K C (.type "object") = some true)
    (h : R (.ok (.ret (.ref C))) s) : codeAny (model prog w) A (.call (.builtin "getset_descriptor.__get__") ⟨[.builtin "object.__class__", .ref x, tp], []⟩) R s := by
  obtain ⟨hh, g, dr, t, os⟩ := s
  have L1 := looks_mroIn (M := model prog w) X hm
  refine codeAny_call_builtin KF.slot_gs.plain KF.entry_gs (KF.slot_gs.check _ _ _ _ _ _ _ _ KF.type_class (KF.args_gs _ _ _) ?_)
  unfold Builtin.«getset_descriptor.__get__» descrGet
  rw [dga_obj]
  refine wpAny_bind (wpAny_pure ?_)
  unfold descrGetter descrCheckInstance descrNameAndClass isInstance
  simp only [KF.owner_class]
  repeat lk
  refine ⟨Code.quiet_builtin _ (by decide +kernel), codeAny_builtin KF.entry_class ?_⟩
  unfold Builtin.«object.__class__» shownTypeOf
  repeat lk
  exact h
theorem look {M : Model} {h : Heap} {a g : Value} {name : Str} (X : K.In h) (ha : findIn K (.ref C) name = some (some a)) (hn : specialIn K a "__get__" = some (some g)) (htk : takesIn K a = some true) :
    Looks M h (Builtin.ObjectAttr.find (.ref x) (.ref C) name) (.bind g a) :=
  (looks_findIn X ha).andThen ((looks_specialIn X hn).andThen ((show Looks M h (Builtin.ObjectAttr.dataDescriptor? (some a) (some g)) (some (g, a)) from (looks_takesIn X htk).andThen .now).andThen (Looks.tag .now)))
theorem check_ga {M : Model} {nameV : Value} {Q : Unit → Shared → Prop} (X : K.In s.heap) (L0 : Looks M s.heap (typeOf (.ref x)) (.ref C)) (hm : mroIn K C (.type "BaseException") = some true) (hq : Q () s) :
    wpAny M A (checkBuiltinCall "BaseException.__getattribute__" ⟨[.ref x, nameV], []⟩) Q E s := by
  obtain ⟨hh, g, dr, t, os⟩ := s
  have L1 := looks_mroIn (M := M) X hm
  have hk : builtinKind "BaseException.__getattribute__" = some .slot := by decide +kernel
  have hsplit : splitId "BaseException.__getattribute__" = some ("BaseException", "__getattribute__") := by decide +kernel
  have ha := F.args_bexc_ga (.ref x) nameV
  simp only [checkBuiltinCall, hk, hsplit]
  refine wpAny_bind ?_
  unfold isInstance
  repeat (first | lk | wp_step)
  exact hq
theorem ga_entry {g a : Value} {tk : Tok} {name : Str} {Q : Fin → Shared → Prop} (L0 : Looks (model prog w) s.heap (typeOf (.ref x)) (.ref C)) (Lf : Looks (model prog w) s.heap (find (.ref x) (.ref C) name) (.bind g a))
    (h : wpAny (model prog w) A (call g [a, .ref x, .ref C]) (fun v s' => Q (.done (.ret v)) s') E s) :
    wpAny (model prog w) A (Builtin.«object.__getattribute__» ⟨[.ref x, .str name tk], []⟩) Q E s := by
  obtain ⟨hh, gg, dr, t, os⟩ := s
  refine wpAny_bind (wpAny_pure (a := (Value.ref x, [Value.str name tk])) ?_)
  refine wpAny_bind (wpAny_pure (a := name) ?_)
  refine wpAny_bind (L0.at ?_)
  refine wpAny_bind (Lf.at ?_)
  show wpAny _ _ (holding [a] (call g [a, .ref x, .ref C]) >>= ret) _ _ _
  exact wpAny_bind (wpAny_holding (wpAny_mono h (fun v s' z => wpAny_pure z) fun _ _ z => z))
theorem class_attr {Q : Option Value → Shared → Prop} (X : K.In s.heap) (L0 : Looks (model prog w) s.heap (typeOf (.ref x)) (.ref C))
    (hga : findIn K (.ref C) "__getattribute__" = some (some (.builtin "BaseException.__getattribute__"))) (hk : findIn K (.ref C) "__getattr__" = some none)
    (ha : findIn K (.ref C) "__class__" = some (some (.builtin "object.__class__"))) (hn : specialIn K (.builtin "object.__class__") "__get__" = some (some (.builtin "getset_descriptor.__get__")))
    (htk : takesIn K (.builtin "object.__class__") = some true) (hm : mroIn K C (.type "object") = some true) (hb : mroIn K C (.type "BaseException") = some true)
    (h : Q (some (.ref C)) { s with toks := s.toks + 1 }) : wpAny (model prog w) A (getAttr? (.ref x) "__class__") Q E s := by
  obtain ⟨hh, g, d, t, os⟩ := s
  have L1 := looks_findIn (M := model prog w) X hga
  have L2 := looks_findIn (M := model prog w) X hk
  have Lf := look (M := model prog w) (x := x) X ha hn htk
  have hx2 : (Value.builtin "BaseException.__getattribute__" == Value.builtin "object.__getattribute__") = false := by decide +kernel
  unfold getAttr? getAttrBy? getAttrBy
  refine wpAny_bind (wpAny_mkText (wpAny_bind (wpAny_attempt (wpAny_holding (wpAny_bind (L0.at (wpAny_bind (L1.at ?_))))))))
  dsimp only
  rw [if_neg (by rw [hx2, Bool.and_false]; exact Bool.false_ne_true)]
  unfold getAttrByItsOwn hookBefore
  refine wpAny_bind (L2.at ?_)
  refine wpAny_bind (wpAny_attempt (wpAny_holding ?_))
  unfold callGetattribute boundAndCalled
  rw [if_neg (by decide)]
  rw [PySem.F.attr_ValueError.ga.bind (.ref x)]
  refine wpAny_bind (wpAny_pure (wpAny_call ?_))
  refine codeAny_call_builtin PySem.F.attr_ValueError.ga.plain F.entry_bexc_ga (check_ga X L0 hb ?_)
  refine ga_entry L0 Lf ?_
  refine wpAny_call (class_get X L0 hm ?_)
  exact handed_on rfl (wpAny_pure h)
theorem nested {c : Value} {dep : Int} {tk : Tok} {Q : Fin → Shared → Prop} (X : K.In s.heap) (L0 : Looks (model prog w) s.heap (typeOf (.ref x)) (.ref D))
    (hga : findIn K (.ref D) "__getattribute__" = some (some (.builtin "BaseException.__getattribute__"))) (hk : findIn K (.ref D) "__getattr__" = some none)
    (ha : findIn K (.ref D) "__class__" = some (some (.builtin "object.__class__"))) (hn : specialIn K (.builtin "object.__class__") "__get__" = some (some (.builtin "getset_descriptor.__get__")))
    (htk : takesIn K (.builtin "object.__class__") = some true) (hm : mroIn K D (.type "object") = some true) (hb : mroIn K D (.type "BaseException") = some true)
    (hty : Looks (model prog w) s.heap (typeOf c) (.type "type")) (his : Looks (model prog w) s.heap (isType c) true) (hisD : Looks (model prog w) s.heap (isType (.ref D)) true)
    (hne : (Value.ref D == c) = false) (hsub : Looks (model prog w) s.heap (isSubtype (.ref D) c) false) (h : Q (.done (.ret (.bool false))) { s with toks := s.toks + 1 }) :
    wpAny (model prog w) A (Builtin.«isinstance.nested» ⟨[.ref x, c, .int dep tk], []⟩) Q E s := by
  obtain ⟨h0, g, d, tt, os⟩ := s
  have LI : Looks (model prog w) h0 (isInstance (.ref x) c) false := L0.andThen hsub
  unfold Builtin.«isinstance.nested»
  refine wpAny_bind (L0.at ?_)
  rw [if_neg (fun q => by rw [hne] at q; exact Bool.noConfusion q)]
  refine wpAny_bind (hty.at ?_)
  rw [if_pos (by decide)]
  k_delta "plainIsInstance"
  refine wpAny_bind (wpAny_bind (his.at ?_))
  simp only [Bool.not_true, Bool.false_eq_true, if_false]
  refine wpAny_bind (LI.at ?_)
  simp only [Bool.false_eq_true, if_false]
  refine wpAny_bind (class_attr X L0 hga hk ha hn htk hm hb ?_)
  refine wpAny_bind (hisD.at ?_)
  simp only [Bool.not_true, Bool.false_eq_true, if_false]
  refine wpAny_bind (wpAny_rule ?_)
  refine hsub.at ?_
  first
    | exact wpAny_pure h
    | exact wpAny_pure (wpAny_pure h)
    | exact wpAny_bind (wpAny_pure (wpAny_pure h))
theorem isType_of {M : Model} {h : Heap} (X : K.In h) (e : (clsIn K C).isSome = true) : Looks M h (isType (.ref C)) true := by
  obtain ⟨cd, hc⟩ := Option.isSome_iff_exists.mp e
  unfold clsIn at hc
  split at hc
  · rename_i c' d' cd' sl' ho
    intro A' Q' E' s' k q
    unfold isType loadHead
    exact wpAny_bind (wpAny_loadPart (k _ _ (X _ _ ho)) (wpAny_pure q))
  · cases hc
theorem nested_yes {c : Value} {dep : Int} {tk : Tok} {Q : Fin → Shared → Prop} (L0 : Looks (model prog w) s.heap (typeOf (.ref x)) (.ref D))
    (hty : Looks (model prog w) s.heap (typeOf c) (.type "type")) (his : Looks (model prog w) s.heap (isType c) true)
    (hsub : Looks (model prog w) s.heap (isSubtype (.ref D) c) true) (h : Q (.done (.ret (.bool true))) s) :
    wpAny (model prog w) A (Builtin.«isinstance.nested» ⟨[.ref x, c, .int dep tk], []⟩) Q E s := by
  obtain ⟨h0, g, d, tt, os⟩ := s
  have LI : Looks (model prog w) h0 (isInstance (.ref x) c) true := L0.andThen hsub
  unfold Builtin.«isinstance.nested»
  refine wpAny_bind (L0.at ?_)
  by_cases hq : (Value.ref D == c) = true
  · rw [if_pos hq]
    exact wpAny_bind (wpAny_rule (wpAny_bind (wpAny_pure (wpAny_pure h))))
  · rw [if_neg hq]
    refine wpAny_bind (hty.at ?_)
    rw [if_pos (by decide)]
    k_delta "plainIsInstance"
    refine wpAny_bind (wpAny_bind (his.at ?_))
    simp only [Bool.not_true, Bool.false_eq_true, if_false]
    refine wpAny_bind (LI.at ?_)
    simp only [if_true]
    first
      | exact wpAny_pure (wpAny_bind (wpAny_pure (wpAny_pure h)))
      | exact wpAny_pure (wpAny_pure h)
      | exact wpAny_bind (wpAny_pure (wpAny_pure h))
structure Cls (K : Frag) (D : Addr) : Prop where
  ga : findIn K (.ref D) "__getattribute__" = some (some (.builtin "BaseException.__getattribute__"))
  noHook : findIn K (.ref D) "__getattr__" = some none
  kind : findIn K (.ref D) "__class__" = some (some (.builtin "object.__class__"))
  get : specialIn K (.builtin "object.__class__") "__get__" = some (some (.builtin "getset_descriptor.__get__"))
  takes : takesIn K (.builtin "object.__class__") = some true
  obj : mroIn K D (.type "object") = some true
  exc : mroIn K D (.type "BaseException") = some true
theorem Cls.isCls (c : Cls K D) : (clsIn K D).isSome = true := by
  obtain ⟨cd, e, _⟩ := Option.bind_eq_some_iff.mp c.obj
  rw [e]; rfl
variable {ox : Obj} {Q : Value → Shared → Prop} {h₀ : Heap} {L : Addr} {news : List (Addr × Obj)} {T : String}
theorem call_not (X : K.In s.heap) (hx : s.heap.get? x = some ox) (hc : ox.cls = .ref D) (k : Cls K D) (e : kin_not K D C = true) (h : Q (.bool false) { s with toks := s.toks + 1 }) :
    wpAny (model prog w) A (call (.builtin "isinstance") [.ref x, .ref C]) Q E s := by
  unfold kin_not at e
  simp only [Bool.and_eq_true, beq_iff_eq, decide_eq_true_eq] at e
  obtain ⟨⟨⟨e9, e10⟩, e11⟩, e12⟩ := e
  exact call_isinstance (S := fun _ R s => (K.In s.heap ∧ s.heap.get? x = some ox) ∧ R (.ok (.ret (.bool false))) { s with toks := s.toks + 1 })
    (fun _ _ _ _ _ hs => isinstance_outer (nested hs.1.1 (ty hs.1.2 hc) k.ga k.noHook k.kind k.get k.takes k.obj k.exc (looks_typeIn hs.1.1 e11) (isType_of hs.1.1 e10) (isType_of hs.1.1 k.isCls)
      (Bool.eq_false_iff.mpr fun q => e9 (Value.ref.inj (beq_iff_eq.mp q))) (looks_subIn hs.1.1 e12) hs.2) (by intro q; cases q)) ⟨⟨X, hx⟩, h⟩
theorem call_yes (X : K.In s.heap) (hx : s.heap.get? x = some ox) (hc : ox.cls = .ref D) (_k : Cls K D) (e1 : typeIn K (.ref C) = some (.type "type")) (e2 : mroIn K C (.type "object") = some true)
    (e3 : subIn K (.ref D) (.ref C) = some true) (h : Q (.bool true) s) : wpAny (model prog w) A (call (.builtin "isinstance") [.ref x, .ref C]) Q E s :=
  call_isinstance (S := fun _ R s => (K.In s.heap ∧ s.heap.get? x = some ox) ∧ R (.ok (.ret (.bool true))) s)
    (fun _ _ _ _ _ hs => isinstance_outer (nested_yes (ty hs.1.2 hc) (looks_typeIn hs.1.1 e1) (isType_of hs.1.1 (by obtain ⟨cd, e, _⟩ := Option.bind_eq_some_iff.mp e2; rw [e]; rfl)) (looks_subIn hs.1.1 e3) hs.2)
      (by intro q; cases q)) ⟨⟨X, hx⟩, h⟩
theorem call_yesT (X : K.In s.heap) (hx : s.heap.get? x = some ox) (hc : ox.cls = .ref D) (_k : Cls K D) (e1 : typeOf (.type T) = pure (.type "type"))
    (e3 : subIn K (.ref D) (.type T) = some true) (h : Q (.bool true) s) : wpAny (model prog w) A (call (.builtin "isinstance") [.ref x, .type T]) Q E s :=
  call_isinstance (S := fun _ R s => (K.In s.heap ∧ s.heap.get? x = some ox) ∧ R (.ok (.ret (.bool true))) s)
    (fun _ _ _ _ _ hs => isinstance_outer (nested_yes (ty hs.1.2 hc) (Looks.of_pure e1) (Looks.of_pure rfl) (looks_subIn hs.1.1 e3) hs.2)
      (by intro q; cases q)) ⟨⟨X, hx⟩, h⟩
end
end EX

end
section
set_option Elab.async false
set_option linter.all false
set_option maxRecDepth 100000
set_option maxHeartbeats 4000000
namespace L2
open PySem
/-! an exception of one's own class that has an `__init__` of its own -/
abbrev xo (C t : Addr) (od : Option Addr) : Obj := { cls := .ref C, dict := od, data := .fields #[.ref t, .none, .none, .none, .bool false, .none] }
section
variable {prog : Program} {w : World} {A : Around} {E : Value → Shared → Prop} {h : Heap} {g : Array GenState} {d : Drawn} {tk : Nat} {os : OsState}
variable {nm q : Str} {C N fI : Addr} {bs bm bmB : List Value} {hdct : Bool} {sn : List Str} {sub : List Value} {ab : Bool} {col : Option Bool} {dd : Option Addr} {k0 k1 k2 k3 k5 : Option Value} {B newId initId : String}
  {mN : Str → Option Value} {rest : List Value} {oI : Obj}
end
section
variable {prog : Program} {w : World} {M : Model} {A : Around} {E : Value → Shared → Prop} {s : Shared} {env : Env}
variable {nm q : Str} {C N fI : Addr} {bs bm bmB : List Value} {hdct : Bool} {sn : List Str} {sub : List Value} {ab : Bool} {col : Option Bool} {dd : Option Addr} {k0 k1 k2 k3 k5 : Option Value} {B newId initId : String}
end
end L2

end
section
set_option Elab.async false
set_option linter.all false
set_option maxRecDepth 100000
set_option maxHeartbeats 4000000
namespace L2
open PySem
/-! an exception on its way, with its dict -/
section
variable {M : Model} {A : Around} {E : Value → Shared → Prop} {s : Shared} {base : Heap} {env : Env} {outer l : List Env} {L e : Addr} {cls a0 fl : Value} {od : Option Addr}
def Dc (h : Heap) (e : Addr) (od : Option Addr) : Prop := ∃ o, h.get? e = some o ∧ o.dict = od
theorem dict_mapFields (o : Obj) (f : Array Value → Array Value) : (Obj.mapFields f o).dict = o.dict := by
  unfold Obj.mapFields
  split <;> rfl
theorem upd_other {h : Heap} {T b : Addr} {f : Obj → Obj} (n : b ≠ T) : (h.update T f).get? b = h.get? b := Heap.get?_update_other _ _ (Ne.symm n)
theorem Dc.upd {h : Heap} {T : Addr} {oT : Obj} {ts : Array Value} {f : Array Value → Array Value} (x : Dc h e od) (hT : h.get? T = some oT) (hd : oT.data = .fields ts) : Dc (h.update T (Obj.mapFields f)) e od := by
  obtain ⟨o, ho, hod⟩ := x
  by_cases n : e = T
  · subst n
    rw [hT] at ho
    cases ho
    exact ⟨_, Heap.get?_update_self _ hT (Obj.isFreed_of_fields (Obj.data_mapFields hd f)), (dict_mapFields _ _).trans hod⟩
  · exact ⟨o, (upd_other n).trans ho, hod⟩
theorem entryD {oe : Obj} {vs : Array Value} {head : Value} {hadNext : Bool} {Q : Unit → Shared → Prop} (hfr : A.frames = some (env :: outer)) (hl : s.heap.FunFrames base (env :: outer)) (hf : env.frame = some L)
    (he : s.heap.get? e = some oe) (hkb : base.StaysIn s.heap) (hen : base.get? e = none) (hd : oe.data = .fields vs) (hsz : 1 < vs.size) (h0 : vs[0]? = some a0)
    (k : ∀ h', Heap.NotedW base (env :: outer) e oe.cls a0 (rawInt L) s.heap h' → Dc h' e oe.dict → Q () { s with heap := h' }) :
    wpAny M A (do
      let a ← frameOf env
      let pl ← entryPlaceOf L hadNext
      let b ← EntryCells.newEntry head a .none (rawInt L) .none pl
      setField (.ref e) 1 b) Q E s := by
  have nin : e ∉ (env :: outer).filterMap (·.frame) := fun hm => by
    obtain ⟨_, o, ho, hnf⟩ := hl.mem hm
    rw [he] at ho
    cases ho
    exact hnf vs hd
  refine wpAny_bind (wpAny_frameOf_fun hfr hl hf fun h1 hs1 => wpAny_bind (wpAny_entryPlaceOf fun pl hpl => ?_))
  unfold EntryCells.newEntry newFields
  refine wpAny_bind (wpAny_newObj_type ?_ (hpl.sizeOk5 _ _ _ _ _))
  generalize htb : ([head, .ref L, .none, rawInt L, .none] ++ (if pl.isEmpty then List.replicate 6 Value.none else pl)) = tb
  have h3 : tb.toArray[3]? = some (rawInt L) := by rw [← htb]; simp
  have e1 : h1.get? e = some oe := (hs1.2.1 e nin).trans he
  have b1 : base.StaysIn h1 := fun b o z => (hs1.2.1 b fun hm => by rw [(hl.mem hm).1] at z; cases z).trans (hkb b o z)
  have pu : ∀ b o, h1.get? b = some o → (h1.push { cls := .type "traceback", dict := none, data := .fields tb.toArray }).get? b = some o := fun b o z => Heap.get?_push_of_some _ z
  have hT : (h1.push { cls := .type "traceback", dict := none, data := .fields tb.toArray }).get? h1.objs.size = some { cls := .type "traceback", dict := none, data := .fields tb.toArray } := Heap.get?_push_size h1 rfl
  have fr : base.get? h1.objs.size = none := b1.fresh
  have nT : h1.objs.size ≠ e := Nat.ne_of_gt (Heap.lt_size e1)
  have lt : ∀ b o, h1.get? b = some o → b ≠ h1.objs.size := fun b o z => Nat.ne_of_lt (Heap.lt_size z)
  refine wpAny_setField (pu _ _ e1) hd hsz ?_
  have e2 := pu _ _ e1
  generalize h1.push { cls := .type "traceback", dict := none, data := .fields tb.toArray } = h2 at *
  generalize h1.objs.size = T at *
  have d3 := Obj.data_mapFields hd (·.setIfInBounds 1 (Value.ref T))
  have e3 := Heap.get?_update_self (Obj.mapFields (·.setIfInBounds 1 (Value.ref T))) e2 (Obj.isFreed_of_fields d3)
  have noR : ∀ b o, s.heap.get? b = some o → (∀ ws, o.data ≠ .fields ws) → b ≠ e := fun b o z hnf y => by
    rw [y, he] at z
    cases z
    exact hnf vs hd
  refine k _ ⟨fun b o z => ?_, hl.of_keeps fun b o z hnf => ?_, ?_, fun b o z hnf => ?_⟩ ⟨_, e3, dict_mapFields _ _⟩
  · rw [upd_other (fun y => by rw [y, hen] at z; cases z)]
    exact pu _ _ (b1 b o z)
  · obtain ⟨sl, y⟩ := hs1.2.2 b o z
    exact ⟨_, (upd_other (noR b o z hnf)).trans (pu _ _ y), rfl⟩
  · exact ⟨_, _, T, _, _, e3, ⟨Obj.cls_mapFields _ _, by rw [Array.getElem?_setIfInBounds_ne (by decide)]; exact h0⟩, d3, by simp [hsz], fr, nT, (upd_other nT).trans hT, rfl, h3⟩
  · obtain ⟨sl, y⟩ := hs1.2.2 b o z
    exact ⟨sl, (upd_other (noR b o z hnf)).trans (pu _ _ y)⟩
theorem landD {Q : Unit → Shared → Prop} (hkb : base.StaysIn s.heap) (hl : s.heap.FunFrames base l) (ht : s.heap.TracedAtW base e cls a0 fl) (hc : Dc s.heap e od)
    (k : ∀ h', base.StaysIn h' → h'.FunFrames base l → h'.TracedW base e cls a0 → s.heap.UpToSlots h' → Dc h' e od → Q () { s with heap := h' }) : wpAny M A (setFlight (.ref e) none) Q E s := by
  obtain ⟨oe, vs, T, oT, ts, he, hcls, hd, h1, hnT, hTe, hT, hdT, h3⟩ := ht
  have z3 : 3 < ts.size := (Array.getElem?_eq_some_iff.mp h3).1
  have noR : ∀ b o, s.heap.get? b = some o → (∀ ws, o.data ≠ .fields ws) → b ≠ T := fun b o z hnf y => by
    rw [y, hT] at z
    cases z
    exact hnf ts hdT
  unfold setFlight
  refine wpAny_bind (wpAny_field he hd h1 ?_)
  rw [if_pos (show (Value.ref T != Value.none) = true from by simp)]
  refine wpAny_setField hT hdT z3 (k _ (fun b o z => ?_) (hl.of_keeps fun b o z hnf => ⟨o, (upd_other (noR b o z hnf)).trans z, rfl⟩) ?_ (fun b o z hnf => ⟨o.slots, (upd_other (noR b o z hnf)).trans z⟩) (hc.upd hT hdT))
  · rw [upd_other (fun y => by rw [y, hnT] at z; cases z)]
    exact hkb b o z
  · exact ⟨oe, vs, T, _, _, (upd_other (Ne.symm hTe)).trans he, hcls, hd, h1, hnT, hTe, Heap.get?_update_self _ hT (Obj.isFreed_of_fields (Obj.data_mapFields hdT _)), Obj.data_mapFields hdT _, by simp [z3]⟩
theorem noteD {Q : Unit → Shared → Prop} (hfr : A.frames = some (env :: outer)) (hf : env.frame = some L) (x : Heap.FlyingW base (env :: outer) e cls a0 s.heap) (hc : Dc s.heap e od)
    (k : ∀ h', Heap.HeldW base (env :: outer) e cls a0 L h' → s.heap.UpToSlots h' → Dc h' e od → Q () { s with heap := h' }) : wpAny M A (noteFrame (.ref e) env) Q E s := by
  obtain ⟨hkb, hen, hl, oe, vs, T, oT, ts, he, ⟨hcls, h0⟩, hd, h1, hnT, hTe, hT, hdT, h3⟩ := x
  subst hcls
  unfold noteFrame
  simp only [hf]
  refine wpAny_bind (wpAny_field he hd h1 ?_)
  rw [if_pos (show (Value.ref T != Value.none) = true from by simp)]
  refine wpAny_bind (wpAny_field hT hdT h3 ?_)
  rw [if_neg (show ¬ ((Value.none == rawInt L) = true) from by simp [rawInt])]
  have noR : ∀ b o, s.heap.get? b = some o → (∀ ws, o.data ≠ .fields ws) → b ≠ T := fun b o z hnf y => by
    rw [y, hT] at z
    cases z
    exact hnf ts hdT
  have hod : oe.dict = od := by
    obtain ⟨o, ho, q⟩ := hc
    rw [he] at ho
    cases ho
    exact q
  refine wpAny_bind (wpAny_setField hT hdT (Array.getElem?_eq_some_iff.mp h3).1 ?_)
  refine entryD hfr (hl.of_keeps fun b o z hnf => ⟨o, (upd_other (noR b o z hnf)).trans z, rfl⟩) hf ((upd_other (Ne.symm hTe)).trans he) (fun b o z => ?_) hen hd (Array.getElem?_eq_some_iff.mp h1).1 h0 fun h' N D => ?_
  · rw [upd_other (fun y => by rw [y, hnT] at z; cases z)]
    exact hkb b o z
  · obtain ⟨x1, x2, x3, x4⟩ := N
    exact k h' ⟨x1, hen, x2, x3⟩ (fun b o z hnf => x4 b o ((upd_other (noR b o z hnf)).trans z) hnf) (hod ▸ D)
theorem landsD {Q : Unit → Shared → Prop} (x : Heap.HeldW base l e cls a0 L s.heap) (hc : Dc s.heap e od)
    (k : ∀ h', Heap.FlyingW base l e cls a0 h' → s.heap.UpToSlots h' → Dc h' e od → Q () { s with heap := h' }) : wpAny M A (setFlight (.ref e) none) Q E s := by
  obtain ⟨f1, f2, f3, f4⟩ := x
  exact landD f1 f3 f4 hc fun h' k1 k2 k3 k4 k5 => k h' ⟨k1, f2, k2, k3⟩ k4 k5
theorem againD {Q : Unit → Shared → Prop} (x : Heap.FlyingW base l e cls a0 s.heap) (hc : Dc s.heap e od)
    (k : ∀ h', Heap.FlyingW base l e cls a0 h' → s.heap.UpToSlots h' → Dc h' e od → Q () { s with heap := h' }) : wpAny M A (setFlight (.ref e) none) Q E s := by
  obtain ⟨f1, f2, f3, f4⟩ := x
  exact landD f1 f3 f4.at hc fun h' k1 k2 k3 k4 k5 => k h' ⟨k1, f2, k2, k3⟩ k4 k5
theorem leavesD {Q : Unit → Shared → Prop} (hfr : A.frames = some (env :: outer)) (hf : env.frame = some L) (x : Heap.FlyingW base (env :: outer) e cls a0 s.heap) (hc : Dc s.heap e od)
    (k : ∀ h', Heap.FlyingW base outer e cls a0 h' → s.heap.UpToSlots h' → Dc h' e od → Q () { s with heap := h' }) : wpAny M A (leaving env (.ref e)) Q E s := by
  unfold leaving
  refine wpAny_bind (noteD hfr hf x hc fun h1 H1 u1 c1 => landsD (s := { s with heap := h1 }) H1 c1 fun h2 F2 u2 c2 => ?_)
  obtain ⟨g1, g2, ⟨_, _, g3⟩, g4⟩ := F2
  exact k h2 ⟨g1, g2, g3, g4⟩ (u1.trans u2) c2
theorem firstD {C t : Addr} {Q : Unit → Shared → Prop} (hfr : A.frames = some (env :: outer)) (hf : env.frame = some L) (hkb : base.StaysIn s.heap) (hen : base.get? e = none) (hl : s.heap.FunFrames base (env :: outer)) (he : s.heap.get? e = some (xo C t od))
    (k : ∀ h', Heap.FlyingW base outer e (.ref C) (.ref t) h' → s.heap.UpToSlots h' → Dc h' e od → Q () { s with heap := h' }) : wpAny M A (leaving env (.ref e)) Q E s := by
  unfold leaving noteFrame
  simp only [hf]
  refine wpAny_bind (wpAny_bind (wpAny_field he rfl (x := .none) rfl ?_))
  rw [if_neg (by decide)]
  refine entryD (a0 := .ref t) hfr hl hf he hkb hen rfl (by show (1 : Nat) < 6; decide) rfl fun h1 N D => ?_
  obtain ⟨x1, x2, x3, x4⟩ := N
  refine landD (s := { s with heap := h1 }) x1 x2 x3 D fun h2 k1 k2 k3 k4 k5 => ?_
  obtain ⟨_, _, k2⟩ := k2
  exact k h2 ⟨k1, hen, k2, k3⟩ (Heap.UpToSlots.trans x4 k4) k5
end
end L2

end
section
set_option Elab.async false
set_option linter.all false
set_option maxRecDepth 100000
set_option maxHeartbeats 4000000
namespace L2
open PySem PySem.Spec PyProof.Rows
/-! own refusals, decided over the written part -/
def VB : List Value := [.type "ValueError", .type "Exception", .type "BaseException", .type "object"]
def nsPlain (K : PySem.W.Frag) (N : Addr) : Bool := match K.lookup N with
  | some ⟨_, _, .dict es _, _⟩ => es.toList.all fun e => match e.key with | .str _ _ => true | _ => false
  | _ => false
def noInit (K : PySem.W.Frag) (N : Addr) : Bool := nsPlain K N && (match PySem.W.nsIn K N "__init__" with | some none => true | _ => false)
theorem noInit_ns {K : PySem.W.Frag} {N : Addr} {h₀ : Heap} (X₀ : K.In h₀) (e : noInit K N = true) : ∃ mN : Str → Option Value, mN "__init__" = none ∧ ∀ h : Heap, K.In h → h.Ns N mN := by
  unfold noInit at e
  simp only [Bool.and_eq_true] at e
  obtain ⟨e1, e2⟩ := e
  unfold nsPlain at e1
  split at e1
  · rename_i c d es ep sl hl
    have sk : StrKeys es := fun en hen => by
      have q := (List.all_eq_true.mp e1) en (by simpa using hen)
      split at q
      · rename_i n t hk
        exact ⟨n, t, hk⟩
      · cases q
    have hN : ∀ h : Heap, K.In h → h.Ns N (nsFind es) := fun h X => ⟨_, es, ep, X _ _ hl, rfl, sk, fun _ => rfl⟩
    refine ⟨nsFind es, ?_, hN⟩
    split at e2
    · rename_i q
      exact PySem.W.ns_none_of X₀ (hN h₀ X₀) q
    · cases e2
  · cases e1
def tailOk (K : PySem.W.Frag) : List Value → Bool
  | [] => false
  | v :: tl => match v with
    | .ref A => (match K.lookup A with | some ⟨_, _, .cls cd, _⟩ => noInit K cd.ns | _ => false) && tailOk K tl
    | _ => (v :: tl) == VB
theorem tail_own {K : PySem.W.Frag} {h₀ : Heap} (X₀ : K.In h₀) : ∀ {l : List Value}, tailOk K l = true → ∀ h : Heap, K.In h → OwnTail h VB l
  | [], e, _, _ => by cases e
  | v :: tl, e, h, X => by
    unfold tailOk at e
    split at e
    · rename_i A
      simp only [Bool.and_eq_true] at e
      obtain ⟨e1, e2⟩ := e
      split at e1
      · rename_i c0 dd cd sl hl
        obtain ⟨mN, hi, hN⟩ := noInit_ns X₀ e1
        exact .own (X _ _ hl) (hN h X) hi (tail_own X₀ e2 h X)
      · cases e1
    · rw [beq_iff_eq.mp e]
      exact .base
def excIn (K : PySem.W.Frag) (C : Addr) : Bool := match K.lookup C with
  | some ⟨.type "type", _, .cls cd, sl⟩ => (match cd.mro, sl.toList with
    | .ref C' :: bm, [_, _, _, _, some (.builtin n), _] => C' == C && !cd.hasDel && n == "ValueError.__new__" && noInit K cd.ns && tailOk K bm
    | _, _ => false)
  | _ => false
theorem excIn_obj {K : PySem.W.Frag} {h₀ : Heap} {C : Addr} (X₀ : K.In h₀) (q : excIn K C = true) : ∃ bm N nm qn bs hdct sn sub ab col dd k0 k1 k2 k3 k5 mN, mN "__init__" = none ∧
    ∀ h : Heap, K.In h → h.get? C = some (excClassObj nm qn C N bs bm hdct sn sub ab col dd k0 k1 k2 k3 k5 "ValueError.__new__") ∧ h.Ns N mN ∧ OwnTail h VB bm := by
  unfold excIn at q
  split at q
  · rename_i dd cd sl ho
    split at q
    · rename_i C' bm k0 k1 k2 k3 n k5 hm hs
      simp only [Bool.and_eq_true, beq_iff_eq, Bool.not_eq_true'] at q
      obtain ⟨⟨⟨⟨rfl, hdel⟩, rfl⟩, hi⟩, ht⟩ := q
      obtain ⟨nm, bs, mro, ns, qn, hd, sn, sub, ab, col, del⟩ := cd
      dsimp only at hm hdel hi
      subst hm hdel
      have hsl : sl = #[k0, k1, k2, k3, some (.builtin "ValueError.__new__"), k5] := by
        obtain ⟨l⟩ := sl
        simp only at hs
        rw [hs]
      subst hsl
      obtain ⟨mN, hi, hN⟩ := noInit_ns X₀ hi
      exact ⟨bm, ns, nm, qn, bs, hd, sn, sub, ab, col, dd, k0, k1, k2, k3, k5, mN, hi, fun h X => ⟨X _ _ ho, hN h X, tail_own X₀ ht h X⟩⟩
    · cases q
  · cases q
/-! an exception on its way through the frames -/
theorem ObjOk.is {P : Program} {w : World} {H : Hp} {h : Heap} {a : Addr} {o : HO} (x : ObjOk P w H h a o) : ∃ ob, h.get? a = some ob := by
  cases o with
  | lst xs => obtain ⟨_, _, _, _, e⟩ := x; exact ⟨_, e⟩
  | tup xs => obtain ⟨_, _, _, ob, e, _⟩ := x; exact ⟨_, e⟩
  | dK kvs => obtain ⟨_, _, _, _, o, _, _, e, _⟩ := x; exact ⟨_, e⟩
  | dT kvs => obtain ⟨_, _, _, _, o, _, _, e, _⟩ := x; exact ⟨_, e⟩
  | set S n => obtain ⟨o, _, _, _, e, _⟩ := x; exact ⟨_, e⟩
  | ins C dx fs => obtain ⟨_, _, _, e, _⟩ := x; exact ⟨_, e⟩
  | own y => obtain ⟨_, e⟩ := x; exact ⟨_, e⟩
  | xd fs => obtain ⟨_, ⟨_, _, _, e, _⟩, _⟩ := x; exact ⟨_, e⟩
  | rng lo hi => obtain ⟨_, _, _, e⟩ := x; exact ⟨_, e⟩
  | frz ob u => obtain ⟨e, _⟩ := x; exact ⟨_, e⟩
  | tbl ps => exact ⟨_, (show h.get? a = some _ from x)⟩
  | met f y => exact ⟨_, (show h.get? a = some _ from x)⟩
  | ext φ => obtain ⟨_, ⟨_, e⟩, _⟩ := x; exact ⟨_, e⟩
def CXr (P : Program) (w : World) : CXT := fun outer H s E x s' => ∃ (e : Addr) (C a0 : Value) (H' : Hp) (B : Heap), x = .ref e ∧ s'.os = s.os ∧ AllBare s'.gens ∧ Un (frs outer) [] H H' s.heap s'.heap ∧ HOk P w H' s'.heap ∧
  Heap.FlyingW B outer e C a0 s'.heap ∧ (∀ b u, H' b = some u → ∃ o, B.get? b = some o) ∧ (∀ b o, s.heap.get? b = some o → b ∉ frs outer → ∃ o', B.get? b = some o' ∧ (H b = none → o' = o)) ∧ ∃ od, Dc s'.heap e od ∧ E C od H'
def Raises (X : Cx) (E : XK) : Prop := ∀ (pins : List (Addr × Obj)) (σ : St) (H : Hp) (s : Shared) (e C : Addr) (vs : List Value) (h' : Heap), Inv X pins σ H s → Heap.MadeExcOf s.heap h' e (.ref C) vs → E (.ref C) none H →
  X.xe (.ref e) { s with heap := h' }
section
variable {P : Program} {w : World} {K : PySem.W.Frag} {mg : Str → Option Value} {base : Heap} {N : List Str} {qual : Str} {scope : Scope} {f : Addr} {cd : Value} {A : Around} {outer : List Env} {s₀ : Shared} {H₀ : Hp} {E : XK}
abbrev cxR (P : Program) (w : World) (K : PySem.W.Frag) (mg : Str → Option Value) (base : Heap) (N : List Str) (qual : Str) (scope : Scope) (f : Addr) (cd : Value) (A : Around) (outer : List Env) (s : Shared) (H : Hp) (E : XK) : Cx :=
  cxOf (CXr P w) P w K mg base N qual scope f cd A outer s H E
theorem passesOwnR : PassesOwn (model P w) (cxR P w K mg base N qual scope f cd A outer s₀ H₀ E).A (cxR P w K mg base N qual scope f cd A outer s₀ H₀ E).env (cxR P w K mg base N qual scope f cd A outer s₀ H₀ E).xe := PassesOwn.leaving
theorem hok_stays {H : Hp} {h h' B : Heap} (ok : HOk P w H h) (k : ∀ b u, H b = some u → ∃ o, B.get? b = some o) (s1 : ∀ b o, B.get? b = some o → h.get? b = some o) (s2 : ∀ b o, B.get? b = some o → h'.get? b = some o) : HOk P w H h' := fun a u e =>
  (ok a u e).stay (fun b v hb q => by
    obtain ⟨o, z⟩ : ∃ o, B.get? b = some o := by
      rcases hb with rfl | hb
      · exact k _ _ e
      · exact k _ _ hb
    have z1 := s1 b o z
    rw [q] at z1
    cases z1
    exact s2 b _ z) (fun _ q => q) fun _ _ q => q
theorem raisesG {pins : List (Addr × Obj)} {σ : St} {H : Hp} {s : Shared} {e C t : Addr} {od : Option Addr} (I : Inv (cxR P w K mg base N qual scope f cd A outer s₀ H₀ E) pins σ H s) (he : s.heap.get? e = some (xo C t od)) (hn : s₀.heap.get? e = none) (hH : H e = none) (q : E (.ref C) od H) : (cxR P w K mg base N qual scope f cd A outer s₀ H₀ E).xe (.ref e) s := by
  have noA : ∀ b : Addr, b ∉ (cxR P w K mg base N qual scope f cd A outer s₀ H₀ E).ex := fun b z => absurd (show b ∈ ([] : List Addr) from z) (by simp)
  have lt0 : ∀ b o, s₀.heap.get? b = some o → b ≠ (cxR P w K mg base N qual scope f cd A outer s₀ H₀ E).env.locals := fun b o z => Nat.ne_of_lt (Nat.lt_of_lt_of_le (Heap.lt_size z) I.ok.above)
  have hin : ∀ env ∈ (cxR P w K mg base N qual scope f cd A outer s₀ H₀ E).stack, ∀ b, env.frame = some b → b ∈ e :: frs (cxR P w K mg base N qual scope f cd A outer s₀ H₀ E).stack := fun env he b hb => List.mem_cons_of_mem _ (List.mem_filterMap.mpr ⟨env, he, hb⟩)
  have nin : ∀ b o, s₀.heap.get? b = some o → b ∉ frs outer → b ∉ e :: frs (cxR P w K mg base N qual scope f cd A outer s₀ H₀ E).stack := fun b o z h1 y => by
    rcases List.mem_cons.mp y with y | y
    · rw [y, hn] at z; cases z
    · rcases List.mem_cons.mp (I.stkSub b y) with y | y
      · exact lt0 b o z y
      · exact h1 y
  show wpAny (model P w) (A.deeper (envOfC qual scope s₀.heap.objs.size f cd)) (leaving (envOfC qual scope s₀.heap.objs.size f cd) (.ref e)) _ _ _
  refine firstD (base := PySem.W.hideAll s.heap (e :: frs (cxR P w K mg base N qual scope f cd A outer s₀ H₀ E).stack)) (L := s₀.heap.objs.size) I.ok.frames rfl (fun b o z => PySem.W.of_hideAll _ z) (PySem.W.hideAll_none _ (List.mem_cons_self ..)) (PySem.W.funFrames_hide I.stack hin) he fun h'' x1 x4 x5 => ?_
  have st : ∀ b o, s.heap.get? b = some o → b ∉ e :: frs (cxR P w K mg base N qual scope f cd A outer s₀ H₀ E).stack → (PySem.W.hideAll s.heap (e :: frs (cxR P w K mg base N qual scope f cd A outer s₀ H₀ E).stack)).get? b = some o := fun b o z n => PySem.W.hideAll_get _ z n
  have c1 : ∀ b u, H b = some u → ∃ o, (PySem.W.hideAll s.heap (e :: frs (cxR P w K mg base N qual scope f cd A outer s₀ H₀ E).stack)).get? b = some o := fun b u z => by
    obtain ⟨ob, zb⟩ := (I.hok b u z).is
    refine ⟨ob, st b ob zb fun m => ?_⟩
    rcases List.mem_cons.mp m with m | m
    · rw [m, hH] at z; cases z
    · rw [I.stkFree b m] at z; cases z
  refine ⟨e, .ref C, .ref t, H, _, rfl, I.os, I.bare, ⟨fun b o z n hb _ => ?_, fun b o z n hb _ => ?_, fun b o z n _ => I.base.free b o z n (noA b), fun b o z _ => ?_, I.base.tups, I.base.frzs, I.base.tbls⟩, ?_, x1, c1, fun b o z hb => ?_, od, x5, q⟩
  · exact x1.1 b o (st b o (I.base.keep b o z n hb (noA b)) (nin b o z hb))
  · obtain ⟨sl, e1⟩ := I.base.slot b o z n hb (noA b)
    obtain ⟨o2, ho2, hd2⟩ := (I.ok.funs.mem hb).2
    have z2 : s₀.heap.get? b = some o2 := ho2
    rw [z] at z2
    cases z2
    obtain ⟨sl', e2⟩ := x4 b _ e1 hd2
    exact ⟨sl', e2⟩
  · by_cases hb : b ∈ frs outer
    · obtain ⟨sl, e1⟩ := I.base.slot b o z (I.ok.frf b hb) hb (noA b)
      obtain ⟨o2, ho2, hd2⟩ := (I.ok.funs.mem hb).2
      have z2 : s₀.heap.get? b = some o2 := ho2
      rw [z] at z2
      cases z2
      obtain ⟨sl', e2⟩ := x4 b _ e1 hd2
      exact ⟨_, e2⟩
    · obtain ⟨o1, e1⟩ := I.base.there b o z (noA b)
      exact ⟨o1, x1.1 b o1 (st b o1 e1 (nin b o z hb))⟩
  · exact hok_stays I.hok c1 (fun b o z => PySem.W.of_hideAll _ z) x1.1
  · obtain ⟨o1, e1⟩ := I.base.there b o z (noA b)
    refine ⟨o1, st b o1 e1 (nin b o z hb), fun n => ?_⟩
    have e2 := I.base.keep b o z n hb (noA b)
    rw [e1] at e2
    exact Option.some.inj e2
theorem raisesR : Raises (cxR P w K mg base N qual scope f cd A outer s₀ H₀ E) E := by
  intro pins σ H s e C vs h' I M q
  obtain ⟨t, he, _, _⟩ := M.there
  refine raisesG (t := t) (od := none) (I.kept (t' := s.toks) M.keeps) he ?_ ?_ q
  · cases z : s₀.heap.get? e with
    | none => rfl
    | some o =>
      obtain ⟨o1, e1⟩ := I.base.there e o z (fun y => absurd (show e ∈ ([] : List Addr) from y) (by simp))
      rw [M.new] at e1
      cases e1
  · cases z : H e with
    | none => rfl
    | some u =>
      obtain ⟨ob, zb⟩ := (I.hok e u z).is
      rw [M.new] at zb
      cases zb
theorem passR : Passes (CXr P w) (cxR P w K mg base N qual scope f cd A outer s₀ H₀ E) E := by
  intro pins σ H s x s' I hx
  obtain ⟨e, C, a0, H', B, rfl, os, bare, un, hok, fl, c1, c2, od, hdc, q⟩ := hx
  have noA : ∀ b : Addr, b ∉ (cxR P w K mg base N qual scope f cd A outer s₀ H₀ E).ex := fun b z => absurd (show b ∈ ([] : List Addr) from z) (by simp)
  have lt0 : ∀ b o, s₀.heap.get? b = some o → b ≠ (cxR P w K mg base N qual scope f cd A outer s₀ H₀ E).env.locals := fun b o z => Nat.ne_of_lt (Nat.lt_of_lt_of_le (Heap.lt_size z) I.ok.above)
  have nin : ∀ b, b ∉ frs outer → b ≠ (cxR P w K mg base N qual scope f cd A outer s₀ H₀ E).env.locals → b ∉ frs (cxR P w K mg base N qual scope f cd A outer s₀ H₀ E).stack := fun b h1 h2 z => by
    rcases List.mem_cons.mp (I.stkSub b z) with z | z
    · exact h2 z
    · exact h1 z
  have J : Inv (cxR P w K mg base N qual scope f cd A outer s₀ H₀ E) pins σ H' s' := I.call' os un hok bare (ch := []) (fun b z => absurd z (by simp))
  show wpAny (model P w) (A.deeper (envOfC qual scope s₀.heap.objs.size f cd)) (leaving (envOfC qual scope s₀.heap.objs.size f cd) (.ref e)) _ _ _
  refine leavesD (L := s₀.heap.objs.size) I.ok.frames rfl fl hdc fun h'' fl' sm hdc2 => ?_
  refine ⟨e, C, a0, H', B, rfl, os.trans I.os, bare, ⟨fun b o z n hb _ => ?_, fun b o z n hb _ => ?_, fun b o z n _ => J.base.free b o z n (noA b), fun b o z _ => ?_, J.base.tups, J.base.frzs, J.base.tbls⟩, hok_stays hok c1 fl.1 fl'.1, fl', c1, fun b o z hb => ?_, od, hdc2, q⟩
  · obtain ⟨o', z1, z2⟩ := c2 b o (I.base.keep b o z n hb (noA b)) (nin b hb (lt0 b o z))
    rw [z2 (I.base.free b o z n (noA b))] at z1
    exact fl'.1 b o z1
  · obtain ⟨sl, e1⟩ := J.base.slot b o z n hb (noA b)
    obtain ⟨o2, ho2, hd2⟩ := (I.ok.funs.mem hb).2
    have z2 : s₀.heap.get? b = some o2 := ho2
    rw [z] at z2
    cases z2
    obtain ⟨sl', e2⟩ := sm b _ e1 hd2
    exact ⟨sl', e2⟩
  · by_cases hb : b ∈ frs outer
    · obtain ⟨sl, e1⟩ := J.base.slot b o z (I.ok.frf b hb) hb (noA b)
      obtain ⟨o2, ho2, hd2⟩ := (I.ok.funs.mem hb).2
      have z2 : s₀.heap.get? b = some o2 := ho2
      rw [z] at z2
      cases z2
      obtain ⟨sl', e2⟩ := sm b _ e1 hd2
      exact ⟨_, e2⟩
    · obtain ⟨o1, e1⟩ := I.base.there b o z (noA b)
      obtain ⟨o', z1, _⟩ := c2 b o1 e1 (nin b hb (lt0 b o z))
      exact ⟨o', fl'.1 b o' z1⟩
  · obtain ⟨o1, e1⟩ := I.base.there b o z (noA b)
    obtain ⟨o', z1, z2⟩ := c2 b o1 e1 (nin b hb (lt0 b o z))
    refine ⟨o', z1, fun n => ?_⟩
    rw [z2 (I.base.free b o z n (noA b))]
    have e2 := I.base.keep b o z n hb (noA b)
    rw [e1] at e2
    exact Option.some.inj e2
theorem Fun.okR {x : Str} {st : Stmt} {fd : FuncData} {ps : List Str} {k : Nat} {sp : Sp} (F : Fun K x qual st f fd) (S : FnScope N ps (defScope st)) (len : ∀ vs H Q E, sp vs H Q E → vs.length = ps.length)
    (hbody : ∀ (cdv : Value) (A : Around) (outer : List Env) (s : Shared) (H : Hp) (vs : List V) (Q : VK) (E : XK), Room k (A.deeper (envOfC qual (defScope st) s.heap.objs.size f cdv)) → sp vs H Q E →
      ∃ t, PSs (cxR P w K mg base N qual (defScope st) f cdv A outer s H E) (defBody st) t ∧ t { nx := fun _ H' => Q .non H', rt := Q } (start N vs) H) : FnOk P w K mg base (CXr P w) (k + 1) f fd ps sp := by
  obtain ⟨oc, od, kV, doc, pm, an, cdv, ct, osl, rfl, lk, hcd⟩ := F.ex
  exact fn_of lk hcd S len fun A outer s H vs Q E hr hsp => hbody cdv A outer s H vs Q E hr hsp
end
/-! raise C(..) -/
section
variable {X : Cx} {x : Str} {C : Addr} {E : XK} {e₀ : Expr} {rest : List Expr} {t : TA} {np cpos pos : Pos}
def tRaise (C : Addr) (E : XK) (t : TA) : TS := fun _ σ H => t σ H fun vs H1 => vs.length ≤ sizeLine ∧ E (.ref C) none H1
theorem ps_raise (hK : excIn X.K C = true) (hm : X.mg x = some (.ref C)) (hR : Raises X E) (hA : X.calm = true) (ha : PA X (e₀ :: rest) t) (hg : Gl X x := by rfl) (hd : (x == ("__debug__" : Str)) = false := by decide)
    (he : starEach (e₀ :: rest) X.env = (false, eval e₀ X.env) :: starEach rest X.env := by rfl) (hpl : (backTo cpos (starEach rest X.env)).any (·.1) = false := by rfl) :
    PS X (.Raise (some (.Call (.Name x np) (e₀ :: rest) [] cpos)) none pos) (tRaise C E t) := by
  intro pins s σ H D I h
  obtain ⟨bm, N, nm, q, bs, hdct, sn, sub, ab, col, dd, k0, k1, k2, k3, k5, mN, hni, hK⟩ := excIn_obj I.kIn hK
  obtain ⟨_, _, T₀⟩ := hK _ I.kIn
  refine wpAny_Raise_call_subT (C := C) (nm := nm) (q := q) (N := N) (bs := bs) (bm := bm) (hdct := hdct) (sn := sn) (sub := sub) (ab := ab) (col := col) (dd := dd) (k0 := k0) (k1 := k1) (k2 := k2) (k3 := k3) (k5 := k5)
    PySem.F.excBase_ValueError (mN := mN) (T₀.hasType PySem.F.excBase_ValueError.hasBase) (I.ok.hd hA) (by rw [he]; show (false || (backTo cpos (starEach rest X.env)).any (·.1)) = false; rw [hpl]; rfl) hni (ld_glob I hg hm ⟨rfl, ?_⟩ hd)
  have h1 := ha cpos pins s σ H _ I h
  rw [he] at h1 ⊢
  refine Calls.evalArgs_plain (wpAny_mono h1 (fun us s₂ h₂ => ?_) fun _ _ y => y)
  obtain ⟨vs, H1, I1, r, z, q⟩ := h₂
  obtain ⟨g1, g2, g3⟩ := hK _ I1.kIn
  exact ⟨rfl, by rw [← r.length]; exact z, g1, g2, g3, fun h' e M => hR pins σ H1 s₂ e C us h' I1 M q⟩
end
end L2

end
section
set_option Elab.async false
set_option linter.all false
set_option maxRecDepth 100000
set_option maxHeartbeats 4000000
namespace L2
open PySem PySem.Spec PyProof.Rows
def xob (e : Addr) (C : Value) (od : Option Addr) : HO := .ext fun h => ∃ oe, h.get? e = some oe ∧ oe.cls = C ∧ oe.dict = od ∧ PySem.W.notCls oe = true
section
variable {X : Cx} {pins : List (Addr × Obj)} {σ : St} {H H' : Hp} {s s' : Shared} {e : Addr} {C a0 : Value} {B h : Heap}
theorem Inv.flown {tk : Nat} {od : Option Addr} (I : Inv X pins σ H s) (os : s'.os = s.os) (bare : AllBare s'.gens) (un : Un (frs X.stack) [] H H' s.heap s'.heap) (hok : HOk X.prog X.w H' s'.heap) (fl : Heap.FlyingW B X.stack e C a0 s'.heap)
    (c1 : ∀ b u, H' b = some u → ∃ o, B.get? b = some o) (c2 : ∀ b o, s.heap.get? b = some o → b ∉ frs X.stack → ∃ o', B.get? b = some o' ∧ (H b = none → o' = o))
    (fl' : Heap.FlyingW B X.stack e C a0 h) (sm : s'.heap.UpToSlots h) (hdc : Dc h e od) : H' e = none ∧ Inv X pins σ (upd H' e (xob e C od)) { s' with heap := h, toks := tk } := by
  have he : H' e = none := by
    cases q : H' e with
    | none => rfl
    | some u =>
      obtain ⟨o, z⟩ := c1 e u q
      rw [fl.2.1] at z
      cases z
  obtain ⟨oe, ws, hoe, hoec, hoed, _⟩ := fl'.first
  have ne : ∀ b o, s.heap.get? b = some o → b ≠ e := fun b o z q => by
    subst q
    by_cases hb : b ∈ frs X.stack
    · obtain ⟨_, o2, ho2, hd2⟩ := fl'.2.2.1.mem hb
      rw [hoe] at ho2
      cases ho2
      exact hd2 _ hoed
    · obtain ⟨o', z1, _⟩ := c2 b o z hb
      rw [fl.2.1] at z1
      cases z1
  have ne' : ∀ b u, H' b = some u → b ≠ e := fun b u z q => by
    subst q
    rw [he] at z
    cases z
  refine ⟨he, ?_⟩
  refine I.call' (s' := { s' with heap := h, toks := tk }) (H' := upd H' e (xob e C od)) (ch := []) os ⟨fun b o z n hb _ => ?_, fun b o z n hb _ => ?_, fun b o z n _ => ?_, fun b o z _ => ?_, fun b xs z => ?_, fun b o u z => ?_, fun b ps z => ?_⟩ (fun a u q => ?_) bare (fun b z => absurd z (by simp))
  · obtain ⟨o', z1, z2⟩ := c2 b o z hb
    rw [z2 n] at z1
    exact fl'.1 b o z1
  · obtain ⟨sl, e1⟩ := un.slot b o z n hb (by simp)
    obtain ⟨_, o2, ho2, hd2⟩ := fl.2.2.1.mem hb
    rw [e1] at ho2
    cases ho2
    obtain ⟨sl', e2⟩ := sm b _ e1 hd2
    exact ⟨sl', e2⟩
  · rw [upd_ne (ne b o z)]
    exact un.free b o z n (by simp)
  · by_cases hb : b ∈ frs X.stack
    · obtain ⟨_, o2, ho2, _⟩ := fl'.2.2.1.mem hb
      exact ⟨o2, ho2⟩
    · obtain ⟨o', z1, _⟩ := c2 b o z hb
      exact ⟨o', fl'.1 b o' z1⟩
  · have z1 := un.tups b xs z
    rw [upd_ne (ne' b _ z1)]
    exact z1
  · have z1 := un.frzs b o u z
    rw [upd_ne (ne' b _ z1)]
    exact z1
  · obtain ⟨more, z1⟩ := un.tbls b ps z
    exact ⟨more, by rw [upd_ne (ne' b _ z1)]; exact z1⟩
  · by_cases ha : a = e
    · subst ha
      rw [upd_same] at q
      cases q
      obtain ⟨o3, ho3, hd3⟩ := hdc
      rw [hoe] at ho3
      cases ho3
      exact ⟨⟨oe, hoe, hoec, hd3, by unfold PySem.W.notCls; rw [hoed]⟩, ⟨oe, hoe⟩, fun h1 h2 ⟨o1, g1, g2⟩ k => ⟨o1, k o1 g1, g2⟩⟩
    · rw [upd_ne ha] at q
      refine (hok a u q).stay (fun b v hb z => ?_) (fun b z => by rw [upd_ne (ne' b _ z)]; exact z) fun b xs z => by rw [upd_ne (ne' b _ z)]; exact z
      obtain ⟨o, z0⟩ : ∃ o, B.get? b = some o := by
        rcases hb with rfl | hb
        · exact c1 _ _ q
        · exact c1 _ _ hb
      have z1 := fl.1 b o z0
      rw [z] at z1
      cases z1
      exact fl'.1 b _ z0
end
/-! within an except's suite -/
abbrev Cx.hand (X : Cx) (e : Addr) : Cx := { X with A := X.A.mark (some (.ref e)), calm := false, xe := fun _ _ => False }
theorem Cx.Ok.hand {X : Cx} (ok : X.Ok) (e : Addr) : (X.hand e).Ok :=
  ⟨ok.mod, ok.kind, ok.glob, ok.blt, ok.above, ok.inj, ok.has, ok.cab, (fun z => nomatch z), ok.frames, ok.stk, ok.exf, ok.bs, ok.bsz, ok.noex, ok.exfs, ok.funs, ok.frf⟩
section
variable {X : Cx} {pins : List (Addr × Obj)} {σ : St} {H : Hp} {s : Shared} {e : Addr}
theorem Inv.hand (I : Inv X pins σ H s) (e : Addr) : Inv (X.hand e) pins σ H s := ⟨I.ok.hand e, I.os, I.bare, I.base, I.loc, I.cell, I.free, I.freeC, I.pin, I.hok, I.len⟩
theorem Inv.unhand (ok : X.Ok) (I : Inv (X.hand e) pins σ H s) : Inv X pins σ H s := ⟨ok, I.os, I.bare, I.base, I.loc, I.cell, I.free, I.freeC, I.pin, I.hok, I.len⟩
theorem unbind_ok {M : Model} {A : Around} {E : Value → Shared → Prop} {i : Nat} {x : Str} {v : V} {Q : Unit → Shared → Prop} (I : Inv X pins σ H s) (hN : X.N.Nodup) (hi : X.N[i]? = some x) (hk : X.env.scope.names.lookup x = some .local) (hv : σ[i]? = some (some v))
    (h : ∀ s', Inv X pins (σ.set i none) H s' → Q () s') : wpAny M A (unbindName X.env x) Q E s := by
  obtain ⟨m, hn, hl⟩ := id I.loc
  have hcls : (X.env.scope.kind == .class || (X.env.scope.kind == .module && X.env.locals != X.env.globals)) = false := by rw [I.ok.kind]; rfl
  have hiσ : i < σ.length := by rw [I.len]; exact (List.getElem?_eq_some_iff.mp hi).1
  have cne := I.cne
  obtain ⟨u, _, l⟩ := hl i x v hi hv (.inl hk)
  have hm : m x = some u := by
    rcases l with ⟨_, z⟩ | ⟨z, _⟩
    · exact z
    · have z' : X.env.scope.names.lookup x = some .cell ∨ X.env.scope.names.lookup x = some .free := z
      rw [hk] at z'
      rcases z' with z' | z' <;> cases z'
  have tracked : ∀ {a : Addr} {h' : Heap}, (∃ o, s.heap.get? a = some o ∧ H a = none) → Heap.SameBut a s.heap h' → HOk X.prog X.w H h' := fun {a h'} ha hs b ob e => by
    obtain ⟨_, _, hfree⟩ := ha
    refine (I.hok b ob e).stay (fun c w' hc q => (hs.2 c ?_).trans q) (fun _ q => q) fun _ _ q => q
    rintro rfl
    rcases hc with rfl | hc
    · rw [hfree] at e; cases e
    · rw [hfree] at hc; cases hc
  refine wpAny_unbindName_local hk hn hm hcls fun h' u' hn' hs => ?_
  obtain ⟨oL, _, _, hoL, _⟩ := id hn
  refine h _ ⟨I.ok, I.os, I.bare, ⟨fun b o e n hb hx => ?_, fun b o e n hb hx => ?_, I.base.free, fun b o e hx => ?_, I.base.tups, I.base.frzs, I.base.tbls⟩, ⟨_, hn', fun j y v' e1 e2 e3 => ?_⟩, fun y c e => ?_, I.free, I.freeC, fun p hp => ?_, tracked ⟨oL, hoL, I.free⟩ hs, by simpa using I.len⟩
  · exact (hs.2 b (Nat.ne_of_lt (Nat.lt_of_lt_of_le (Heap.lt_size e) I.ok.above))).trans (I.base.keep b o e n hb hx)
  · obtain ⟨sl, e1⟩ := I.base.slot b o e n hb hx
    exact ⟨sl, (hs.2 b (Nat.ne_of_lt (Nat.lt_of_lt_of_le (Heap.lt_size e) I.ok.above))).trans e1⟩
  · obtain ⟨o', e1⟩ := I.base.there b o e hx
    exact ⟨o', (hs.2 b (Nat.ne_of_lt (Nat.lt_of_lt_of_le (Heap.lt_size e) I.ok.above))).trans e1⟩
  · by_cases hj : j = i
    · subst hj
      rw [List.getElem?_set_self hiσ] at e2
      cases e2
    · rw [List.getElem?_set_ne (Ne.symm hj)] at e2
      obtain ⟨u', r', q⟩ := hl j y v' e1 e2 e3
      refine ⟨u', r', ?_⟩
      rcases q with ⟨k, e⟩ | ⟨k, c, e, z⟩
      · refine .inl ⟨k, ?_⟩
        have : y ≠ x := fun e => hj (nodup_ix hN e1 (e ▸ hi))
        simp [this, e]
      · exact .inr ⟨k, c, e, z.sameBut hs (cne y c e)⟩
  · obtain ⟨w', z⟩ := I.cell y c e
    exact ⟨w', z.sameBut hs (cne y c e)⟩
  · obtain ⟨e, n, ne, nf, d⟩ := I.pin p hp
    exact ⟨(hs.2 p.1 ne).trans e, n, ne, nf, d⟩
end
/-! a try's body: its exceptions with the names' values -/
def XE (X : Cx) (pins : List (Addr × Obj)) (σ : St) (E : XK) (x : Value) (s' : Shared) : Prop := ∃ H1 s1, Inv X pins σ H1 s1 ∧ CXr X.prog X.w X.stack H1 s1 E x s'
def XP (X : Cx) (pins : List (Addr × Obj)) (E : St → XK) (x : Value) (s' : Shared) : Prop := ∃ σ', XE X pins σ' (E σ') x s'
abbrev TSX := Ends → (St → XK) → St → Hp → Prop
abbrev TEX := St → Hp → VK → XK → Prop
def PSX (X : Cx) (sts : List Stmt) (t : TSX) : Prop :=
  ∀ (pins : List (Addr × Obj)) (s : Shared) (σ : St) (H : Hp) (D : Ends) (E : St → XK), Inv X pins σ H s → t D E σ H → wpAny (model X.prog X.w) X.A (execs sts X.env) (SP X pins D) (XP X pins E) s
def PEX (X : Cx) (e : Expr) (t : TEX) : Prop :=
  ∀ (pins : List (Addr × Obj)) (s : Shared) (σ : St) (H : Hp) (Q : VK) (E : XK), Inv X pins σ H s → t σ H Q E → wpAny (model X.prog X.w) X.A (eval e X.env) (EP X pins σ Q) (XE X pins σ E) s
section
variable {X : Cx} {e : Expr} {te : TEX} {pos : Pos} {a b : List Stmt} {t u : TSX}
def tDropX (te : TEX) : TSX := fun D E σ H => te σ H (fun _ H1 => D.nx σ H1) (E σ)
theorem psx_expr (he : PEX X e te) (hs : swapsWith e none pos.line X.env = pure false := by rfl) : PSX X [.Expr e pos] (tDropX te) := by
  intro pins s σ H D E I h
  refine wpAny_execs_cons ?_
  refine wpAny_Expr_any (wpAny_mono (he pins s σ H _ (E σ) I h) (fun v s1 q => ?_) fun x s1 q => ⟨σ, q⟩) I.quiet hs
  obtain ⟨x, H1, I1, r1, q1⟩ := q
  exact wpAny_execs_nil (show SP X pins D .next s1 from ⟨σ, H1, I1, q1⟩)
def tIfX (c : TT) (t u : TSX) : TSX := fun D E σ H => c σ H fun b H1 => if b = true then t D E σ H1 else u D E σ H1
end
/-! calls in a try's body -/
section
variable {X : Cx} {k : Nat} {f C : Addr} {fd : FuncData} {ps : List Str} {sp : Sp} {dvs : List V} {ds : List Value} {x m : Str} {p pos apos : Pos} {e o : Expr} {es : List Expr} {ta : TE} {t : TA}
def tCallX (sp : Sp) (dvs : List V) (t : TA) : TEX := fun σ H Q E => t σ H fun vs H1 => sp (vs ++ dvs) H1 Q E
def tMethX (C : Addr) (m : Str) (sp : Sp) (dvs : List V) (ta : TE) (t : TA) : TEX := fun σ H Q E => ta σ H fun x H1 => ∃ a dx fs, x = .ref a ∧ H1 a = some (.ins C dx fs) ∧ fs.lookup m = none ∧
  t σ H1 fun vs H2 => sp (x :: (vs ++ dvs)) H2 Q E
end
/-! try: .. except C as n: .. -/
section
variable {X : Cx} {x n : Str} {HC : Addr} {i : Nat} {body suite : List Stmt} {b₀ : Stmt} {tb : TSX} {ts : TS} {np hpos pos : Pos}
def tTry (K : PySem.W.Frag) (HC : Addr) (i : Nat) (tb : TSX) (ts : TS) : TS := fun D σ H => tb D (fun σ' C od H1 => PySem.W.exmOne K C (.ref HC) = some true ∧
  ∀ e, H1 e = none → ts { nx := fun σ2 H2 => D.nx (σ2.set i none) H2, rt := D.rt, bk := fun σ2 H2 => D.bk (σ2.set i none) H2, ct := fun σ2 H2 => D.ct (σ2.set i none) H2 } (σ'.set i (some (.ref e))) (upd H1 e (xob e C od))) σ H
theorem ps_try (hN : X.N.Nodup) (hi : X.N[i]? = some n) (hn : X.env.scope.names.lookup n = some .local) (hst : X.stack = X.env :: X.outer) (hf : X.env.frame = some X.env.locals) (hm : X.mg x = some (.ref HC)) (hb : PSX X body tb)
    (hs : ∀ e, PSs (X.hand e) (b₀ :: suite) ts) (hg : Gl X x := by rfl) (hd : (x == ("__debug__" : Str)) = false := by decide) :
    PS X (.Try body [.ExceptHandler (some (.Name x np)) (some n) (b₀ :: suite) hpos] [] [] pos) (tTry X.K HC i tb ts) := by
  intro pins s σ H D I h
  have hfr : X.A.frames = some (X.env :: X.outer) := by rw [← hst]; exact I.ok.frames
  refine wpAny_Try_except (wpAny_mono (hb pins s σ H D _ I h) (fun f s1 q => ?_) fun xv s1 hx => ?_)
  · cases f with
    | next => exact wpAny_execs_nil q
    | ret v => exact q
    | brk => exact q
    | cont => exact q
  · obtain ⟨σ', H1, s0, I1, e, C, a0, H', B, rfl, os, bare, un, hok, fl, c1, c2, od, hdc, hex, hq⟩ := hx
    have fl1 : Heap.FlyingW B (X.env :: X.outer) e C a0 s1.heap := by rw [← hst]; exact fl
    refine noteD hfr hf fl1 hdc fun h₄ held₄ sm₄ dc₄ => ?_
    refine landsD (s := { s1 with heap := h₄ }) held₄ dc₄ fun h₅ fl₅ sm₅ dc₅ => ?_
    have fl₅' : Heap.FlyingW B X.stack e C a0 h₅ := by rw [hst]; exact fl₅
    obtain ⟨_, I₅⟩ := I1.flown (tk := s1.toks) os bare un hok fl c1 c2 fl₅' (sm₄.trans sm₅) dc₅
    refine wpAny_handleBy_cons (codeAny_handlers_test ?_) (by intro q; cases q)
    refine ld_glob (X := X.hand e) (I₅.hand e) hg hm ?_ hd
    obtain ⟨ob, hob, hobc⟩ := fl₅.there
    have LT : PySem.W.Looks (model X.prog X.w) h₅ (typeOf (.ref e)) C := by
      subst hobc
      exact (PySem.W.Looks.ld hob).andThen .now
    refine (PySem.W.exm_one I₅.kIn LT hex).here ?_
    refine codeAny_handlers_suite_as ?_
    refine againD fl₅ dc₅ fun h₆ fl₆ sm₆ dc₆ => ?_
    have fl₆' : Heap.FlyingW B X.stack e C a0 h₆ := by rw [hst]; exact fl₆
    obtain ⟨he, I₆⟩ := I1.flown (tk := s1.toks) os bare un hok fl c1 c2 fl₆' ((sm₄.trans sm₅).trans sm₆) dc₆
    refine store_ok (X := X.hand e) (I₆.hand e) hN hi (.inl hn) (show RelV (.ref e) (.ref e) from rfl) (fun s₇ I₇ => ?_) (.inr hn)
    refine wpAny_mono (hs e pins s₇ _ _ _ I₇ (hq e he)) (fun f s₈ q => ?_) fun _ _ z => z.elim
    have back : ∀ (f : Flow) (σ2 : St) (H2 : Hp) (s₈ : Shared), Inv (X.hand e) pins σ2 H2 s₈ → (∀ s10, Inv X pins (σ2.set i none) H2 s10 → SP X pins D f s10) →
        wpAny (model X.prog X.w) X.A (do bindName X.env n .none; unbindBehindTheSuite X.env n hpos) (fun _ s₃ => SP X pins D f s₃) X.xe s₈ := fun f σ2 H2 s₈ I2 k => by
      have I2 := I2.unhand I.ok
      refine wpAny_bind (wpAny_bindName (store_ok I2 hN hi (.inl hn) (show RelV .non .none from rfl) (fun s9 I9 => ?_) (.inr hn)))
      unfold unbindBehindTheSuite
      refine wpAny_onRaise (unbind_ok (v := .non) I9 hN hi hn ?_ fun s10 I10 => ?_)
      · rw [List.getElem?_set_self (by rw [I2.len]; exact (List.getElem?_eq_some_iff.mp hi).1)]
      · rw [List.set_set] at I10
        exact k s10 I10
    cases f with
    | next =>
      obtain ⟨σ2, H2, I2, q2⟩ := q
      exact back .next σ2 H2 s₈ I2 fun s10 I10 => ⟨_, _, I10, q2⟩
    | ret v =>
      obtain ⟨v', σ2, H2, I2, r2, q2⟩ := q
      exact back (.ret v) σ2 H2 s₈ I2 fun s10 I10 => ⟨v', _, _, I10, r2, q2⟩
    | brk =>
      obtain ⟨σ2, H2, I2, q2⟩ := q
      exact back .brk σ2 H2 s₈ I2 fun s10 I10 => ⟨_, _, I10, q2⟩
    | cont =>
      obtain ⟨σ2, H2, I2, q2⟩ := q
      exact back .cont σ2 H2 s₈ I2 fun s10 I10 => ⟨_, _, I10, q2⟩
end
/-! a def that is called within an except's suite: it raises nothing -/
structure RoomQ (k : Nat) (A : Around) : Prop where
  dp : A.depth + 3 * k + 5 < recursionLimit
  un : A.units + 16 * k + 200 < cLine
theorem RoomQ.of {k : Nat} {A : Around} (r : Room k A) (h : Option Value) : RoomQ k (A.mark h) := ⟨r.dp, r.un⟩
theorem RoomQ.depth {k : Nat} {A : Around} (r : RoomQ k A) : A.depth < recursionLimit := by have := r.dp; omega
theorem RoomQ.deeper {k : Nat} {A : Around} (r : RoomQ (k + 1) A) (env : Env) : RoomQ k (A.deeper env) :=
  ⟨by have := r.dp; show A.depth + 1 + 3 * k + 5 < _; omega, by have := r.un; show A.units + 3 + 16 * k + 200 < _; omega⟩
structure FnOkQ (P : Program) (w : World) (K : PySem.W.Frag) (mg : Str → Option Value) (base : Heap) (k : Nat) (f : Addr) (fd : FuncData) (ps : List Str) (sp : Sp) : Prop where
  len : ∀ vs H Q, sp vs H Q E0 → vs.length = ps.length
  run : ∀ (A : Around) (outer : List Env) (s : Shared) (H : Hp) (args : Args) (us : List Value) (vs : List V) (Q : VK), RoomQ k A → Env0 P w K mg base A outer s H → BindsTo s fd args (ps.zip us) → Vals vs us → sp vs H Q E0 →
    codeAny (model P w) A (.call (.ref f) args) (CR CX0 outer P w H s Q E0) s
abbrev cxQ (P : Program) (w : World) (K : PySem.W.Frag) (mg : Str → Option Value) (base : Heap) (N : List Str) (qual : Str) (scope : Scope) (f : Addr) (cd : Value) (A : Around) (outer : List Env) (s : Shared) (H : Hp) : Cx :=
  { cxOf CX0 P w K mg base N qual scope f cd A outer s H E0 with calm := false, xe := fun _ _ => False }
section
variable {P : Program} {w : World} {K : PySem.W.Frag} {mg : Str → Option Value} {base : Heap} {N ps : List Str} {qual : Str} {f : Addr} {k : Nat} {sp : Sp}
theorem inv_startQ {scope : Scope} {cd : Value} {A : Around} {outer : List Env} {s s1 : Shared} {H : Hp} {us : List Value} {vs : List V}
    (S : FnScope N ps scope) (e0 : Env0 P w K mg base A outer s H) (hl : vs.length = ps.length) (r : Vals vs us)
    (x : InCallC s s.heap.objs.size (bindL (envOfC qual scope s.heap.objs.size f cd).kindOf (ps.zip us) fun _ => none) (cellsFrom (s.heap.objs.size + 1) scope.names []) (bindC (envOfC qual scope s.heap.objs.size f cd).kindOf (ps.zip us) fun _ => none) s1) :
    Inv (cxQ P w K mg base N qual scope f cd A outer s H) [] (start N vs) H s1 := by
  have J := inv_start (CX := CX0) (E := E0) (A := { A with handled := none }) (P := P) (w := w) (K := K) (mg := mg) (base := base) (qual := qual) (f := f) (cd := cd) (outer := outer) (H := H) S rfl ⟨e0.frames, e0.mod, e0.bs, e0.bsz, e0.funs, e0.frf, e0.hok, e0.bare⟩ hl r x
  exact ⟨⟨J.ok.mod, J.ok.kind, J.ok.glob, J.ok.blt, J.ok.above, J.ok.inj, J.ok.has, J.ok.cab, (fun z => nomatch z), Around.frames_deeper e0.frames, J.ok.stk, J.ok.exf, J.ok.bs, J.ok.bsz, J.ok.noex, J.ok.exfs, J.ok.funs, J.ok.frf⟩,
    J.os, J.bare, J.base, J.loc, J.cell, J.free, J.freeC, J.pin, J.hok, J.len⟩
theorem Fun.okQ {x : Str} {st : Stmt} {fd : FuncData} (F : Fun K x qual st f fd) (S : FnScope N ps (defScope st)) (len : ∀ vs H Q, sp vs H Q E0 → vs.length = ps.length)
    (hbody : ∀ (cdv : Value) (A : Around) (outer : List Env) (s : Shared) (H : Hp) (vs : List V) (Q : VK), RoomQ k (A.deeper (envOfC qual (defScope st) s.heap.objs.size f cdv)) → sp vs H Q E0 →
      ∃ t, PSs (cxQ P w K mg base N qual (defScope st) f cdv A outer s H) (defBody st) t ∧ t { nx := fun _ H' => Q .non H', rt := Q } (start N vs) H) : FnOkQ P w K mg base (k + 1) f fd ps sp := by
  obtain ⟨oc, od, kV, doc, pm, an, cdv, ct, osl, rfl, lk, hcd⟩ := F.ex
  refine ⟨len, fun A outer s H args us vs Q hr e0 hb r hsp => ?_⟩
  have hl := len _ _ _ hsp
  have KX : K.In s.heap := e0.mod.kin.keeps fun b o e => (e0.bs b o e).1
  have lim : s.heap.NoLimit := e0.mod.nolimit.keeps fun b o e => (e0.bs b o e).1
  have hkind : ∀ y ∈ ps.zip us, (defScope st).names.lookup y.1 = some .local ∨ ((defScope st).names.lookup y.1 = some .cell ∧ ((cellsFrom (s.heap.objs.size + 1) (defScope st).names []).lookup y.1).isSome = true) := fun ⟨n, v⟩ hy => by
    rcases S.par n (List.of_mem_zip hy).1 with q | q
    · exact .inl q
    · exact .inr ⟨q, PySem.W.cellsFrom_some _ _ _ (.inl q)⟩
  refine codeAny_call_function hr.depth (KX _ _ lk) rfl S.co S.gen rfl (PySem.W.codeRec_of KX hcd) (hb _ _ _ _ ?_)
  refine wpAny_newFunctionEnv_cells S.kind hkind fun env he s1 x => ?_
  subst he
  refine ⟨lim.keeps x.toInCall.keep, codeAny_func ?_⟩
  obtain ⟨t, ht, hq⟩ := hbody cdv A outer s H vs Q (hr.deeper _) hsp
  have I : Inv (cxQ P w K mg base N qual (defScope st) f cdv A outer s H) [] (start N vs) H s1 := inv_startQ S e0 hl r x
  refine wpAny_mono (ht [] s1 (start N vs) H _ I hq) (fun fl s' hs => ?_) fun e s' hs => hs.elim
  have fin : ∀ {σ' : St} {H' : Hp} {v : V} {u : Value}, Inv (cxQ P w K mg base N qual (defScope st) f cdv A outer s H) [] σ' H' s' → RelV v u → Q v H' → CE outer P w H s Q u s' :=
    fun {σ' H' v u} J rv q => ⟨v, H', J.os, J.bare, J.base, J.hok, rv, q⟩
  cases fl with
  | ret u =>
    obtain ⟨v, σ', H', J, rv, q⟩ := hs
    exact fin J rv q
  | next =>
    obtain ⟨σ', H', J, q⟩ := hs
    exact fin (v := V.non) (u := Value.none) J rfl q
  | brk =>
    obtain ⟨_, _, _, q⟩ := hs
    exact False.elim q
  | cont =>
    obtain ⟨_, _, _, q⟩ := hs
    exact False.elim q
end
section
variable {X : Cx} {k : Nat} {f : Addr} {fd : FuncData} {ps : List Str} {sp : Sp} {x : Str} {p pos : Pos} {e : Expr} {es : List Expr} {t : TA}
def tCallQ (sp : Sp) (t : TA) : TE := fun σ H Q => t σ H fun vs H1 => sp vs H1 Q E0
theorem pe_callQ (F : FnOkQ X.prog X.w X.K X.mg X.base k f fd ps sp) (hr : RoomQ k X.A) (hg : Gl X x) (hm : X.mg x = some (.ref f)) (hk : PySem.W.keepIn X.K (.ref f) = true) (hb : Binds X.K fd ps [])
    (ha : PA X (e :: es) t) (hdb : (x == ("__debug__" : Str)) = false := by decide) (he : starEach (e :: es) X.env = (false, eval e X.env) :: starEach es X.env := by rfl) (hpl : (backTo pos (starEach es X.env)).any (·.1) = false := by rfl) :
    PE X (.Call (.Name x p) (e :: es) [] pos) (tCallQ sp t) := by
  intro pins s σ H Q I h
  refine wpAny_Call_Name_kw (ld_glob I hg hm ?_ hdb)
  refine PySem.W.callWith_K (h₀ := X.base) I.ok.mod.kin hk (thn (ha pos pins s σ H _ I h) fun us s1 ⟨vs, H1, I1, r, q⟩ => ⟨I1.kIn, ?_⟩) he hpl
  have hl : (us ++ []).length = ps.length := by rw [List.append_nil, ← r.length]; exact F.len _ _ _ q
  have hbb := hb s1 us I1.kIn hl
  rw [List.append_nil] at hbb
  refine wpAny_call (codeAny_mono (F.run X.A X.stack s1 H1 ⟨us, []⟩ us vs Q hr I1.env0 hbb r q) fun r s' hq => ?_)
  cases r with
  | error e => exact hq.elim
  | ok fl =>
    cases fl with
    | ret u => exact I1.after hq
    | next => exact False.elim hq
    | brk => exact False.elim hq
    | cont => exact False.elim hq
end
end L2

end
section
set_option Elab.async false
set_option linter.all false
set_option maxRecDepth 100000
set_option maxHeartbeats 4000000
namespace L2
open PySem PySem.Spec PyProof.Rows PySem.SeqAt
/-! isinstance of things: ints, bools, texts, None, lists, tuples -/
inductive Th (H : Hp) : V → Prop where
  | non : Th H .non
  | bl (b : Bool) : Th H (.bl b)
  | int (i : Int) : Th H (.int i)
  | str (x : Str) : Th H (.str x)
  | lst {a : Addr} {xs : List V} (e : H a = some (.lst xs)) : Th H (.ref a)
  | frz {a : Addr} {o : Obj} {xs : List V} (e : H a = some (.frz o (.lst xs))) : Th H (.ref a)
  | tup {a : Addr} {xs : List V} (e : H a = some (.tup xs)) : Th H (.ref a)
  | dic {a : Addr} {kvs : List (Key × V)} (e : H a = some (.dK kvs)) : Th H (.ref a)
theorem Th.same {H H' : Hp} {x : V} (t : Th H x) (s : Same H H') : Th H' x := by
  cases t with
  | non => exact .non
  | bl b => exact .bl b
  | int i => exact .int i
  | str z => exact .str z
  | lst e => exact .lst (s _ _ e)
  | frz e => exact .frz (s _ _ e)
  | tup e => exact .tup (s _ _ e)
  | dic e => exact .dic (s _ _ e)
def isI : V → Bool
  | .int _ => true
  | _ => false
def isB : V → Bool
  | .bl _ => true
  | _ => false
section
variable {K : PySem.W.Frag}
theorem kit_int_non : PySem.W.kitOne K (.type "NoneType") (.type "int") = some false := by kernel_rfl
theorem kit_int_bl : PySem.W.kitOne K (.type "bool") (.type "int") = some true := by kernel_rfl
theorem kit_int_int : PySem.W.kitOne K (.type "int") (.type "int") = some true := by kernel_rfl
theorem kit_int_str : PySem.W.kitOne K (.type "str") (.type "int") = some false := by kernel_rfl
theorem kit_int_lst : PySem.W.kitOne K (.type "list") (.type "int") = some false := by kernel_rfl
theorem kit_int_tup : PySem.W.kitOne K (.type "tuple") (.type "int") = some false := by kernel_rfl
theorem kit_int_dic : PySem.W.kitOne K (.type "dict") (.type "int") = some false := by kernel_rfl
theorem kit_bool_non : PySem.W.kitOne K (.type "NoneType") (.type "bool") = some false := by kernel_rfl
theorem kit_bool_bl : PySem.W.kitOne K (.type "bool") (.type "bool") = some true := by kernel_rfl
theorem kit_bool_int : PySem.W.kitOne K (.type "int") (.type "bool") = some false := by kernel_rfl
theorem kit_bool_str : PySem.W.kitOne K (.type "str") (.type "bool") = some false := by kernel_rfl
theorem kit_bool_lst : PySem.W.kitOne K (.type "list") (.type "bool") = some false := by kernel_rfl
theorem kit_bool_tup : PySem.W.kitOne K (.type "tuple") (.type "bool") = some false := by kernel_rfl
theorem kit_bool_dic : PySem.W.kitOne K (.type "dict") (.type "bool") = some false := by kernel_rfl
theorem kit_lst_lst : PySem.W.kitOne K (.type "list") (.type "list") = some true := by kernel_rfl
theorem kit_lst_non : PySem.W.kitOne K (.type "NoneType") (.type "list") = some false := by kernel_rfl
theorem kit_lst_bl : PySem.W.kitOne K (.type "bool") (.type "list") = some false := by kernel_rfl
theorem kit_lst_int : PySem.W.kitOne K (.type "int") (.type "list") = some false := by kernel_rfl
theorem kit_lst_str : PySem.W.kitOne K (.type "str") (.type "list") = some false := by kernel_rfl
theorem kit_lst_tup : PySem.W.kitOne K (.type "tuple") (.type "list") = some false := by kernel_rfl
theorem kit_lst_dic : PySem.W.kitOne K (.type "dict") (.type "list") = some false := by kernel_rfl
end
section
variable {X : Cx}
theorem call_isint : CallR X (.builtin "isinstance") (fun xs H Q => ∃ x, xs = [x, .ty "int"] ∧ Th H x ∧ Q (.bl (isI x || isB x)) H) := by
  intro pins s σ H xs us Q I r h
  obtain ⟨x, rfl, th, q⟩ := h
  obtain ⟨u, v, rfl, rx, rt⟩ := r.two
  obtain rfl : v = Value.type "int" := rt
  cases th with
  | non => exact isinst_ok I rx .non kit_int_non fun tk => ⟨.bl _, H, I.tok tk, rfl, q⟩
  | bl b => exact isinst_ok I rx (.bl b) kit_int_bl fun tk => ⟨.bl _, H, I.tok tk, rfl, q⟩
  | int i => exact isinst_ok I rx (.int i) kit_int_int fun tk => ⟨.bl _, H, I.tok tk, rfl, q⟩
  | str z => exact isinst_ok I rx (.str z) kit_int_str fun tk => ⟨.bl _, H, I.tok tk, rfl, q⟩
  | lst e => exact isinst_ok I rx (.lst e) kit_int_lst fun tk => ⟨.bl _, H, I.tok tk, rfl, q⟩
  | frz e => exact isinst_ok I rx (.frz e) kit_int_lst fun tk => ⟨.bl _, H, I.tok tk, rfl, q⟩
  | tup e => exact isinst_ok I rx (.tup e) kit_int_tup fun tk => ⟨.bl _, H, I.tok tk, rfl, q⟩
  | dic e => exact isinst_ok I rx (.dK e) kit_int_dic fun tk => ⟨.bl _, H, I.tok tk, rfl, q⟩
theorem call_isbool : CallR X (.builtin "isinstance") (fun xs H Q => ∃ x, xs = [x, .ty "bool"] ∧ Th H x ∧ Q (.bl (isB x)) H) := by
  intro pins s σ H xs us Q I r h
  obtain ⟨x, rfl, th, q⟩ := h
  obtain ⟨u, v, rfl, rx, rt⟩ := r.two
  obtain rfl : v = Value.type "bool" := rt
  cases th with
  | non => exact isinst_ok I rx .non kit_bool_non fun tk => ⟨.bl _, H, I.tok tk, rfl, q⟩
  | bl b => exact isinst_ok I rx (.bl b) kit_bool_bl fun tk => ⟨.bl _, H, I.tok tk, rfl, q⟩
  | int i => exact isinst_ok I rx (.int i) kit_bool_int fun tk => ⟨.bl _, H, I.tok tk, rfl, q⟩
  | str z => exact isinst_ok I rx (.str z) kit_bool_str fun tk => ⟨.bl _, H, I.tok tk, rfl, q⟩
  | lst e => exact isinst_ok I rx (.lst e) kit_bool_lst fun tk => ⟨.bl _, H, I.tok tk, rfl, q⟩
  | frz e => exact isinst_ok I rx (.frz e) kit_bool_lst fun tk => ⟨.bl _, H, I.tok tk, rfl, q⟩
  | tup e => exact isinst_ok I rx (.tup e) kit_bool_tup fun tk => ⟨.bl _, H, I.tok tk, rfl, q⟩
  | dic e => exact isinst_ok I rx (.dK e) kit_bool_dic fun tk => ⟨.bl _, H, I.tok tk, rfl, q⟩
def isLst (H : Hp) : V → Bool
  | .ref a => match H a with | some (.lst _) => true | some (.frz _ (.lst _)) => true | _ => false
  | _ => false
theorem call_islist : CallR X (.builtin "isinstance") (fun xs H Q => ∃ x, xs = [x, .ty "list"] ∧ Th H x ∧ Q (.bl (isLst H x)) H) := by
  intro pins s σ H xs us Q I r h
  obtain ⟨x, rfl, th, q⟩ := h
  obtain ⟨u, v, rfl, rx, rt⟩ := r.two
  obtain rfl : v = Value.type "list" := rt
  cases th with
  | non => exact isinst_ok I rx .non kit_lst_non fun tk => ⟨.bl _, H, I.tok tk, rfl, q⟩
  | bl b => exact isinst_ok I rx (.bl b) kit_lst_bl fun tk => ⟨.bl _, H, I.tok tk, rfl, q⟩
  | int i => exact isinst_ok I rx (.int i) kit_lst_int fun tk => ⟨.bl _, H, I.tok tk, rfl, q⟩
  | str z => exact isinst_ok I rx (.str z) kit_lst_str fun tk => ⟨.bl _, H, I.tok tk, rfl, q⟩
  | lst e => exact isinst_ok I rx (.lst e) kit_lst_lst fun tk => ⟨.bl _, H, I.tok tk, rfl, by simp only [isLst, e] at q; exact q⟩
  | frz e => exact isinst_ok I rx (.frz e) kit_lst_lst fun tk => ⟨.bl _, H, I.tok tk, rfl, by simp only [isLst, e] at q; exact q⟩
  | tup e => exact isinst_ok I rx (.tup e) kit_lst_tup fun tk => ⟨.bl _, H, I.tok tk, rfl, by simp only [isLst, e] at q; exact q⟩
  | dic e => exact isinst_ok I rx (.dK e) kit_lst_dic fun tk => ⟨.bl _, H, I.tok tk, rfl, by simp only [isLst, e] at q; exact q⟩
/-! isinstance of a caught refusal -/
def IsC (K : PySem.W.Frag) (D : Addr) (c : V) (b : Bool) : Prop := EX.Cls K D ∧ ((∃ C, c = .ref C ∧ b = false ∧ PySem.W.kin_not K D C = true) ∨
  (∃ C, c = .ref C ∧ b = true ∧ PySem.W.typeIn K (.ref C) = some (.type "type") ∧ PySem.W.mroIn K C (.type "object") = some true ∧ PySem.W.subIn K (.ref D) (.ref C) = some true) ∨
  (∃ T, c = .ty T ∧ b = true ∧ typeOf (.type T) = pure (.type "type") ∧ PySem.W.subIn K (.ref D) (.type T) = some true))
theorem call_isexc {D : Addr} {c : V} {b : Bool} (hc : IsC X.K D c b) : CallR X (.builtin "isinstance") (fun xs H Q => ∃ e od, xs = [.ref e, c] ∧ H e = some (xob e (.ref D) od) ∧ Q (.bl b) H) := by
  intro pins s σ H xs us Q I r h
  obtain ⟨e, od, rfl, he, q⟩ := h
  obtain ⟨u, v, rfl, rx, rt⟩ := r.two
  obtain rfl : u = Value.ref e := rx
  obtain ⟨⟨oe, h1, h2, _⟩, _, _⟩ := (show ObjOk X.prog X.w H s.heap e (xob e (.ref D) od) from I.hok e _ he)
  obtain ⟨k, hc⟩ := hc
  rcases hc with ⟨C, rfl, rfl, e1⟩ | ⟨C, rfl, rfl, e1, e2, e3⟩ | ⟨T, rfl, rfl, e1, e3⟩
  · obtain rfl : v = Value.ref C := rt
    exact EX.call_not I.kIn h1 h2 k e1 ⟨.bl _, H, I.tok _, rfl, q⟩
  · obtain rfl : v = Value.ref C := rt
    exact EX.call_yes I.kIn h1 h2 k e1 e2 e3 ⟨.bl _, H, I, rfl, q⟩
  · obtain rfl : v = Value.type T := rt
    exact EX.call_yesT I.kIn h1 h2 k e1 e3 ⟨.bl _, H, I, rfl, q⟩
end
/-! == of lists, by their data -/
mutual
inductive DatR (K : PySem.W.Frag) (H : Hp) : V → PyData → Prop
  | non : DatR K H .non .none
  | bl (b : Bool) : DatR K H (.bl b) (.bool b)
  | int (i : Int) : DatR K H (.int i) (.int i)
  | str (x : Str) : DatR K H (.str x) (.str x)
  | lst {a : Addr} {xs : List V} {ds : List PyData} : SqL K H a xs → DatsR K H xs ds → DatR K H (.ref a) (.list ds)
  | tup {a : Addr} {xs : List V} {ds : List PyData} : SqT K H a xs → DatsR K H xs ds → DatR K H (.ref a) (.tuple ds)
inductive DatsR (K : PySem.W.Frag) (H : Hp) : List V → List PyData → Prop
  | nil : DatsR K H [] []
  | cons {x : V} {d : PyData} {xs : List V} {ds : List PyData} : DatR K H x d → DatsR K H xs ds → DatsR K H (x :: xs) (d :: ds)
end
section
variable {X : Cx} {pins : List (Addr × Obj)} {σ : St} {H : Hp} {s : Shared}
mutual
theorem DatR.reads (I : Inv X pins σ H s) : ∀ {v : V} {d : PyData} {u : Value}, DatR X.K H v d → RelV v u → ∃ as, Reads s.heap u d as
  | _, _, _, .non, r => ⟨[], by cases (show _ = Value.none from r); exact .none⟩
  | _, _, _, .bl b, r => ⟨[], by cases (show _ = Value.bool b from r); exact .bool b⟩
  | _, _, _, .int i, r => ⟨[], by obtain ⟨t, rfl⟩ := r; exact .int i t⟩
  | _, _, _, .str x, r => ⟨[], by obtain ⟨t, rfl⟩ := r; exact .str x t⟩
  | _, _, _, .lst (a := a) sq ds, r => by
    cases (show _ = Value.ref a from r)
    obtain ⟨its, rv, ⟨o, n, e, hc, _, hd⟩, _⟩ := I.list sq
    obtain ⟨as, ra⟩ := DatsR.reads I ds rv
    exact ⟨_, .list e hc hd (by simpa using ra)⟩
  | _, _, _, .tup (a := a) sq ds, r => by
    cases (show _ = Value.ref a from r)
    obtain ⟨its, rv, ⟨o, e, hc, n, hd⟩, _⟩ := I.tuple sq
    obtain ⟨as, ra⟩ := DatsR.reads I ds rv
    exact ⟨_, .tuple e hc hd (by simpa using ra)⟩
theorem DatsR.reads (I : Inv X pins σ H s) : ∀ {vs : List V} {ds : List PyData} {us : List Value}, DatsR X.K H vs ds → Vals vs us → ∃ as, ReadsAll s.heap us ds as
  | _, _, _, .nil, .nil => ⟨[], .nil⟩
  | _, _, _, .cons d ds, .cons r rs => by
    obtain ⟨as, ra⟩ := DatR.reads I d r
    obtain ⟨bs, rb⟩ := DatsR.reads I ds rs
    exact ⟨_, .cons ra rb⟩
end
end
section
variable {X : Cx}
def rEqD (K : PySem.W.Frag) : R2 := fun x y H Q => ∃ da db, DatR K H x da ∧ DatR K H y db ∧ shaped da = true ∧ shaped db = true ∧ Q (.bl (PyData.eqv da db)) H
def rNeD (K : PySem.W.Frag) : R2 := fun x y H Q => ∃ da db, DatR K H x da ∧ DatR K H y db ∧ shaped da = true ∧ shaped db = true ∧ Q (.bl (!PyData.eqv da db)) H
theorem op_eqD (hu : X.A.units + 64 < cLine) : OpR X (compareOp .Eq) (rEqD X.K) := by
  intro pins s σ H x y v u Q I rx ry h
  obtain ⟨da, db, ra, rb, ha, hb, q⟩ := h
  obtain ⟨as, r1⟩ := ra.reads I rx
  obtain ⟨bs, r2⟩ := rb.reads I ry
  exact eq_dataH r1 r2 ha hb hu ⟨.bl _, H, I, rfl, q⟩
theorem op_neD (hu : X.A.units + 64 < cLine) : OpR X (compareOp .NotEq) (rNeD X.K) := by
  intro pins s σ H x y v u Q I rx ry h
  obtain ⟨da, db, ra, rb, ha, hb, q⟩ := h
  obtain ⟨as, r1⟩ := ra.reads I rx
  obtain ⟨bs, r2⟩ := rb.reads I ry
  exact ne_dataH r1 r2 ha hb hu ⟨.bl _, H, I, rfl, q⟩
end
end L2

end
section
set_option Elab.async false
set_option linter.all false
set_option maxRecDepth 100000
set_option maxHeartbeats 4000000
namespace L2
open PySem PySem.Spec PyProof.Rows
/-! [e for x in xs], [e for x in xs if c] -/
def compN (x : Str) (N : List Str) : List Str := x :: N.map fun y => if y = x then ("" : Str) else y
def CapOk (X : Cx) (x : Str) (cl : List (Str × Addr)) : List (Str × NameKind) → Prop
  | [] => True
  | (n, k) :: r => (((n = x ∨ n = ".0") ∧ k = .local) ∨ (k ≠ .local ∧ k ≠ .cell ∧ k ≠ .free) ∨ (k = .cell ∧ n ≠ x ∧ n ≠ "" ∧ X.env.scope.names.lookup n = some .cell ∧ cl.lookup n = X.env.cells.lookup n)) ∧ CapOk X x cl r
def ClOk (X : Cx) : List (Str × Addr) → Prop
  | [] => True
  | (n, c) :: r => X.env.cells.lookup n = some c ∧ ClOk X r
theorem CapOk.at {X : Cx} {x : Str} {cl : List (Str × Addr)} {y : Str} {k : NameKind} : ∀ {l : List (Str × NameKind)}, CapOk X x cl l → l.lookup y = some k →
    ((y = x ∨ y = ".0") ∧ k = .local) ∨ (k ≠ .local ∧ k ≠ .cell ∧ k ≠ .free) ∨ (k = .cell ∧ y ≠ x ∧ y ≠ "" ∧ X.env.scope.names.lookup y = some .cell ∧ cl.lookup y = X.env.cells.lookup y)
  | [], _, h => by simp at h
  | (n, k') :: r, ⟨h1, h2⟩, h => by
    rw [List.lookup_cons] at h
    split at h
    · rename_i e
      cases h
      rw [beq_iff_eq.mp e]
      exact h1
    · exact CapOk.at h2 h
theorem ClOk.at {X : Cx} {y : Str} {c : Addr} : ∀ {l : List (Str × Addr)}, ClOk X l → l.lookup y = some c → X.env.cells.lookup y = some c
  | [], _, h => by simp at h
  | (n, k') :: r, ⟨h1, h2⟩, h => by
    rw [List.lookup_cons] at h
    split at h
    · rename_i e
      cases h
      rw [beq_iff_eq.mp e]
      exact h1
    · exact ClOk.at h2 h
abbrev cxC (X : Cx) (x : Str) (scope : Scope) (cl : List (Str × Addr)) (C : Addr) (s₂ : Shared) (H₂ : Hp) (fp : List Addr) : Cx :=
  { X with N := compN x X.N, s₀ := s₂, H₀ := H₂, env := compEnvC scope cl C X.env, outer := X.stack, ex := fp, fn := fun _ => false, pn := [], xe := fun _ _ => False }
section
variable {X : Cx} {pins : List (Addr × Obj)} {σ : St} {H₂ : Hp} {s₂ : Shared} {fp : List Addr} {x : Str} {scope : Scope} {cl : List (Str × Addr)} {C : Addr}
theorem okC (I : Inv X pins σ H₂ s₂) (hf : ∀ b ∈ fp, FpOk X pins H₂ b) (ho : ∀ b ∈ fp, ∃ o, s₂.heap.get? b = some o) (hkind : scope.kind = .function) (hc : CapOk X x cl (relabel scope X.env).names) (hcl : ClOk X cl) (hC : s₂.heap.objs.size ≤ C) :
    (cxC X x scope cl C s₂ H₂ fp).Ok where
  mod := I.ok.mod
  kind := hkind
  glob := I.ok.glob
  blt := I.ok.blt
  above := hC
  inj := fun y z c h1 h2 => I.ok.inj y z c (hcl.at h1) (hcl.at h2)
  has := fun y hy => by
    have hy' : (relabel scope X.env).names.lookup y = some .cell ∨ (relabel scope X.env).names.lookup y = some .free := hy
    rcases hy' with h | h
    · rcases hc.at h with ⟨_, z⟩ | ⟨_, z, _⟩ | ⟨_, _, _, z1, z2⟩
      · cases z
      · exact absurd rfl z
      · obtain ⟨c, e⟩ := I.ok.has y (.inl z1)
        exact ⟨c, z2.trans e⟩
    · rcases hc.at h with ⟨_, z⟩ | ⟨_, _, z⟩ | ⟨z, _⟩
      · cases z
      · exact absurd rfl z
      · cases z
  cab := fun y c h _ => absurd (show false = true from h) Bool.false_ne_true
  hd := I.ok.hd
  frames := I.ok.frames
  stk := .inl rfl
  exf := fun b hb => by
    obtain ⟨o, e⟩ := ho b hb
    exact ⟨Nat.ne_of_lt (Nat.lt_of_lt_of_le (Heap.lt_size e) hC), fun y c h => (hf b hb).2.2.2.2.1 y c (hcl.at h)⟩
  bs := I.bs
  bsz := Nat.le_trans I.ok.bsz I.sz
  noex := fun b o e hb => by
    rcases (hf b hb).2.2.2.1 with z | z
    · exact I.ok.noex b o e z
    · exact absurd (Nat.lt_of_lt_of_le (Heap.lt_size (I.ok.bs b o e).1) z) (Nat.lt_irrefl _)
  exfs := fun b hb z => by
    rcases List.mem_cons.mp (I.stkSub b z) with q | q
    · exact (hf b hb).2.1 q
    · exact (hf b hb).2.2.1 q
  funs := I.stack
  frf := I.stkFree
theorem invC {h₁ : Heap} {tk : Nat} (I : Inv X pins σ H₂ s₂) (hf : ∀ b ∈ fp, FpOk X pins H₂ b) (ho : ∀ b ∈ fp, ∃ o, s₂.heap.get? b = some o) (hkind : scope.kind = .function) (hc : CapOk X x cl (relabel scope X.env).names) (hcl : ClOk X cl) (hx0 : x ≠ "") (hdot : (".0" : Str) ∉ X.N)
    (hC : C = s₂.heap.objs.size + 1) (hns : h₁.Ns C fun _ => none) (old : ∀ b o, s₂.heap.get? b = some o → h₁.get? b = some o) (hD : ∃ n, h₁.get? s₂.heap.objs.size = some { cls := .type "list", data := .seq #[] n }) :
    Inv (cxC X x scope cl C s₂ H₂ fp) [] (none :: σ) (upd H₂ s₂.heap.objs.size (.lst [])) { s₂ with heap := h₁, toks := tk } := by
  have hn : H₂ s₂.heap.objs.size = none := I.hok.fresh (Nat.le_refl _)
  refine ⟨okC I hf ho hkind hc hcl (by rw [hC]; exact Nat.le_succ _), rfl, I.bare, Un.laid old (Nat.le_refl _) hn, ⟨_, hns, fun i y v h1 h2 h3 => ?_⟩, fun y c e => ?_, ?_, fun y c e => ?_, fun p hp => absurd (show p ∈ ([] : List (Addr × Obj)) from hp) (by simp), ?_, ?_⟩
  · cases i with
    | zero =>
      have h2' : some (none : Option V) = some (some v) := h2
      cases h2'
    | succ i =>
      have h1' : (X.N.map fun y => if y = x then ("" : Str) else y)[i]? = some y := h1
      have h2' : σ[i]? = some (some v) := h2
      rw [List.getElem?_map] at h1'
      cases e : X.N[i]? with
      | none => rw [e] at h1'; cases h1'
      | some z =>
        rw [e] at h1'
        have h1'' : (if z = x then ("" : Str) else z) = y := Option.some.inj h1'
        have cap : ∀ k, (relabel scope X.env).names.lookup y = some k → k = .local ∨ k = .cell ∨ k = .free → X.env.scope.names.lookup y = some .cell ∧ cl.lookup y = X.env.cells.lookup y ∧ k = .cell ∧ z = y := fun k hk hv => by
          rcases hc.at hk with ⟨q, _⟩ | ⟨q1, q2, q3⟩ | ⟨q0, q1, q2, q3, q4⟩
          · exfalso
            rcases q with q | q
            · subst q
              by_cases hz : z = y
              · rw [if_pos hz] at h1''
                exact hx0 h1''.symm
              · rw [if_neg hz] at h1''
                exact hz h1''
            · subst q
              by_cases hz : z = x
              · rw [if_pos hz] at h1''
                exact absurd h1'' (by decide +kernel)
              · rw [if_neg hz] at h1''
                subst h1''
                exact hdot (List.mem_of_getElem? e)
          · rcases hv with q | q | q
            · exact absurd q q1
            · exact absurd q q2
            · exact absurd q q3
          · refine ⟨q3, q4, q0, ?_⟩
            by_cases hz : z = x
            · rw [if_pos hz] at h1''
              exact absurd h1''.symm q2
            · rw [if_neg hz] at h1''
              exact h1''
        have h3' : (relabel scope X.env).names.lookup y = some .local ∨ (relabel scope X.env).names.lookup y = some .cell ∨ (relabel scope X.env).names.lookup y = some .free := h3
        obtain ⟨k, hk, hv⟩ : ∃ k, (relabel scope X.env).names.lookup y = some k ∧ (k = .local ∨ k = .cell ∨ k = .free) := by
          rcases h3' with q | q | q
          · exact ⟨_, q, .inl rfl⟩
          · exact ⟨_, q, .inr (.inl rfl)⟩
          · exact ⟨_, q, .inr (.inr rfl)⟩
        obtain ⟨c1, c2, c3, rfl⟩ := cap k hk hv
        subst c3
        obtain ⟨m, _, hl⟩ := I.loc
        obtain ⟨u, r, l⟩ := hl i z v e h2' (.inr (.inl c1))
        refine ⟨u, r, ?_⟩
        rcases l with ⟨q, _⟩ | ⟨_, c, q1, q2⟩
        · have q' : X.env.scope.names.lookup z = some .local := q
          rw [c1] at q'
          cases q'
        · refine .inr ⟨.inl hk, c, c2.trans q1, ?_⟩
          obtain ⟨oc, g1, g2⟩ := q2
          exact ⟨oc, old _ _ g1, g2⟩
  · obtain ⟨v, oc, g1, g2⟩ := I.cell y c (hcl.at e)
    exact ⟨v, oc, old _ _ g1, g2⟩
  · show (upd H₂ s₂.heap.objs.size (.lst [])) C = none
    rw [upd_ne (by rw [hC]; exact Nat.ne_of_gt (Nat.lt_succ_self _))]
    exact I.hok.fresh (by rw [hC]; exact Nat.le_succ _)
  · obtain ⟨v, oc, g1, g2⟩ := I.cell y c (hcl.at e)
    rw [upd_ne (Nat.ne_of_lt (Heap.lt_size g1))]
    exact I.freeC y c (hcl.at e)
  · obtain ⟨n, e⟩ := hD
    exact I.hok.laid old (Nat.le_refl _) ⟨Nat.zero_le _, [], n, .nil, e⟩
  · show (none :: σ).length = (compN x X.N).length
    simp [compN, I.len]
theorem fpC (I : Inv X pins σ H₂ s₂) (hf : ∀ b ∈ fp, FpOk X pins H₂ b) (ho : ∀ b ∈ fp, ∃ o, s₂.heap.get? b = some o) (hcl : ClOk X cl) (hC : s₂.heap.objs.size ≤ C) {H : Hp} (hn : ∀ b ∈ fp, H b = none) : ∀ b ∈ fp, FpOk (cxC X x scope cl C s₂ H₂ fp) [] H b := fun b hb => by
  obtain ⟨o, e⟩ := ho b hb
  refine ⟨hn b hb, Nat.ne_of_lt (Nat.lt_of_lt_of_le (Heap.lt_size e) hC), fun z => ?_, .inl hb, fun y c h => (hf b hb).2.2.2.2.1 y c (hcl.at h), fun p hp => absurd (show p ∈ ([] : List (Addr × Obj)) from hp) (by simp)⟩
  rcases List.mem_cons.mp (I.stkSub b z) with q | q
  · exact (hf b hb).2.1 q
  · exact (hf b hb).2.2.1 q
end
theorem compLoop_go {prog : Program} {w : World} {A : Around} {R : Result → Shared → Prop} {s : Shared} {elt target iter : Expr} {ifs : List Expr} {scope : Scope} {pos : Pos} {it acc : Value} {env : Env} (I : Nat → Shared → Prop)
    (turn : ∀ n s, I n s → wpAny (model prog w) A (pyNext it) (fun r s₁ => match r with
      | none => R (.ok .next) s₁
      | some v => wpAny (model prog w) A (letOwnedTupleGo target it v) (fun _ s₀ => wpAny (model prog w) A (assign target env v) (fun _ s₂ =>
          wpAny (model prog w) A (forIn ifs true fun c r => if r = true then do let ok ← isTrue c env (eval c env); pure (ForInStep.yield ok) else pure (ForInStep.yield r)) (fun ok s₃ =>
            if ok = true then wpAny (model prog w) A (eval elt env) (fun x s₄ =>
              wpAny (model prog w) A (call (.builtin "list.append") [acc, x]) (fun _ s₅ => ∃ m, m < n ∧ I m s₅) (fun _ _ => False) s₄) (fun _ _ => False) s₃
            else ∃ m, m < n ∧ I m s₃) (fun _ _ => False) s₂) (fun _ _ => False) s₀) (fun _ _ => False) s₁) (fun _ _ => False) s)
    (n : Nat) (h : I n s) :
    codeAny (model prog w) A (.compLoop (.ListComp elt [⟨target, iter, ifs, 0⟩] scope pos) 0 it acc env) R s := by
  refine codeAny_loop rfl I (fun n s hI => ?_) n h
  show wpAny _ A ((compTurn (.ListComp elt [⟨target, iter, ifs, 0⟩] scope pos) 0 it acc env).onRaise (fun x => do noteFrame x env; theTreesLotGoes x)) _ _ s
  refine wpAny_noted ?_
  refine wpAny_noRaise ?_
  rw [compTurn_list]
  refine wpAny_bind (wpAny_standAt (wpAny_bind (wpAny_mono (turn n s hI) (fun r s₁ h₁ => ?_) fun _ _ h' => h')))
  cases r with
  | none => exact wpAny_pure h₁
  | some v =>
    refine wpAny_bind (wpAny_mono h₁ (fun _ s₀ h₀ => wpAny_bind (wpAny_mono h₀ (fun _ s₂ h₂ => wpAny_bind (wpAny_mono h₂ (fun ok s₃ h₃ => ?_) fun _ _ h' => h')) fun _ _ h' => h')) fun _ _ h' => h')
    cases ok with
    | false => exact wpAny_pure ⟨rfl, h₃⟩
    | true =>
      exact wpAny_bind (wpAny_bind (wpAny_mono h₃ (fun x s₄ h₄ => wpAny_bind (wpAny_mono h₄ (fun _ s₅ h₅ => wpAny_pure (wpAny_pure ⟨rfl, h₅⟩)) fun _ _ h' => h')) fun _ _ h' => h'))
inductive Ifs (PTc : Expr → TT → Prop) : List Expr → TT → Prop
  | nil : Ifs PTc [] (fun _ H Q => Q true H)
  | one {c : Expr} {t : TT} : PTc c t → Ifs PTc [c] t
def tComp (wi : TI) (tc : TT) (te : TE) : TE := fun σ H Q => wi σ H fun J H1 => ∀ D, H1 D = none → ∃ W : Nat → Nat → List V → Hp → Prop, (∃ m, W 0 m [] (upd H1 D (.lst []))) ∧ ∀ i m ys H, W i m ys H → H D = some (.lst ys) ∧
  ((J.stop i H ∧ Q (.ref D) H) ∨ (J.go i H ∧ ∃ N : List V → Hp → Prop, (∀ zs H', N zs H' → ∃ m', m' < m ∧ W (i + 1) m' zs H') ∧ ∀ x H', J.yld i H x H' → tc (some x :: σ) H' fun b H2 => if b = true then te (some x :: σ) H2 fun y H3 => H3 D = some (.lst ys) ∧ ys.length < sizeLine ∧ N (ys ++ [y]) (upd H3 D (.lst (ys ++ [y])))
    else N ys H2))
section
variable {X : Cx} {x : Str} {px pos : Pos} {scope : Scope} {cl : List (Str × Addr)} {elt iter : Expr} {ifs : List Expr} {wi : TI} {tc : TT} {te : TE}
theorem comp_block (hcalm : X.calm = true) (hkind : scope.kind = .function) (hnc : ∀ y ∈ scope.names, y.2 ≠ .cell) (hc : CapOk X x cl (relabel scope X.env).names) (hcl : ClOk X cl) (hx0 : x ≠ "") (hdot : (".0" : Str) ∉ X.N) (hxl : scope.names.lookup x = some .local) (hN : (compN x X.N).Nodup)
    (ht : ∀ C s₂ H₂ fp, Ifs (PT (cxC X x scope cl C s₂ H₂ fp)) ifs tc) (he : ∀ C s₂ H₂ fp, PE (cxC X x scope cl C s₂ H₂ fp) elt te)
    {pins : List (Addr × Obj)} {σ : St} {H₂ : Hp} {s₂ : Shared} {Q : VK} {it : Addr} {fp : List Addr} {tn : Nat → Heap → Prop} {J : It} {RR : Value → Addr → Result → Shared → Prop} {E : Value → Shared → Prop} (I : Inv X pins σ H₂ s₂) (T : Turn X.prog X.w X.K (.Name x px) J fp it tn) (st : tn 0 s₂.heap)
    (hf : ∀ b ∈ fp, FpOk X pins H₂ b)
    (hq : ∀ D, H₂ D = none → ∃ W : Nat → Nat → List V → Hp → Prop, (∃ m, W 0 m [] (upd H₂ D (.lst []))) ∧ ∀ i m ys H, W i m ys H → H D = some (.lst ys) ∧
      ((J.stop i H ∧ Q (.ref D) H) ∨ (J.go i H ∧ ∃ N : List V → Hp → Prop, (∀ zs H', N zs H' → ∃ m', m' < m ∧ W (i + 1) m' zs H') ∧ ∀ x H', J.yld i H x H' → tc (some x :: σ) H' fun b H2 => if b = true then te (some x :: σ) H2 fun y H3 => H3 D = some (.lst ys) ∧ ys.length < sizeLine ∧ N (ys ++ [y]) (upd H3 D (.lst (ys ++ [y])))
        else N ys H2)))
    (hRR : ∀ D C s' H', Inv X pins σ H' s' → Q (.ref D) H' → H' C = none → C ≠ X.env.locals → X.s₀.heap.objs.size ≤ C → (∀ y c, X.env.cells.lookup y = some c → c ≠ C) → (∀ p ∈ X.pn ++ pins, p.1 ≠ C) → (∃ m, s'.heap.Ns C m) → RR (.ref D) C (.ok .next) s') :
    wpAny (model X.prog X.w) X.A (newList []) (fun acc s₃ => wpAny (model X.prog X.w) X.A (newFunctionEnv scope X.env.globals cl [] X.env.qual none .none (some X.env)) (fun cenv s₄ =>
      codeAny (model X.prog X.w) X.A (.compStart (.ListComp elt [⟨.Name x px, iter, ifs, 0⟩] scope pos) 0 (.ref it) acc { cenv with scope := relabel scope X.env }) (RR acc cenv.locals) s₄) E s₃) E s₂ := by
  refine wpAny_newObj_type (wpAny_newFunctionEnv hnc (by intro y hy; simp at hy) (fun h₁ hns₁ hsb₁ => ?_) hkind)
  dsimp only at hns₁ hsb₁ ⊢
  have ho : ∀ b ∈ fp, ∃ o, s₂.heap.get? b = some o := fun b hb => let ⟨o, e, _⟩ := T.obj 0 _ st b hb; ⟨o, e⟩
  generalize hH2 : s₂.heap.push { cls := .type "list", dict := none, data := .seq ([] : List Value).toArray } = P2 at hns₁ hsb₁ ⊢
  have hC : P2.objs.size = s₂.heap.objs.size + 1 := by rw [← hH2, Heap.size_push]
  have old : ∀ b o, s₂.heap.get? b = some o → h₁.get? b = some o := fun b o e => hsb₁.extBut b o (by rw [hC]; exact Nat.ne_of_lt (Nat.lt_succ_of_lt (Heap.lt_size e))) (Heap.get?_push_of_some _ (hH2 ▸ Heap.get?_push_of_some _ e))
  have hD : ∃ n, h₁.get? s₂.heap.objs.size = some { cls := .type "list", data := .seq #[] n } := ⟨_, hsb₁.extBut _ _ (by rw [hC]; exact Nat.ne_of_lt (Nat.lt_succ_self _)) (Heap.get?_push_of_some _ (hH2 ▸ Heap.get?_push_size _ rfl))⟩
  have hns' : h₁.Ns P2.objs.size fun _ => none := by
    have e : (fun x : Str => ([] : List (Str × Value)).reverse.lookup x) = fun _ => none := by funext y; rfl
    rw [← e]
    exact hns₁
  have I0 := invC (tk := s₂.toks + ([] : List (Str × Value)).length) I hf ho hkind hc hcl hx0 hdot hC hns' old hD
  obtain ⟨W, ⟨m0, w0⟩, turn⟩ := hq _ (I.hok.fresh (Nat.le_refl _))
  have hCs : X.s₀.heap.objs.size ≤ P2.objs.size := by rw [hC]; exact Nat.le_succ_of_le I.sz
  have loop : ∀ s₃ : Shared, s₃ = { s₂ with heap := h₁, toks := s₂.toks + ([] : List (Str × Value)).length } →
      codeAny (model X.prog X.w) X.A (.compLoop (.ListComp elt [⟨.Name x px, iter, ifs, 0⟩] scope pos) 0 (.ref it) (.ref s₂.heap.objs.size) (compEnvC scope cl P2.objs.size X.env)) (RR (.ref s₂.heap.objs.size) P2.objs.size) s₃ := by
    rintro s₃ rfl
    refine compLoop_go (fun n s' => ∃ i ys v H, Inv (cxC X x scope cl P2.objs.size s₂ H₂ fp) [] (v :: σ) H s' ∧ tn i s'.heap ∧ (∀ b ∈ fp, H b = none) ∧ W i n ys H) ?_ m0
      ⟨0, [], none, _, I0, T.keep _ _ _ st fun b _ o e => old b o e, fun b hb => by rw [upd_ne (by obtain ⟨o, e⟩ := ho b hb; exact Nat.ne_of_lt (Heap.lt_size e))]; exact (hf b hb).1, w0⟩
    rintro n s' ⟨i, ys, v, H, I', st', fr', w'⟩
    have fpn : ∀ {H : Hp}, (∀ b ∈ fp, H b = none) → ∀ b ∈ fp, FpOk (cxC X x scope cl P2.objs.size s₂ H₂ fp) [] H b := fun hn => fpC I hf ho hcl (by rw [hC]; exact Nat.le_succ _) hn
    obtain ⟨hDl, go⟩ := turn i n ys H w'
    rcases go with ⟨stop, qn⟩ | ⟨go, Nx, hNx, step⟩
    · refine wpAny_mono (T.done (cxC X x scope cl P2.objs.size s₂ H₂ fp) rfl rfl rfl hcalm i [] s' (v :: σ) H (fun _ _ => False) I' (fpn fr') st' stop) (fun r s4 z => ?_) fun _ _ z => z
      obtain ⟨hr, I4⟩ := z
      subst hr
      obtain ⟨m4, hm4, _⟩ := I4.loc
      refine hRR _ _ s4 H (I.call' I4.os I4.base I4.hok I4.bare fun b hb => ?_) qn I4.free ?_ hCs (fun y c e z => ?_) (fun p hp z => ?_) ⟨m4, hm4⟩
      · obtain ⟨f0, f1, f2, f3, f4, f5⟩ := hf b hb
        exact ⟨f3, f1, f4, f5⟩
      · rw [hC]
        exact Nat.ne_of_gt (Nat.lt_succ_of_lt I.lt)
      · obtain ⟨v', oc, g1, _⟩ := I.cell y c e
        have := Heap.lt_size g1
        rw [z, hC] at this
        exact absurd (Nat.lt_of_succ_lt this) (Nat.lt_irrefl _)
      · have := Heap.lt_size (I.pin p hp).1
        rw [z, hC] at this
        exact absurd (Nat.lt_of_succ_lt this) (Nat.lt_irrefl _)
    · refine wpAny_mono (T.item (cxC X x scope cl P2.objs.size s₂ H₂ fp) rfl rfl rfl hcalm i [] s' (v :: σ) H (fun _ _ => False) I' (fpn fr') st' go) (fun r s4 z => ?_) fun _ _ z => z
      obtain ⟨u, hr, h4⟩ := z
      subst hr
      refine wpAny_mono h4 (fun _ s5 z => ?_) fun _ _ z => z
      obtain ⟨y, H5, I5, r5, y5, st5, fr5⟩ := z
      have I5' := I5.pinned (fpn fr5) (T.obj _ _ st5)
      have hxl' : (relabel scope X.env).names.lookup x = some .local := lookup_relabel_local hxl
      have hs := step y H5 y5
      refine wpAny_mono (pg_name (X := cxC X x scope cl P2.objs.size s₂ H₂ fp) (i := 0) (pos := px) hN rfl (.inl hxl') (.inr hxl') _ s5 (v :: σ) H5 y u (fun σ6 H6 => σ6 = some y :: σ ∧ H6 = H5) I5' r5 ⟨rfl, rfl⟩) (fun _ s6 z => ?_) fun _ _ z => z
      obtain ⟨σ6, H6, I6, rfl, rfl⟩ := z
      have again : ∀ {H7 : Hp} {s7 : Shared} {zs : List V}, Inv (cxC X x scope cl P2.objs.size s₂ H₂ fp) ([] ++ pinsAt fp s5.heap) (some y :: σ) H7 s7 → Nx zs H7 →
          ∃ m, m < n ∧ ∃ i ys v H, Inv (cxC X x scope cl P2.objs.size s₂ H₂ fp) [] (v :: σ) H s7 ∧ tn i s7.heap ∧ (∀ b ∈ fp, H b = none) ∧ W i m ys H := fun {H7 s7 zs} I7 w7 => by
        obtain ⟨m', hm, w7⟩ := hNx _ _ w7
        refine ⟨m', hm, i + 1, zs, some y, H7, I7.unpinned, T.keep _ _ _ st5 fun b hb o e => (I7.pin (b, o) (List.mem_append_right _ (List.mem_append_right _ (mem_pinsAt hb e)))).1, fun b hb => ?_, w7⟩
        obtain ⟨o, e, d⟩ := T.obj _ _ st5 b hb
        exact (I7.pin (b, o) (List.mem_append_right _ (List.mem_append_right _ (mem_pinsAt hb e)))).2.1
      have elts : ∀ {H7 : Hp} {s7 : Shared}, Inv (cxC X x scope cl P2.objs.size s₂ H₂ fp) ([] ++ pinsAt fp s5.heap) (some y :: σ) H7 s7 →
          (te (some y :: σ) H7 fun y' H3 => H3 s₂.heap.objs.size = some (.lst ys) ∧ ys.length < sizeLine ∧ Nx (ys ++ [y']) (upd H3 s₂.heap.objs.size (.lst (ys ++ [y'])))) →
          wpAny (model X.prog X.w) X.A (eval elt (compEnvC scope cl P2.objs.size X.env)) (fun xv s₄ =>
              wpAny (model X.prog X.w) X.A (call (.builtin "list.append") [.ref s₂.heap.objs.size, xv]) (fun _ s₅ => ∃ m, m < n ∧ ∃ i ys v H, Inv (cxC X x scope cl P2.objs.size s₂ H₂ fp) [] (v :: σ) H s₅ ∧ tn i s₅.heap ∧ (∀ b ∈ fp, H b = none) ∧ W i m ys H) (fun _ _ => False) s₄) (fun _ _ => False) s7 := fun {H7 s7} I7 q7 => by
        refine wpAny_mono (he P2.objs.size s₂ H₂ fp _ s7 (some y :: σ) H7 _ I7 q7) (fun u8 s8 z => ?_) fun _ _ z => z
        obtain ⟨y', H8, I8, r8, hD8, hz8, w8⟩ := z
        refine wpAny_mono (mt_append (X := cxC X x scope cl P2.objs.size s₂ H₂ fp) _ s8 (some y :: σ) H8 (.ref s₂.heap.objs.size) [y'] (.ref s₂.heap.objs.size) [u8] (fun _ H9 => H9 = upd H8 s₂.heap.objs.size (.lst (ys ++ [y']))) I8 rfl (.cons r8 .nil) ⟨_, ys, y', rfl, rfl, hD8, hz8, rfl⟩) (fun _ s9 z => ?_) fun _ _ z => z
        obtain ⟨_, H9, I9, _, rfl⟩ := z
        exact again I9 w8
      cases ht P2.objs.size s₂ H₂ fp with
      | nil => exact wpAny_tests_nil (elts I6 hs)
      | one hc1 =>
        refine wpAny_tests_one (wpAny_mono (hc1 _ s6 (some y :: σ) _ _ I6 hs) (fun b s7 z => ?_) fun _ _ z => z)
        obtain ⟨H7, I7, q7⟩ := z
        cases b with
        | true => exact elts I7 q7
        | false => exact again I7 q7
  exact codeAny_compStart_list (loop _ rfl) (T.self _ 0 _ _ _ (T.keep _ _ _ st fun b _ o e => old b o e) (loop _ rfl))
theorem pe_comp (hcalm : X.calm = true) (hi : PI X (.Name x px) iter wi) (hclos : closureFor scope X.env = pure cl) (hc : CapOk X x cl (relabel scope X.env).names) (hcl : ClOk X cl)
    (ht : ∀ C s₂ H₂ fp, Ifs (PT (cxC X x scope cl C s₂ H₂ fp)) ifs tc) (he : ∀ C s₂ H₂ fp, PE (cxC X x scope cl C s₂ H₂ fp) elt te) (hN : (compN x X.N).Nodup)
    (hkind : scope.kind = .function := by rfl) (hnc : ∀ y ∈ scope.names, y.2 ≠ .cell := by decide +kernel) (hnm : ∀ y ∈ scope.names, y.2 = .local → scope.names.lookup y.1 = some .local := by decide +kernel) (hx0 : x ≠ "" := by decide +kernel) (hdot : (".0" : Str) ∉ X.N := by decide +kernel) (hxl : scope.names.lookup x = some .local := by rfl)
    (hs : ∀ x, foldedSetIterable iter X.env x = pure x := by intro _; rfl) : PE X (.ListComp elt [⟨.Name x px, iter, ifs, 0⟩] scope pos) (tComp wi tc te) := by
  intro pins s σ H Q I h
  rw [eval_ListComp]
  refine wpAny_comprehension_free (use := none) rfl hs hclos hkind hnm (wpAny_mono (hi pins s σ H _ I h) (fun xv s₁ h₁ => wpAny_mono h₁ (fun itv s₂ h₂ => ?_) fun _ _ e => e) fun _ _ e => e)
  obtain ⟨it, fp, tn, J, H2, e, I2, T, st2, f2, hq⟩ := h₂
  subst e
  refine comp_block (RR := fun acc C => compPost (model X.prog X.w) X.A X.xe none (EP X pins σ Q) acc C) hcalm hkind hnc hc hcl hx0 hdot hxl hN ht he I2 T st2 f2 hq fun D C s' H' I' q' n1 n2 n3 n4 n5 n6 => ?_
  obtain ⟨m, hm⟩ := n6
  refine ⟨m, hm, fun h' hs' => ?_⟩
  exact ⟨.ref D, H', I'.turned (t' := s'.toks) (fun b o hb e => (hs'.2 b hb).trans e) n1 n2 (.inr n3) n4 n5, rfl, q'⟩
end
/-! the forms one uses: over a list that stays; over a range. Pv: the new list's place, the turn, its items so far, the heap -/
abbrev tYes : TT := fun _ H Q => Q true H
theorem comp_list {K : PySem.W.Frag} {a : Addr} {xs : List V} {tc : TT} {te : TE} {σ : St} {H1 : Hp} {Q : Addr → Hp → Prop} (Pv : Addr → Nat → List V → Hp → Prop) (h0 : ∀ D, H1 D = none → Pv D 0 [] (upd H1 D (.lst []))) (hl : ∀ D i ys H, i ≤ xs.length → Pv D i ys H → SqL K H a xs ∧ H D = some (.lst ys))
    (hs : ∀ D i x ys H, xs[i]? = some x → Pv D i ys H → tc (some x :: σ) H fun b H2 => if b = true then te (some x :: σ) H2 fun y H3 => H3 D = some (.lst ys) ∧ ys.length < sizeLine ∧ Pv D (i + 1) (ys ++ [y]) (upd H3 D (.lst (ys ++ [y]))) else Pv D (i + 1) ys H2)
    (hd : ∀ D ys H, Pv D xs.length ys H → Q D H) :
    ∀ D, H1 D = none → ∃ W : Nat → Nat → List V → Hp → Prop, (∃ m, W 0 m [] (upd H1 D (.lst []))) ∧ ∀ i m ys H, W i m ys H → H D = some (.lst ys) ∧
      (((Itl K a).stop i H ∧ Q D H) ∨ ((Itl K a).go i H ∧ ∃ N : List V → Hp → Prop, (∀ zs H', N zs H' → ∃ m', m' < m ∧ W (i + 1) m' zs H') ∧ ∀ x H', (Itl K a).yld i H x H' → tc (some x :: σ) H' fun b H2 => if b = true then te (some x :: σ) H2 fun y H3 => H3 D = some (.lst ys) ∧ ys.length < sizeLine ∧ N (ys ++ [y]) (upd H3 D (.lst (ys ++ [y])))
        else N ys H2)) := fun D hD => by
  refine ⟨fun i m ys H => m = xs.length - i ∧ i ≤ xs.length ∧ Pv D i ys H, ⟨xs.length, by simp, Nat.zero_le _, h0 D hD⟩, ?_⟩
  rintro i m ys H ⟨rfl, hi, p⟩
  obtain ⟨q, qd⟩ := hl D i ys H hi p
  refine ⟨qd, ?_⟩
  by_cases hlt : i < xs.length
  · refine .inr ⟨⟨xs, xs[i], q, by simp [hlt]⟩, Pv D (i + 1), fun zs H' p' => ⟨xs.length - (i + 1), by omega, rfl, hlt, p'⟩, fun x H' y => ?_⟩
    obtain ⟨e, y⟩ := y
    subst e
    exact hs D i x ys _ (y xs q) p
  · have e : i = xs.length := by omega
    subst e
    exact .inl ⟨⟨xs, q, Nat.le_refl _⟩, hd D ys H p⟩
theorem comp_range {lo : Int} {n : Nat} {tc : TT} {te : TE} {σ : St} {H1 : Hp} {Q : Addr → Hp → Prop} (Pv : Addr → Nat → List V → Hp → Prop) (h0 : ∀ D, H1 D = none → Pv D 0 [] (upd H1 D (.lst []))) (hl : ∀ D i ys H, i ≤ n → Pv D i ys H → H D = some (.lst ys))
    (hs : ∀ D i ys H, i < n → Pv D i ys H → tc (some (.int (lo + i)) :: σ) H fun b H2 => if b = true then te (some (.int (lo + i)) :: σ) H2 fun y H3 => H3 D = some (.lst ys) ∧ ys.length < sizeLine ∧ Pv D (i + 1) (ys ++ [y]) (upd H3 D (.lst (ys ++ [y]))) else Pv D (i + 1) ys H2)
    (hd : ∀ D ys H, Pv D n ys H → Q D H) :
    ∀ D, H1 D = none → ∃ W : Nat → Nat → List V → Hp → Prop, (∃ m, W 0 m [] (upd H1 D (.lst []))) ∧ ∀ i m ys H, W i m ys H → H D = some (.lst ys) ∧
      (((Itr lo n).stop i H ∧ Q D H) ∨ ((Itr lo n).go i H ∧ ∃ N : List V → Hp → Prop, (∀ zs H', N zs H' → ∃ m', m' < m ∧ W (i + 1) m' zs H') ∧ ∀ x H', (Itr lo n).yld i H x H' → tc (some x :: σ) H' fun b H2 => if b = true then te (some x :: σ) H2 fun y H3 => H3 D = some (.lst ys) ∧ ys.length < sizeLine ∧ N (ys ++ [y]) (upd H3 D (.lst (ys ++ [y])))
        else N ys H2)) := fun D hD => by
  refine ⟨fun i m ys H => m = n - i ∧ i ≤ n ∧ Pv D i ys H, ⟨n, by simp, Nat.zero_le _, h0 D hD⟩, ?_⟩
  rintro i m ys H ⟨rfl, hi, p⟩
  refine ⟨hl D i ys H hi p, ?_⟩
  by_cases hlt : i < n
  · refine .inr ⟨hlt, Pv D (i + 1), fun zs H' p' => ⟨n - (i + 1), by omega, rfl, hlt, p'⟩, fun x H' y => ?_⟩
    obtain ⟨e, y⟩ := y
    subst e y
    exact hs D i ys _ hlt p
  · have e : i = n := by omega
    subst e
    exact .inl ⟨Nat.le_refl _, hd D ys H p⟩
end L2

end
section
set_option Elab.async false
set_option linter.all false
set_option maxRecDepth 100000
set_option maxHeartbeats 4000000
namespace L2
open PySem PySem.Spec PyProof.Rows
theorem iteTS {c : Bool} {A B : Prop} (hc : c = true) (h : A) : if c = true then A else B := by
  rw [if_pos hc]
  exact h
theorem iteFS {c : Bool} {A B : Prop} (hc : c = false) (h : B) : if c = true then A else B := by
  rw [hc]
  exact iteF h
theorem call_allB {X : Cx} (hc : X.calm = true) : CallR X (.builtin "all") (fun xs H Q => ∃ (l : Addr) (bs : List Bool), xs = [.ref l] ∧ H l = some (.lst (bs.map V.bl)) ∧ Q (.bl (bs.all id)) H) := by
  intro pins s σ H xs us Q I r h
  obtain ⟨l, bs, rfl, hl, q⟩ := h
  obtain ⟨u, rfl, ru⟩ := r.one
  obtain rfl : u = Value.ref l := ru
  obtain ⟨its, rv, p, hz⟩ := I.list (SqL.of hl)
  have hlt : l < s.heap.objs.size := by obtain ⟨_, _, e, _⟩ := p; exact Heap.lt_size e
  refine call_all_walk (wpAny_pyIter_list p.isList ?_)
  refine ⟨s.heap.objs.size, [s.heap.objs.size, l], [s.heap.objs.size], its.toArray.size, _, _, fun i => (bs[i]?).getD true, rfl, Walks.list (A := X.A.in1) (I.ok.hd hc) _ l (Nat.ne_of_lt hlt) its.toArray,
    ⟨⟨_, Heap.get?_push_size _ rfl, rfl, rfl⟩, p.isList.push _⟩, fun i v s' Q' E' hP hQ => ?_, fun h' tk hk => ?_⟩
  · have hi : its[i]? = some v := by simpa using hP
    have hlen := rv.length
    have hib : i < its.length := (List.getElem?_eq_some_iff.mp hi).1
    obtain ⟨u, e1, e2⟩ := rv.get (i := i) (x := V.bl ((bs[i]?).getD true)) (by
      rw [List.getElem?_map, List.getElem?_eq_getElem (by rw [List.length_map] at hlen; omega)]
      rfl)
    rw [hi] at e1
    cases e1
    cases e2
    exact wpAny_truthy_bool hQ
  · have e : ((List.range its.toArray.size).all fun i => (bs[i]?).getD true) = bs.all id := by
      have hlen := rv.length
      rw [List.length_map] at hlen
      rw [List.size_toArray, ← hlen]
      exact PyProof.Rows.LSm.range_all bs
    rw [e]
    exact ⟨.bl _, H, I.kept (t' := tk) fun b o z => hk b o (by have := Heap.lt_size z; intro q; rw [List.mem_singleton] at q; rw [q] at this; exact Nat.lt_irrefl _ this) (Heap.get?_push_of_some _ z), rfl, q⟩
theorem isLst_of {H : Hp} {p : Addr} {xs : List V} (h : H p = some (.lst xs)) : isLst H (.ref p) = true := by
  unfold isLst
  dsimp only
  rw [h]
/-! a list of pages: each a list of whole numbers, or None -/
abbrev Pgs := List (Option (Addr × List Int))
def pgV : Option (Addr × List Int) → V
  | none => .non
  | some (p, _) => .ref p
def cont (ps : Pgs) : List (Option (List Int)) := ps.map (Option.map (·.2))
structure Pg (H : Hp) (a : Addr) (ps : Pgs) : Prop where
  top : H a = some (.lst (ps.map pgV))
  each : ∀ (i : Nat) (p : Addr) (ws : List Int), ps[i]? = some (some (p, ws)) → H p = some (.lst (ws.map V.int)) ∧ p ≠ a
  nd : ∀ (i j : Nat) (p : Addr) (ws ws' : List Int), ps[i]? = some (some (p, ws)) → ps[j]? = some (some (p, ws')) → i = j
def At (a : Addr) (ps : Pgs) (b : Addr) : Prop := b = a ∨ ∃ (i : Nat) (ws : List Int), ps[i]? = some (some (b, ws))
theorem Pg.same {H H' : Hp} {a : Addr} {ps : Pgs} (g : Pg H a ps) (s : Same H H') : Pg H' a ps := ⟨s _ _ g.top, fun i p ws e => ⟨s _ _ (g.each i p ws e).1, (g.each i p ws e).2⟩, g.nd⟩
theorem Pg.keep {H H' : Hp} {a : Addr} {ps : Pgs} (g : Pg H a ps) (s : ∀ b, At a ps b → H' b = H b) : Pg H' a ps :=
  ⟨(s a (.inl rfl)).trans g.top, fun i p ws e => ⟨(s p (.inr ⟨i, ws, e⟩)).trans (g.each i p ws e).1, (g.each i p ws e).2⟩, g.nd⟩
theorem Pg.at {H : Hp} {a b : Addr} {ps : Pgs} (g : Pg H a ps) (h : At a ps b) : ∃ o, H b = some o := by
  rcases h with rfl | ⟨i, ws, e⟩
  · exact ⟨_, g.top⟩
  · exact ⟨_, (g.each i b ws e).1⟩
theorem atI_pg {ps : Pgs} {i : Nat} (h : i < ps.length) : ∃ o, ps[i]? = some o ∧ atI (ps.map pgV) (i : Int) = some (pgV o) := by
  refine ⟨ps[i], List.getElem?_eq_getElem h, atI_nat ?_⟩
  rw [List.getElem?_map, List.getElem?_eq_getElem h]
  rfl
theorem atI_word {ws : List Int} {j : Nat} (h : j < ws.length) : atI (ws.map V.int) (j : Int) = some (.int (ws.getD j 0)) := by
  refine atI_nat ?_
  rw [List.getElem?_map, List.getElem?_eq_getElem h, List.getD_eq_getElem?_getD, List.getElem?_eq_getElem h]
  rfl
theorem ixN_nat {n j : Nat} (h : j < n) : ixN n (j : Int) = some j := by
  unfold ixN
  rw [if_pos (Int.natCast_nonneg j), if_pos (by omega), Int.toNat_natCast]
def setW (ps : Pgs) (i j : Nat) (w : Int) : Pgs := ps.set i ((ps[i]?).getD none |>.map fun q => (q.1, q.2.set j w))
theorem cont_len {ps qs : Pgs} (h : cont ps = cont qs) : ps.length = qs.length := by
  have := congrArg List.length h
  unfold cont at this
  rw [List.length_map, List.length_map] at this
  exact this
theorem cont_at {ps qs : Pgs} (h : cont ps = cont qs) (i : Nat) : (ps[i]?).map (Option.map (·.2)) = (qs[i]?).map (Option.map (·.2)) := by
  have := congrArg (fun l => l[i]?) h
  unfold cont at this
  simpa using this
theorem cont_some {ps qs : Pgs} (h : cont ps = cont qs) {i : Nat} {p : Addr} {ws : List Int} (e : ps[i]? = some (some (p, ws))) : ∃ q, qs[i]? = some (some (q, ws)) := by
  have z := cont_at h i
  rw [e] at z
  cases f : qs[i]? with
  | none => rw [f] at z; cases z
  | some o =>
    rw [f] at z
    cases o with
    | none => cases z
    | some x =>
      obtain ⟨q, vs⟩ := x
      have z' : ws = vs := by simpa using z
      subst z'
      exact ⟨q, rfl⟩
theorem same_new {H : Hp} {p : Addr} {o : HO} (h : H p = none) : Same H (upd H p o) := fun b u e => by
  rw [upd_ne (ne_of_none e h)]
  exact e
theorem Same.set {H H' : Hp} {t : Addr} {o : HO} (s : Same H H') (h : H t = none) : Same H (upd H' t o) := fun b u e => by
  rw [upd_ne (ne_of_none e h)]
  exact s b u e
def Good (ps : Pgs) : Prop := ∀ (i : Nat) (p : Addr) (ws : List Int), ps[i]? = some (some (p, ws)) → ws.length = 8 ∧ ∀ w ∈ ws, 0 ≤ w ∧ w < 281474976710656
def tCopy (K : PySem.W.Frag) : TE := tIf (tTest (tOp (fun x y H Q => y = .non ∧ Q (.bl (decide (x = .non))) H) (tVar 0) (tC .non))) (tC .non) (tCB (fun xs H Q => ∃ p ys, xs = [.ref p] ∧ (SqL K H p ys ∨ SqT K H p ys) ∧ ∀ l, H l = none → Q (.ref l) (upd H l (.lst ys))) (tCons (tVar 0) tNil))
theorem copy_pages {K : PySem.W.Frag} {a : Addr} {ps : Pgs} {σ : St} {H : Hp} {Q : Addr → Hp → Prop} (g : Pg H a ps) (hl : ps.length ≤ 1000)
    (q : ∀ D H' qs, Same H H' → Pg H' D qs → cont qs = cont ps → (∀ b, At D qs b → H b = none) → Q D H') :
    ∀ D, H D = none → ∃ W : Nat → Nat → List V → Hp → Prop, (∃ m, W 0 m [] (upd H D (.lst []))) ∧ ∀ i m ys H, W i m ys H → H D = some (.lst ys) ∧
      (((Itl K a).stop i H ∧ Q D H) ∨ ((Itl K a).go i H ∧ ∃ N : List V → Hp → Prop, (∀ zs H', N zs H' → ∃ m', m' < m ∧ W (i + 1) m' zs H') ∧ ∀ x H', (Itl K a).yld i H x H' → tYes (some x :: σ) H' fun b H2 => if b = true then tCopy K (some x :: σ) H2 fun y H3 => H3 D = some (.lst ys) ∧ ys.length < sizeLine ∧ N (ys ++ [y]) (upd H3 D (.lst (ys ++ [y])))
        else N ys H2)) := by
  refine comp_list (xs := ps.map pgV) (fun D i ys H' => ∃ qs : Pgs, H D = none ∧ Same H H' ∧ Pg H' D qs ∧ ys = qs.map pgV ∧ qs.length = i ∧ cont qs = cont (ps.take i) ∧ ∀ b, At D qs b → H b = none) ?_ ?_ ?_ ?_
  · intro D hD
    refine ⟨[], hD, same_new hD, ⟨upd_same, fun i p ws e => by simp at e, fun i j p ws ws' e => by simp at e⟩, rfl, rfl, rfl, fun b h => ?_⟩
    rcases h with rfl | ⟨i, ws, e⟩
    · exact hD
    · simp at e
  · rintro D i ys H' _ ⟨qs, _, ss, g', rfl, _, _, _⟩
    exact ⟨SqL.of (ss _ _ g.top), g'.top⟩
  · rintro D i x ys H' hi ⟨qs, hD, ss, g', rfl, hq, hc, hfr⟩
    rw [List.getElem?_map] at hi
    cases e : ps[i]? with
    | none => rw [e] at hi; cases hi
    | some o =>
      rw [e] at hi
      have hi' : pgV o = x := Option.some.inj hi
      subst hi'
      have hil : i < ps.length := (List.getElem?_eq_some_iff.mp e).1
      have hlen : (qs.map pgV).length < sizeLine := by
        rw [List.length_map, hq]
        exact Nat.lt_of_lt_of_le (by omega : i < 1001) (by decide)
      have htake : ps.take (i + 1) = ps.take i ++ [o] := by
        rw [List.take_add_one, e]
        rfl
      refine iteT ?_
      -- one item more
      have more : ∀ (o' : Option (Addr × List Int)) (H2 : Hp), o'.map (·.2) = o.map (·.2) → Same H' H2 → (∀ p ws, o' = some (p, ws) → H2 p = some (.lst (ws.map V.int)) ∧ H' p = none) →
          H2 D = some (.lst (qs.map pgV)) ∧ (qs.map pgV).length < sizeLine ∧ ∃ qs' : Pgs, H D = none ∧ Same H (upd H2 D (.lst (qs.map pgV ++ [pgV o']))) ∧ Pg (upd H2 D (.lst (qs.map pgV ++ [pgV o']))) D qs' ∧ qs.map pgV ++ [pgV o'] = qs'.map pgV ∧ qs'.length = i + 1 ∧ cont qs' = cont (ps.take (i + 1)) ∧ ∀ b, At D qs' b → H b = none := fun o' H2 ho s2 hn => by
        refine ⟨s2 _ _ g'.top, hlen, qs ++ [o'], hD, Same.set (ss.trans s2) hD, ⟨by rw [upd_same, List.map_append]; rfl, fun k p ws z => ?_, fun k l p ws ws' z1 z2 => ?_⟩, by rw [List.map_append]; rfl, by rw [List.length_append, hq]; rfl, ?_, fun b hb => ?_⟩
        · rcases Nat.lt_or_ge k qs.length with hk | hk
          · rw [List.getElem?_append_left hk] at z
            have := g'.each k p ws z
            refine ⟨?_, this.2⟩
            rw [upd_ne this.2]
            exact s2 _ _ this.1
          · rw [List.getElem?_append_right hk] at z
            have hk' : k - qs.length = 0 := by
              rcases Nat.eq_zero_or_pos (k - qs.length) with h | h
              · exact h
              · rw [List.getElem?_eq_none (by simp; omega)] at z
                cases z
            rw [hk'] at z
            obtain ⟨z1, z2⟩ := hn p ws (Option.some.inj z)
            have ne : p ≠ D := fun q => by rw [q, g'.top] at z2; cases z2
            refine ⟨?_, ne⟩
            rw [upd_ne ne]
            exact z1
        · have split : ∀ (k : Nat) (vs : List Int), (qs ++ [o'])[k]? = some (some (p, vs)) → (k < qs.length ∧ qs[k]? = some (some (p, vs))) ∨ (k = qs.length ∧ o' = some (p, vs)) := fun k vs z => by
            rcases Nat.lt_or_ge k qs.length with hk | hk
            · rw [List.getElem?_append_left hk] at z
              exact .inl ⟨hk, z⟩
            · rw [List.getElem?_append_right hk] at z
              have hk' : k - qs.length = 0 := by
                rcases Nat.eq_zero_or_pos (k - qs.length) with h | h
                · exact h
                · rw [List.getElem?_eq_none (by simp; omega)] at z
                  cases z
              rw [hk'] at z
              exact .inr ⟨by omega, Option.some.inj z⟩
          have old : ∀ (k : Nat) (vs vs' : List Int), qs[k]? = some (some (p, vs)) → o' = some (p, vs') → False := fun k vs vs' z1 z2 => by
            have h1 := (g'.each k p vs z1).1
            rw [(hn p vs' z2).2] at h1
            cases h1
          rcases split k ws z1 with ⟨_, a1⟩ | ⟨rfl, a1⟩ <;> rcases split l ws' z2 with ⟨_, a2⟩ | ⟨rfl, a2⟩
          · exact g'.nd k l p ws ws' a1 a2
          · exact (old _ _ _ a1 a2).elim
          · exact (old _ _ _ a2 a1).elim
          · rfl
        · rw [htake]
          unfold cont at hc ⊢
          rw [List.map_append, List.map_append, hc]
          congr 1
          simp [ho]
        · rcases hb with rfl | ⟨k, ws, z⟩
          · exact hD
          · rcases Nat.lt_or_ge k qs.length with hk | hk
            · rw [List.getElem?_append_left hk] at z
              exact hfr b (.inr ⟨k, ws, z⟩)
            · rw [List.getElem?_append_right hk] at z
              have hk' : k - qs.length = 0 := by
                rcases Nat.eq_zero_or_pos (k - qs.length) with h | h
                · exact h
                · rw [List.getElem?_eq_none (by simp; omega)] at z
                  cases z
              rw [hk'] at z
              exact ss.free (hn b ws (Option.some.inj z)).2
      cases o with
      | none =>
        refine ⟨_, rfl, rfl, _, rfl, iteT ?_⟩
        exact more none H' rfl (Same.refl _) fun p ws z => by cases z
      | some x =>
        obtain ⟨p, ws⟩ := x
        refine ⟨_, rfl, rfl, _, rfl, iteF ⟨_, rfl, p, _, rfl, .inl (SqL.of (ss _ _ (g.each i p ws e).1)), fun l hl => ?_⟩⟩
        refine more (some (l, ws)) _ rfl (same_new hl) fun p' ws' z => ?_
        cases z
        exact ⟨upd_same, hl⟩
  · rintro D ys H' ⟨qs, _, ss, g', rfl, hq, hc, hfr⟩
    rw [List.length_map, List.take_length] at hc
    exact q D H' qs ss g' hc hfr
end L2

end
section
set_option Elab.async false
set_option linter.all false
set_option maxRecDepth 100000
set_option maxHeartbeats 4000000
namespace L2
open PySem PySem.Spec PyProof.Rows
/-! for i, x in enumerate(xs) -/
theorem Inv.turnedN {X : Cx} {pins : List (Addr × Obj)} {σ : St} {H : Hp} {s : Shared} {h' : Heap} {t' : Nat} {fp : List Addr} (I : Inv X pins σ H s) (k : ∀ b o, b ∉ fp → s.heap.get? b = some o → h'.get? b = some o) (hf : ∀ b ∈ fp, FpOk X pins H b) : Inv X pins σ H { s with heap := h', toks := t' } := by
  have nit : ∀ b u, H b = some u → b ∉ fp := fun b u e z => by rw [(hf b z).1] at e; cases e
  refine I.step (g' := s.gens) (d' := s.drawn) (ch := fp) (fun b hb => ?_) (fun b o _ _ hc e _ => k b o hc e) (fun b o _ _ hc e _ => ⟨o.slots, k b o hc e⟩) (fun _ _ _ _ n => n)
    (fun b o hc e => ⟨o, k b o hc e⟩) (fun _ _ e => e) (fun _ _ _ e => e) (fun b ps e => ⟨#[], by rw [e]; simp⟩) (fun m hm => ?_) (fun b u e => ?_) I.bare
  · obtain ⟨f0, f1, f2, f3, f4, f5⟩ := hf b hb
    exact ⟨f3, f1, f4, f5⟩
  · obtain ⟨o, es, ep, ho, r⟩ := hm
    exact ⟨o, es, ep, k _ o (fun z => (hf _ z).2.1 rfl) ho, r⟩
  · refine (I.hok b u e).stay (fun c v hc q => k c v ?_ q) (fun _ q => q) fun _ _ q => q
    rcases hc with z | z
    · rw [z]; exact nit b u e
    · exact nit c _ z
def Ite (K : PySem.W.Frag) (a : Addr) : It :=
  ⟨fun i H => ∃ xs x, SqL K H a xs ∧ xs[i]? = some x, fun i H x H' => ∃ t v, H t = none ∧ x = .ref t ∧ (∀ xs, SqL K H a xs → xs[i]? = some v) ∧ H' = upd H t (.tup [.int (i : Int), v]), fun i H => ∃ xs, SqL K H a xs ∧ xs.length ≤ i⟩
def iEnum (K : PySem.W.Frag) (ta : TA) : TI := fun σ H R => ta σ H fun vs H1 => ∃ a xs, vs = [.ref a] ∧ SqL K H1 a xs ∧ R (Ite K a) H1
end L2

end
section
set_option Elab.async false
set_option linter.all false
set_option maxRecDepth 100000
set_option maxHeartbeats 4000000
namespace L2
open PySem PySem.Spec PyProof.Rows
/-! a page more; the same of two lists of pages -/
theorem app_at {ps : Pgs} {o : Option (Addr × List Int)} {p : Addr} {vs : List Int} {k : Nat} (z : (ps ++ [o])[k]? = some (some (p, vs))) : (k < ps.length ∧ ps[k]? = some (some (p, vs))) ∨ (k = ps.length ∧ o = some (p, vs)) := by
  rcases Nat.lt_or_ge k ps.length with hk | hk
  · rw [List.getElem?_append_left hk] at z
    exact .inl ⟨hk, z⟩
  · rw [List.getElem?_append_right hk] at z
    have hk' : k - ps.length = 0 := by
      rcases Nat.eq_zero_or_pos (k - ps.length) with h | h
      · exact h
      · rw [List.getElem?_eq_none (by simp; omega)] at z
        cases z
    rw [hk'] at z
    exact .inr ⟨by omega, Option.some.inj z⟩
theorem Pg.app {H H2 : Hp} {D : Addr} {qs : Pgs} {o : Option (Addr × List Int)} (g : Pg H D qs) (s2 : Same H H2) (hn : ∀ (p : Addr) (ws : List Int), o = some (p, ws) → H2 p = some (.lst (ws.map V.int)) ∧ H p = none) :
    Pg (upd H2 D (.lst (qs.map pgV ++ [pgV o]))) D (qs ++ [o]) := by
  refine ⟨by rw [upd_same, List.map_append]; rfl, fun k p ws z => ?_, fun k l p ws ws' z1 z2 => ?_⟩
  · rcases app_at z with ⟨_, z⟩ | ⟨_, z⟩
    · have := g.each k p ws z
      refine ⟨?_, this.2⟩
      rw [upd_ne this.2]
      exact s2 _ _ this.1
    · obtain ⟨z1, z2⟩ := hn p ws z
      have ne : p ≠ D := fun q => by rw [q, g.top] at z2; cases z2
      refine ⟨?_, ne⟩
      rw [upd_ne ne]
      exact z1
  · have old : ∀ (k : Nat) (vs vs' : List Int), qs[k]? = some (some (p, vs)) → o = some (p, vs') → False := fun k vs vs' z1 z2 => by
      have h1 := (g.each k p vs z1).1
      rw [(hn p vs' z2).2] at h1
      cases h1
    rcases app_at z1 with ⟨_, a1⟩ | ⟨rfl, a1⟩ <;> rcases app_at z2 with ⟨_, a2⟩ | ⟨rfl, a2⟩
    · exact g.nd k l p ws ws' a1 a2
    · exact (old _ _ _ a1 a2).elim
    · exact (old _ _ _ a2 a1).elim
    · rfl
theorem At.app {D b : Addr} {qs : Pgs} {o : Option (Addr × List Int)} (h : At D (qs ++ [o]) b) : At D qs b ∨ ∃ ws, o = some (b, ws) := by
  rcases h with rfl | ⟨k, ws, z⟩
  · exact .inl (.inl rfl)
  · rcases app_at z with ⟨_, z⟩ | ⟨_, z⟩
    · exact .inl (.inr ⟨k, ws, z⟩)
    · exact .inr ⟨ws, z⟩
theorem Good.app {qs : Pgs} {o : Option (Addr × List Int)} (g : Good qs) (h : ∀ (p : Addr) (ws : List Int), o = some (p, ws) → ws.length = 8 ∧ ∀ w ∈ ws, 0 ≤ w ∧ w < 281474976710656) : Good (qs ++ [o]) := fun k p ws z => by
  rcases app_at z with ⟨_, z⟩ | ⟨_, z⟩
  · exact g k p ws z
  · exact h p ws z
theorem datsI {K : PySem.W.Frag} {H : Hp} : ∀ ws : List Int, DatsR K H (ws.map V.int) (ws.map PyData.int)
  | [] => .nil
  | b :: bs => .cons (.int b) (datsI bs)
theorem layI : ∀ ws : List Int, PyData.canLayAll0 (ws.map PyData.int) = true ∧ PyData.depthAll (ws.map PyData.int) = 0
  | [] => ⟨rfl, rfl⟩
  | b :: bs => by
    obtain ⟨h1, h2⟩ := layI bs
    constructor
    · simp only [List.map_cons, PyData.canLayAll0, PyData.canLay0, h1, Bool.and_self]
    · simp only [List.map_cons, PyData.depthAll, PyData.depth, h2, Nat.max_self]
theorem eqvI : ∀ ws : List Int, PyData.eqvAll (ws.map PyData.int) (ws.map PyData.int) = true
  | [] => rfl
  | b :: bs => by simp only [List.map_cons, PyData.eqvAll, PyData.eqv, eqvI bs, beq_self_eq_true, Bool.and_self]
end L2

end
section
set_option Elab.async false
set_option linter.all false
set_option maxRecDepth 100000
set_option maxHeartbeats 4000000
namespace L2
open PySem PySem.Spec PyProof.Rows Builtin Builtin.ObjectAttr
/-! attributes of an exception of one's own class -/
def overV : List Value → Bool
  | [] => false
  | v :: r => match v with
    | .ref _ => overV r
    | _ => (v :: r) == VB
def overIn (K : PySem.W.Frag) (C : Addr) : Bool := (PySem.W.clsIn K C).any fun cd => overV cd.mro
structure XCls (K : PySem.W.Frag) (C : Addr) : Prop where
  sa : PySem.W.findIn K (.ref C) "__setattr__" = some (some (.builtin "object.__setattr__"))
  ov : overIn K C = true
  hd : PySem.W.hasDictIn K C = true
  ga : PySem.W.findIn K (.ref C) "__getattribute__" = some (some (.builtin "BaseException.__getattribute__"))
  gh : PySem.W.findIn K (.ref C) "__getattr__" = some none
  mb : PySem.W.mroIn K C (.type "BaseException") = some true
section
variable {prog : Program} {w : World} {A : Around} {s : Shared} {K : PySem.W.Frag} {x C : Addr} {R : Result → Shared → Prop}
end
def xnw (e C t : Addr) (od : Option Addr) : HO := .ext fun h => h.get? e = some (xo C t od)
def xdo (d : Addr) (fs : List (Str × V)) : HO := .ext fun h => ∃ mA, h.Ns1 d mA ∧ (∀ f, RelO (fs.lookup f) (mA f)) ∧ PySem.Within mA (fs.map (·.1))
section
variable {X : Cx} {pins : List (Addr × Obj)} {σ : St} {H : Hp} {s : Shared} {e C t d : Addr} {fs : List (Str × V)} {f : Str} {y : V} {u : Value} {A : Around} {E : Value → Shared → Prop} {Q : Unit → Shared → Prop}
end
section
variable {prog : Program} {w : World} {A : Around} {s : Shared} {K : PySem.W.Frag} {x C : Addr} {E : Value → Shared → Prop}
end
end L2

end
section
set_option Elab.async false
set_option linter.all false
set_option maxRecDepth 100000
set_option maxHeartbeats 4000000
namespace L2
open PySem PySem.Spec PyProof.Rows Builtin Builtin.ObjectAttr
/-! the rules: an attribute of an exception put, read; raise C(..) of a class with an `__init__` of its own -/
section
variable {X : Cx} {pins : List (Addr × Obj)} {σ : St} {H : Hp} {s : Shared} {e C t d : Addr} {fs : List (Str × V)} {f : Str} {v : V}
end
def tXFld (K : PySem.W.Frag) (ta : TE) (f : Str) : TE := fun σ H Q => ta σ H fun x H1 => ∃ e C d fs v, x = .ref e ∧ H1 e = some (xob e (.ref C) (some d)) ∧ H1 d = some (xdo d fs) ∧ XCls K C ∧ NoAttr K C f ∧ fs.lookup f = some v ∧ Q v H1
def sXf0 (K : PySem.W.Frag) (ta tv : TE) (f : Str) : TS := fun D σ H => tv σ H fun y H1 => ta σ H1 fun x H2 => ∃ e C t, x = .ref e ∧ H2 e = some (xnw e C t none) ∧ XCls K C ∧ NoAttr K C f ∧
  ∀ d H', H2 d = none → d ≠ e → H' e = some (xnw e C t (some d)) → H' d = some (xdo d [(f, y)]) → (∀ b, b ≠ e → b ≠ d → H' b = H2 b) → D.nx σ H'
def sXf (K : PySem.W.Frag) (ta tv : TE) (f : Str) : TS := fun D σ H => tv σ H fun y H1 => ta σ H1 fun x H2 => ∃ e C t d fs, x = .ref e ∧ H2 e = some (xnw e C t (some d)) ∧ H2 d = some (xdo d fs) ∧ XCls K C ∧ NoAttr K C f ∧ fs.length < 1000 ∧ D.nx σ (upd H2 d (xdo d (putF f y fs)))
section
variable {X : Cx} {o e value : Expr} {f : Str} {pos pos' tpos : Pos} {ta tv : TE}
end
/-! the class -/
def excInI (K : PySem.W.Frag) (C fI : Addr) : Bool := match K.lookup C with
  | some ⟨.type "type", _, .cls cd, sl⟩ => (match cd.mro, sl.toList with
    | .ref C' :: bm, [_, _, _, _, some (.builtin n), _] => C' == C && !cd.hasDel && n == "ValueError.__new__" && nsPlain K cd.ns && (PySem.W.nsIn K cd.ns "__init__" == some (some (.ref fI))) && tailOk K bm
    | _, _ => false)
  | _ => false
def spXI (C : Addr) (n : Nat) (ff : List V → List (Str × V)) : Sp := fun vs H Q _ => ∃ (e t : Addr) (xs : List V), vs = .ref e :: xs ∧ xs.length = n ∧ H e = some (xnw e C t none) ∧
  ∀ (d : Addr) (H' : Hp), H d = none → d ≠ e → H' e = some (xnw e C t (some d)) → H' d = some (xdo d (ff xs)) → (∀ b, b ≠ e → b ≠ d → H' b = H b) → Q .non H'
def RaisesG (X : Cx) (E : XK) : Prop := ∀ (pins : List (Addr × Obj)) (σ : St) (H : Hp) (s : Shared) (e C t : Addr) (od : Option Addr), Inv X pins σ H s → s.heap.get? e = some (xo C t od) → (∀ o, X.s₀.heap.get? e = some o → e ∈ X.ex) → H e = none → E (.ref C) od H → X.xe (.ref e) s
section
variable {X : Cx} {pins : List (Addr × Obj)} {σ : St} {H : Hp} {s : Shared} {e C t : Addr}
end
section
variable {X : Cx} {x : Str} {C fI : Addr} {fdI : FuncData} {psI : List Str} {k n : Nat} {ff : List V → List (Str × V)} {E : XK} {e₀ : Expr} {rest : List Expr} {t : TA} {np cpos pos : Pos}
def tRaiseI (C : Addr) (n : Nat) (ff : List V → List (Str × V)) (E : XK) (t : TA) : TS := fun _ σ H => t σ H fun vs H1 => vs.length = n ∧ ∀ d, H1 d = none → E (.ref C) (some d) (upd H1 d (xdo d (ff vs)))
end
end L2

end
section
set_option Elab.async false
set_option linter.all false
set_option maxRecDepth 100000
set_option maxHeartbeats 4000000
/-! C.m(e, ..) of a class of the text: the def itself, nothing bound -/
namespace L2
open PySem
structure CMeth (K : PySem.W.Frag) (C : Addr) (m : Str) (f : Addr) : Prop where
  sp : PySem.W.specialIn K (.ref C) "__getattribute__" = some (some (.builtin "type.__getattribute__"))
  rd : PySem.W.readsIn K C (.type "type") = true
  at_ : PySem.W.findCls K (.ref C) (.type "type") m = some (.val (.ref f))
  kp : PySem.W.keepIn K (.ref f) = true
section
variable {X : Cx} {CX : CXT} {k : Nat} {f C : Addr} {fd : FuncData} {ps : List Str} {sp : Sp} {dvs : List V} {ds : List Value} {E : XK} {x m : Str} {p pos apos : Pos} {e o : Expr} {es : List Expr} {t : TA}
theorem pe_cmeth {pl : Sem Bool} (F : FnOk X.prog X.w X.K X.mg X.base CX k f fd ps sp) (hr : Room k X.A) (hg : Gl X x) (hm : X.mg x = some (.ref C)) (c : CMeth X.K C m f) (hb : Binds X.K fd ps ds) (hd : Vals dvs ds) (hx : Passes CX X E)
    (ha : PA X (e :: es) t) (hdb : (x == ("__debug__" : Str)) = false := by decide)
    (hst : starEach (e :: es) X.env = (false, eval e X.env) :: starEach es X.env := by rfl) (hpl : (backTo pos (starEach es X.env)).any (·.1) = false := by rfl)
    (ht : eval (.Call (.Attribute (.Name x p) m apos) (e :: es) [] pos) X.env = (do
      let ov ← eval (.Name x p) X.env
      standAt apos.atName
      let (f, first) ← holding [ov] (getMethod ov m pl)
      callWith pos f first (backTo pos (starEach (e :: es) X.env)) (backToKw pos (keywordEach [] X.env))) := by rfl) :
    PE X (.Call (.Attribute (.Name x p) m apos) (e :: es) [] pos) (tCall sp dvs E t) := by
  intro pins s σ H Q I h
  refine PySem.W.methodCall_KW (pl := pl) (ld_glob I hg hm ?_ hdb) ht
  refine PySem.W.method_cls I.kIn c.sp (PySem.W.cls_value I.kIn c.rd c.at_ rfl ?_)
  have I1 := I.tok (s.toks + 1)
  refine PySem.W.callWith_K (first := []) (h₀ := X.base) I.ok.mod.kin c.kp (thn (ha pos pins _ σ H _ I1 h) fun us s1 ⟨vs, H1, I2, r, q⟩ => ⟨I2.kIn, ?_⟩) hst hpl
  exact run_fn F hr hb hd hx I2 r q
end
end L2

end
section
set_option Elab.async false
set_option linter.all false
set_option maxRecDepth 100000
/-! THE HAND LAYER, for ints, bools, texts, own classes, DICTS (int and text keys), calls, loops. Paste it whole ahead of your own text; what your proof does not reach may be deleted. -/
namespace L2
open PySem PySem.Spec PyProof.Rows

end L2

namespace L2
open PySem PySem.Spec PyProof.Rows

section
variable (P : Program) (w : World)
end

section
variable {P : Program} {w : World} {H H' : Hp} {h h' : Heap} {a : Addr} {o : HO}
end

section
variable {P : Program} {w : World} {H : Hp} {h h' : Heap} {x e : Addr} {o' : HO}
end

/-! ### kept unless tracked; of the frames at fs (the callers') the slots may change (an exception that passes writes there); of the records at ex (iterators) nothing is said -/
section
variable {fs fs' ex ex' : List Addr} {H H1 H2 : Hp} {h h1 h2 h' : Heap} {a x e : Addr} {o : HO}
end

/-! ### the heap without what is tracked -/
/-! ### OpenK's ledger, filled with every new object but one -/
end L2

namespace L2
open PySem PySem.Spec PyProof.Rows

section
variable {X : Cx} {pins : List (Addr × Obj)} {σ : List (Option V)} {H H' : Hp} {s : Shared} {h' : Heap}

end

/-! ### the judgements -/
end L2

namespace L2
open PySem PySem.Spec PyProof.Rows
section
variable {X : Cx}

/-! ### names and constants -/
/-! ### arithmetic -/
variable {a b : Expr} {ta tb : TE} {pos : Pos}
/-! ### comparisons -/
/-! ### and, or, not -/
variable {tA tB' : TT} {rest : List Expr}
end
end L2

namespace L2
open PySem PySem.Spec PyProof.Rows

/-! ### a list, a tuple that is read: tracked, frozen, or an object of the module -/
section
variable {X : Cx} {pins : List (Addr × Obj)} {σ : St} {H : Hp} {s : Shared} {a : Addr} {xs ys : List V}
end

/-! ### another wish about exceptions -/
section
variable {X : Cx} {pins : List (Addr × Obj)} {σ : St} {H : Hp} {s : Shared} {E : Value → Shared → Prop}
end

/-! ### blocks and small statements -/
section
variable {X : Cx} {st : Stmt} {rest : List Stmt} {t u : TS} {e : Expr} {te : TE} {pos : Pos}
end

/-! ### targets -/
section
variable {X : Cx} {pos : Pos}
end

/-! ### while -/
section
variable {X : Cx} {pos : Pos}
end

/-! ### what a loop or a comprehension walks -/
end L2

namespace L2
open PySem PySem.Spec PyProof.Rows
section
variable {X : Cx} {tg : Expr}
/-! ### for -/
end

/-! ### the forms one uses -/
end L2

namespace L2
open PySem PySem.Spec PyProof.Rows

section
variable {X : Cx} {a b c : Expr} {ta tb tc : TE} {pos : Pos}

/-! ### ints -/
/-! ### bools among ints: n += (a < b) -/
end

/-! ### comparisons -/
section
variable {X : Cx} {a b c : Expr} {ta tb tc : TE} {pos : Pos}
/-! ### truth -/
/-! ### strs and bytes -/
/-! ### scalar builtins, by CallR -/
end
end L2

namespace L2
open PySem PySem.Spec PyProof.Rows

/-! ### an instance, its attributes a map -/
section
variable {prog : Program} {w : World} {A : Around} {E : Value → Shared → Prop} {s : Shared} {K : PySem.W.Frag} {x dx C f : Addr} {mA : Str → Option Value} {name : Str} {v : Value}

end

/-! ### the attributes as a list of pairs -/
section
variable {P : Program} {w : World} {H H' : Hp} {h h' : Heap} {a C dx : Addr} {fs fs' : List (Str × V)}
end

/-! ### what of the text a class must have -/
section
variable {X : Cx} {pins : List (Addr × Obj)} {σ : St} {H : Hp} {s : Shared} {a C dx : Addr} {fs : List (Str × V)} {f : Str} {v : V} {A : Around} {E : Value → Shared → Prop}

end

/-! ### readings and rules -/
section
variable {X : Cx} {o e value : Expr} {f : Str} {pos pos' tpos : Pos} {ta tv : TE}
end

/-! ### isinstance -/
section
variable {X : Cx} {pins : List (Addr × Obj)} {σ : St} {H : Hp} {s : Shared} {A : Around} {E : Value → Shared → Prop} {Q : Value → Shared → Prop} {c : Value} {b : Bool}
end
end L2

namespace L2
open PySem PySem.Spec PyProof.Rows

/-! ### room -/
/-! ### argument lists and displays -/
section
variable {X : Cx} {e : Expr} {es : List Expr} {te : TE} {t : TA} {pos : Pos}
end

/-! ### what a def promises -/
section
variable {X : Cx} {pins : List (Addr × Obj)} {σ : St} {H : Hp} {s s' : Shared}
end

/-! ### calls -/
section
variable {X : Cx} {CX : CXT} {k : Nat} {f C : Addr} {fd : FuncData} {ps : List Str} {sp : Sp} {dvs : List V} {ds : List Value} {E : XK} {x m : Str} {p pos apos : Pos} {e o : Expr} {es : List Expr} {ta : TE} {t : TA}

end

/-! ### keywords -/
section
variable {X : Cx} {CX : CXT} {k : Nat} {f C : Addr} {fd : FuncData} {ps ks : List Str} {sp : Sp} {E : XK} {x m : Str} {p pos apos kpos : Pos} {e o : Expr} {es : List Expr} {kws : List Keyword} {te ta : TE} {t tk : TA} {nm : Option Str}
variable {g : List Value → List Value → List Value} {gV : List V → List V → List V}
end

/-! ### a def's body keeps its promise -/
end L2

namespace L2
open PySem PySem.Spec PyProof.Rows
section
variable {X : Cx} {x : Str} {p pos : Pos} {e : Expr} {es : List Expr} {t : TA} {id T : String} {r : List V → Hp → VK → Prop}

end
end L2

namespace L2
open PySem PySem.Spec PyProof.Rows

/-! ### lists of pairs as tables -/
section
variable {κ : Type} [DecidableEq κ]
def valV (kvs : List (κ × V)) (k : κ) : Option V := (kvs.find? fun kv => decide (kv.1 = k)).map (·.2)
def putK (kvs : List (κ × V)) (k : κ) (v : V) : List (κ × V) :=
  if (kvs.any fun kv => decide (kv.1 = k)) = true then kvs.map (fun kv => if kv.1 = k then (kv.1, v) else kv) else kvs ++ [(k, v)]
def dropK (kvs : List (κ × V)) (k : κ) : List (κ × V) := kvs.filter fun kv => decide (kv.1 ≠ k)

theorem KV.length {kvs : List (κ × V)} {vs : List (κ × Value)} (r : KV kvs vs) : kvs.length = vs.length := Paired.length r
end


/-! ### a tracked dict, its keys ints and texts or tuples of these -/
abbrev KT (H : Hp) : List (List Key × V) → List (List Key × Addr × Value) → Prop := Paired fun p q => p.1 = q.1 ∧ H q.2.1 = some (.tup (p.1.map kV)) ∧ RelV p.2 q.2.2
section
variable {P : Program} {w : World} {H : Hp} {h : Heap} {a : Addr}
theorem rd_of {u : HO} (ok : HOk P w H h) (e : Rd H a u) : ObjOk P w H h a u := e.ok ok
theorem dk_rd {kvs : List (Key × V)} (ok : HOk P w H h) (e : Rd H a (.dK kvs)) : kvs.length ≤ sizeLine ∧ (a == sysModules) = false ∧ ∃ vs, KV kvs vs ∧ h.DictOf (mixKind P w) a vs :=
  show ObjOk P w H h a (.dK kvs) from rd_of ok e
theorem dk_of {kvs : List (Key × V)} (ok : HOk P w H h) (e : H a = some (.dK kvs)) : kvs.length ≤ sizeLine ∧ (a == sysModules) = false ∧ ∃ vs, KV kvs vs ∧ h.DictOf (mixKind P w) a vs := dk_rd ok (.inl e)
end

def DGet (H : Hp) (a : Addr) (y : V) (r : Option V) : Prop :=
  (∃ kvs k, Rd H a (.dK kvs) ∧ y = kV k ∧ r = valV kvs k) ∨ ∃ kvs k b, Rd H a (.dT kvs) ∧ y = .ref b ∧ H b = some (.tup (k.map kV)) ∧ r = valV kvs k
def DPut (H : Hp) (a : Addr) (y v : V) (H' : Hp) : Prop :=
  (∃ kvs k, H a = some (.dK kvs) ∧ y = kV k ∧ kvs.length < sizeLine ∧ H' = upd H a (.dK (putK kvs k v))) ∨
  ∃ kvs k b, H a = some (.dT kvs) ∧ y = .ref b ∧ H b = some (.tup (k.map kV)) ∧ kvs.length < sizeLine ∧ H' = upd H a (.dT (putK kvs k v))
section
variable {X : Cx} {pins : List (Addr × Obj)} {σ : St} {H : Hp} {s : Shared} {a : Addr} {y v : V} {u r : Value} {o : Option V} {A : Around} {E : Value → Shared → Prop}

theorem Inv.big (I : Inv X pins σ H s) : sysModules < s.heap.objs.size := by
  have h : mainGlobals < s.heap.objs.size := (I.mod.glob.keeps I.bk).lt
  exact Nat.lt_trans (by decide) h

end

section
variable {X : Cx} {pins : List (Addr × Obj)} {σ : St} {H : Hp} {s : Shared} {a : Addr} {kvs : List (Key × V)} {k : Key} {u : Value} {A : Around} {E : Value → Shared → Prop}
end


/-! ### readings and rules -/
def NoSl (i : Expr) : Prop := ∀ ov iv, subscripted i false ov iv = operate [ov, iv] (getItem ov iv)
def tDGet (td ty : TE) : TE := fun σ H Q => td σ H fun x H1 => ty σ H1 fun y H2 => ∃ a v, x = .ref a ∧ DGet H2 a y (some v) ∧ Q v H2
def tDIn (ty td : TE) : TE := fun σ H Q => ty σ H fun y H1 => td σ H1 fun x H2 => ∃ a o, x = .ref a ∧ DGet H2 a y o ∧ Q (.bl o.isSome) H2
def tDNotIn (ty td : TE) : TE := fun σ H Q => ty σ H fun y H1 => td σ H1 fun x H2 => ∃ a o, x = .ref a ∧ DGet H2 a y o ∧ Q (.bl (!o.isSome)) H2
def sDPut (td ty tv : TE) : TS := fun D σ H => tv σ H fun v H1 => td σ H1 fun x H2 => ty σ H2 fun y H3 => ∃ a H4, x = .ref a ∧ DPut H3 a y v H4 ∧ D.nx σ H4
def sDAug (td ty tv : TE) (rd : V → V → Hp → VK → Prop) : TS := fun D σ H => td σ H fun x H1 => ty σ H1 fun y H2 => ∃ a v, x = .ref a ∧ DGet H2 a y (some v) ∧
  tv σ H2 fun y2 H3 => rd v y2 H3 fun z H4 => ∃ H5, DPut H4 a y z H5 ∧ D.nx σ H5
def sDDel (td ty : TE) : TS := fun D σ H => td σ H fun x H1 => ty σ H1 fun y H2 => ∃ a kvs k, x = .ref a ∧ H2 a = some (.dK kvs) ∧ y = kV k ∧ (valV kvs k).isSome = true ∧ D.nx σ (upd H2 a (.dK (dropK kvs k)))

section
variable {X : Cx} {o i e value : Expr} {pos pos' tpos : Pos} {td ty tv : TE}
end


/-! ### displays -/
theorem dk_empty {P : Program} {w : World} {H : Hp} (h : Heap) (hb : sysModules < h.objs.size) : ObjOk P w H (h.push { cls := .type "dict", data := .dict #[] }) h.objs.size (.dK []) :=
  ⟨Nat.zero_le _, beq_eq_false_iff_ne.mpr (Ne.symm (Nat.ne_of_lt hb)), [], .nil, Heap.DictOf.new h⟩
def tDNewK : TE := fun _ H Q => ∀ p, H p = none → Q (.ref p) (upd H p (.dK []))
def tDNewT : TE := fun _ H Q => ∀ p, H p = none → Q (.ref p) (upd H p (.dT []))
section
variable {X : Cx} {pos : Pos}
theorem pe_dnewK : PE X (.Dict [] [] pos) tDNewK := fun pins s σ H Q I h =>
  wpAny_Dict_empty ⟨.ref s.heap.objs.size, _, I.laid (a := s.heap.objs.size) (o := .dK []) (t' := s.toks) (fun _ _ q => Heap.get?_push_of_some _ q) (Nat.le_refl _) (dk_empty s.heap I.big), rfl, h _ (I.hok.fresh (Nat.le_refl _))⟩
end

def tPairs : List (TE × TE) → St → Hp → (List (V × V) → Hp → Prop) → Prop
  | [], _, H, Q => Q [] H
  | (tk, tv) :: r, σ, H, Q => tk σ H fun x H1 => tv σ H1 fun y H2 => tPairs r σ H2 fun ps H3 => Q ((x, y) :: ps) H3
abbrev VV : List (V × V) → List (Value × Value) → Prop := Paired fun p q => RelV p.1 q.1 ∧ RelV p.2 q.2
def PPs (X : Cx) (pos : Pos) (keys : List (Option Expr)) (values : List Expr) (trs : List (TE × TE)) : Prop :=
  ∀ (pins : List (Addr × Obj)) (s : Shared) (σ : St) (H : Hp) (Q : List (V × V) → Hp → Prop), Inv X pins σ H s → tPairs trs σ H Q →
    wpAny (model X.prog X.w) X.A (evalPairs (pairTrees keys values X.env pos)) (fun vs s' => ∃ ps H', Inv X pins σ H' s' ∧ VV ps vs ∧ Q ps H') X.xe s
def mergeK (kvs more : List (Key × V)) : List (Key × V) := more.foldl (fun acc kv => putK acc kv.1 kv.2) kvs
def tDisp (trs : List (TE × TE)) : TE := fun σ H Q => ∀ p, H p = none → tPairs trs σ (upd H p (.dK [])) fun ps H2 => H2 p = some (.dK []) ∧ ∃ kvs : List (Key × V), ps = kvs.map (fun kv => (kV kv.1, kv.2)) ∧ kvs.length ≤ 15 ∧ Q (.ref p) (upd H2 p (.dK (mergeK [] kvs)))
/-! ### methods -/
structure M1 (X : Cx) (o : Expr) (m : Str) (apos : Pos) (e : Expr) (cpos : Pos) : Prop where
  base : attributeBase o m X.env (eval o X.env) = eval o X.env
  few : ((backTo cpos (starEach [e] X.env)).all (fun x => !x.1) && (backToKw cpos (keywordEach [] X.env)).all (fun x => x.1.isSome)
    && decide (([e] : List Expr).length + ([] : List Keyword).length + (if ([] : List Keyword).isEmpty then 0 else 1) < 30)) = true
  line : (apos.endLine == cpos.line) = true
  trees : backTo cpos (starEach [e] X.env) = [(false, eval e X.env)]
structure M2 (X : Cx) (o : Expr) (m : Str) (apos : Pos) (e f : Expr) (cpos : Pos) : Prop where
  base : attributeBase o m X.env (eval o X.env) = eval o X.env
  few : ((backTo cpos (starEach [e, f] X.env)).all (fun x => !x.1) && (backToKw cpos (keywordEach [] X.env)).all (fun x => x.1.isSome)
    && decide (([e, f] : List Expr).length + ([] : List Keyword).length + (if ([] : List Keyword).isEmpty then 0 else 1) < 30)) = true
  line : (apos.endLine == cpos.line) = true
  trees : backTo cpos (starEach [e, f] X.env) = [(false, eval e X.env), (false, eval f X.env)]

def IsD (H : Hp) (a : Addr) : Prop := (∃ kvs, Rd H a (.dK kvs)) ∨ ∃ kvs, Rd H a (.dT kvs)
section
variable {X : Cx} {pins : List (Addr × Obj)} {σ : St} {H : Hp} {s : Shared} {a : Addr} {y d : V} {u r : Value} {o : Option V} {A : Around} {E : Value → Shared → Prop}
end

def tDGet1 (td ty : TE) : TE := fun σ H Q => td σ H fun x H1 => ∃ a, x = .ref a ∧ IsD H1 a ∧ ty σ H1 fun y H2 => ∃ o, DGet H2 a y o ∧ Q (o.getD .non) H2
def tDGet2 (td ty tx : TE) : TE := fun σ H Q => td σ H fun x H1 => ∃ a, x = .ref a ∧ IsD H1 a ∧ ty σ H1 fun y H2 => tx σ H2 fun z H3 => ∃ o, DGet H3 a y o ∧ Q (o.getD z) H3
def tDPop1 (td ty : TE) : TE := fun σ H Q => td σ H fun x H1 => ∃ a, x = .ref a ∧ IsD H1 a ∧ ty σ H1 fun y H2 => ∃ kvs k v, H2 a = some (.dK kvs) ∧ y = kV k ∧ valV kvs k = some v ∧ Q v (upd H2 a (.dK (dropK kvs k)))
def tDPop2 (td ty tx : TE) : TE := fun σ H Q => td σ H fun x H1 => ∃ a, x = .ref a ∧ IsD H1 a ∧ ty σ H1 fun y H2 => tx σ H2 fun z H3 => ∃ kvs k, H3 a = some (.dK kvs) ∧ y = kV k ∧
  (∀ v, valV kvs k = some v → Q v (upd H3 a (.dK (dropK kvs k)))) ∧ (valV kvs k = none → Q z H3)
section
variable {X : Cx} {o e f : Expr} {apos cpos : Pos} {td ty tx : TE}
end

/-! ### dict(d): a copy -/
section
variable {X : Cx} {pins : List (Addr × Obj)} {σ : St} {H : Hp} {s : Shared} {a : Addr} {kvs : List (Key × V)} {A : Around} {E : Value → Shared → Prop}
end


section
variable {X : Cx} {pins : List (Addr × Obj)} {σ : St} {H : Hp} {s : Shared} {a : Addr} {y : V} {u : Value} {A : Around} {E : Value → Shared → Prop}
end
end L2

namespace Att
open PySem PySem.W PySem.Calls PyProof.Rows

/-! ### the script -/
/-! ### the attachment: holds_open's last premise (the goal 'hc' behind k_head) from a wpAny of the law's body -/
/-! ### rules over ANY heap (no ledger) from facts about the written part K: the library's own take a ledger (News) for what they write -/
section
variable {prog : Program} {w : World} {A : Around} {E : Value → Shared → Prop} {s : Shared} {K : Frag}

/-! the whole heap as the ledger: makes every rule that writes through a ledger a rule over any heap -/
end
end Att

namespace L2
open PySem PySem.Spec PyProof.Rows

end L2

namespace L2
open PySem PySem.Spec PyProof.Rows

end L2


/-! SHORT WORDS over the layer: a def of the text, its body, what a loop and a test want. -/
namespace L2
open PySem PySem.Spec PyProof.Rows

/-! ### the text by places -/
/-! ### no exception leaves a def -/
/-! ### a def (or method) of the text as it stands behind the top -/
section
variable {P : Program} {w : World} {K : PySem.W.Frag} {mg : Str → Option Value} {base : Heap}
end
/-! ### expressions in short: the name that stands in the i-th slot -/
section
variable {X : Cx}
end

/-! ### tests -/
/-! ### heaps -/
/-! ### a dict's pairs: keys that differ -/
section
variable {κ : Type} [DecidableEq κ]
end
end L2


end
section
set_option Elab.async false
set_option linter.all false
set_option maxRecDepth 100000
set_option maxHeartbeats 4000000
namespace L2
open PySem PySem.Spec PyProof.Rows
/-! a dict while it is walked, list(d), d.items() -/
section
variable {X : Cx} {pins : List (Addr × Obj)} {σ σ0 : St} {H H0 : Hp} {s s0 : Shared} {d : Addr} {ob : Obj} {kvs : List (Key × V)}
theorem Inv.freeze (I : Inv X pins σ H s) (e : H d = some (.dK kvs)) (ho : s.heap.get? d = some ob) : Inv X pins σ (upd H d (.frz ob (.dK kvs))) s := by
  have nd : ∀ b u, H b = some u → u ≠ .dK kvs → b ≠ d := fun b u q n z => by subst z; rw [e] at q; exact n (Option.some.inj q).symm
  have hk : HOk X.prog X.w (upd H d (.frz ob (.dK kvs))) s.heap := fun b u q => by
    have st : ∀ {b : Addr} {u : HO}, ObjOk X.prog X.w H s.heap b u → ObjOk X.prog X.w (upd H d (.frz ob (.dK kvs))) s.heap b u := fun x => x.stay (fun _ _ _ q => q)
      (fun c q => by rw [upd_ne (nd c _ q (by intro z; cases z))]; exact q) fun c xs q => by rw [upd_ne (nd c _ q (by intro z; cases z))]; exact q
    by_cases hb : b = d
    · subst hb
      rw [upd_same] at q
      cases q
      exact ⟨ho, st (I.hok b _ e)⟩
    · rw [upd_ne hb] at q
      exact st (I.hok b u q)
  refine I.un (h' := s.heap) (t' := s.toks) ⟨fun b o q _ _ _ => q, fun b o q _ _ _ => ⟨o.slots, q⟩, fun b o q n _ => ?_, fun b o q _ => ⟨o, q⟩, fun b xs q => ?_, fun b o u q => ?_, fun b ps q => ⟨#[], ?_⟩⟩ hk
  · rw [upd_ne (by intro z; subst z; rw [e] at n; cases n)]
    exact n
  · rw [upd_ne (nd b _ q (by intro z; cases z))]
    exact q
  · rw [upd_ne (nd b _ q (by intro z; cases z))]
    exact q
  · rw [upd_ne (nd b _ q (by intro z; cases z)), q]
    simp
theorem Inv.thaw (I0 : Inv X pins σ0 H0 s0) (e0 : H0 d = some (.dK kvs)) (I : Inv X pins σ H s) (e : H d = some (.frz ob (.dK kvs))) : Inv X pins σ (upd H d (.dK kvs)) s := by
  have nd : ∀ b u, H b = some u → u ≠ .frz ob (.dK kvs) → b ≠ d := fun b u q n z => by subst z; rw [e] at q; exact n (Option.some.inj q).symm
  have nn : ∀ b, H b = none → b ≠ d := fun b q z => by subst z; rw [e] at q; cases q
  have n0 : ∀ b u, H0 b = some u → u ≠ .dK kvs → b ≠ d := fun b u q n z => by subst z; rw [e0] at q; exact n (Option.some.inj q).symm
  have st : ∀ {b : Addr} {u : HO}, ObjOk X.prog X.w H s.heap b u → ObjOk X.prog X.w (upd H d (.dK kvs)) s.heap b u := fun x => x.stay (fun _ _ _ q => q)
      (fun c q => by rw [upd_ne (nd c _ q (by intro z; cases z))]; exact q) fun c xs q => by rw [upd_ne (nd c _ q (by intro z; cases z))]; exact q
  refine ⟨I.ok, I.os, I.bare, ⟨I.base.keep, I.base.slot, fun b o q n hx => ?_, I.base.there, fun b xs q => ?_, fun b o u q => ?_, fun b ps q => ?_⟩, I.loc, I.cell, ?_, fun x c q => ?_, fun p hp => ?_, fun b u q => ?_, I.len⟩
  · have z := I.base.free b o q n hx
    rw [upd_ne (nn b z)]
    exact z
  · have z := I.base.tups b xs q
    rw [upd_ne (nd b _ z (by intro z; cases z))]
    exact z
  · have z := I0.base.frzs b o u q
    rw [upd_ne (n0 b _ z (by intro z; cases z))]
    exact I.base.frzs b o u q
  · obtain ⟨more, z⟩ := I.base.tbls b ps q
    refine ⟨more, ?_⟩
    rw [upd_ne (nd b _ z (by intro z; cases z))]
    exact z
  · rw [upd_ne (nn _ I.free)]
    exact I.free
  · rw [upd_ne (nn _ (I.freeC x c q))]
    exact I.freeC x c q
  · obtain ⟨a, b, c⟩ := I.pin p hp
    refine ⟨a, ?_, c⟩
    rw [upd_ne (nn _ b)]
    exact b
  · by_cases hb : b = d
    · subst hb
      rw [upd_same] at q
      cases q
      exact st (show ObjOk X.prog X.w H s.heap b (.frz ob (.dK kvs)) from I.hok b _ e).2
    · rw [upd_ne hb] at q
      exact st (I.hok b u q)
end
theorem kV_rel {P : Program} {w : World} {k : Key} {u : Value} (h : (mixKind P w).is k u = true) : RelV (kV k) u := by
  rcases keyIs_shape (show keyIs k u = true from h) with ⟨i, t, rfl, rfl⟩ | ⟨x, t, rfl, rfl⟩
  · exact ⟨t, rfl⟩
  · exact ⟨t, rfl⟩
theorem KV.get : ∀ {kvs : List (Key × V)} {vs : List (Key × Value)}, KV kvs vs → ∀ (i : Nat) (k : Key) (v : V), kvs[i]? = some (k, v) → ∃ u, vs[i]? = some (k, u) ∧ RelV v u
  | _, _, .nil, i, k, v, h => by simp at h
  | p :: kvs, q :: vs, .cons r t, 0, k, v, h => by
    have h' : some p = some (k, v) := h
    cases h'
    obtain ⟨r1, r2⟩ := r
    have r1' : k = q.1 := r1
    exact ⟨q.2, by show some q = some (k, q.2); rw [r1'], r2⟩
  | p :: kvs, q :: vs, .cons r t, i + 1, k, v, h => KV.get (kvs := kvs) (vs := vs) t i k v h
def CDivB (_ j : Int) : Prop := 0 < j ∧ j.natAbs.log2 < 9000
def viewO (v d : Addr) : HO := .ext fun h => h.IsItemsView v d
def rItems : V → List V → Hp → VK → Prop := fun x vs H Q => ∃ d kvs, x = .ref d ∧ vs = [] ∧ H d = some (.dK kvs) ∧ ∀ v, H v = none → Q (.ref v) (upd H v (viewO v d))
theorem mt_items {X : Cx} : MtR X "dict.items" rItems := by
  intro pins s σ H x vs v us Q I rx rv h
  obtain ⟨d, kvs, rfl, rfl, hd, q⟩ := h
  cases rx
  cases rv
  obtain ⟨z, lo, vs, rel, dd⟩ := dk_of I.hok hd
  refine PySem.call_meetsIn PySem.F.slot_dict_items dd.typeIs PySem.F.entry_dict_items (PySem.F.args_dict_items_1 _) (meets_dict_items (mixKind X.prog X.w) d lo) ⟨⟨_, dd⟩, ?_⟩
  exact ⟨.ref s.heap.objs.size, _, I.laid (o := viewO s.heap.objs.size d) (t' := s.toks) (fun b o q => Heap.get?_push_of_some _ q) (Nat.le_refl _) ⟨⟨_, Heap.get?_push_size _ rfl, rfl, rfl⟩, ⟨_, Heap.get?_push_size _ rfl⟩, fun h1 h2 ⟨o, a, b⟩ k => ⟨o, k o a, b⟩⟩, rfl, q _ (I.hok.fresh (Nat.le_refl _))⟩
def Itm (d : Addr) (ob : Obj) (kvs : List (Key × V)) : It :=
  ⟨fun i H => H d = some (.frz ob (.dK kvs)) ∧ i < kvs.length, fun i H x H' => ∃ t k v, H t = none ∧ x = .ref t ∧ kvs[i]? = some (k, v) ∧ H' = upd H t (.tup [kV k, v]), fun i H => H d = some (.frz ob (.dK kvs)) ∧ kvs.length ≤ i⟩
theorem turn_items {P : Program} {w : World} {K : PySem.W.Frag} {elts : List Expr} {x1 : Nat} {pos : Pos} (d it : Addr) (ob : Obj) (kvs : List (Key × V)) {es : Array DictEntry} {ep : Nat} (hob : ob.data = .dict es ep) :
    Turn P w K (.Tuple elts x1 pos) (Itm d ob kvs) [it] it (fun i h => ∃ ok ov, IsItemIter h it d i kvs.length ep ok ov) where
  mem := by simp
  obj := fun i h st b hb => by
    obtain ⟨ok, ov, e⟩ := st
    rw [List.mem_singleton.mp hb]
    exact ⟨_, e, fun v z => by cases z⟩
  keep := fun i h h' ⟨ok, ov, e⟩ k => ⟨ok, ov, k it (by simp) _ e⟩
  item := by
    intro X hP hw hK hc i pins s σ H E I hf st hg
    subst hP hw hK
    obtain ⟨hd, hi⟩ := hg
    obtain ⟨ok, ov, hit⟩ := st
    obtain ⟨ho, z, lo, vs, rel, dd⟩ := (show ObjOk X.prog X.w H s.heap d (.frz ob (.dK kvs)) from I.hok d _ hd)
    obtain ⟨ep', dat⟩ := dd.dictAt
    obtain ⟨o', es', g1, g2, g3, g4⟩ := id dat
    rw [ho] at g1
    cases g1
    rw [hob] at g3
    cases g3
    obtain ⟨k, v, hkv⟩ : ∃ k v, kvs[i]? = some (k, v) := ⟨kvs[i].1, kvs[i].2, by simp [hi]⟩
    obtain ⟨u, hu, ru⟩ := KV.get rel i k v hkv
    have hil : it < s.heap.objs.size := Heap.lt_size hit
    rw [KV.length rel] at hit
    refine wpAny_pyNext_items_item hit dat hu fun key h1 hkey hout ht hsz hk => ⟨_, rfl, ?_⟩
    refine wpAny_letOwnedTupleGo_items hout fun h2 he2 hs2 => ?_
    have hs2 : Heap.SameBut it h1 h2 := hs2
    have hT : H s.heap.objs.size = none := I.hok.fresh (Nat.le_refl _)
    have I1 : Inv X pins σ (upd H s.heap.objs.size (.tup [kV k, v])) { s with heap := s.heap.push { cls := .type "tuple", data := .seq #[key, u] }, toks := s.toks } := by
      refine I.laid (fun b o z => Heap.get?_push_of_some _ z) (Nat.le_refl _) ?_
      exact ⟨by show 2 ≤ sizeLine; decide, [key, u], .cons (kV_rel hkey) (.cons ru .nil), _, Heap.get?_push_size _ rfl, rfl, _, rfl⟩
    have hf1 : ∀ b ∈ [it], FpOk X pins (upd H s.heap.objs.size (.tup [kV k, v])) b := fun b hb => by
      obtain ⟨f0, f⟩ := hf b hb
      refine ⟨?_, f⟩
      rw [upd_ne (by rw [List.mem_singleton.mp hb]; exact Nat.ne_of_lt hil)]
      exact f0
    have I2 : Inv X pins σ (upd H s.heap.objs.size (.tup [kV k, v])) { s with heap := h2, toks := s.toks } := by
      refine Inv.turnedN (s := { s with heap := s.heap.push { cls := .type "tuple", data := .seq #[key, u] }, toks := s.toks }) (h' := h2) (t' := s.toks) (fp := [it]) I1 (fun b o hb z => ?_) hf1
      have n1 : b ≠ it := fun q => hb (by simp [q])
      rw [hs2.2 b n1]
      by_cases hbT : b = s.heap.objs.size
      · subst hbT
        have z' : some _ = some o := (Heap.get?_push_size s.heap (o := { cls := .type "tuple", data := .seq #[key, u] }) rfl).symm.trans z
        rw [← z']
        exact ht
      · refine hk b o n1 ?_
        rwa [show (s.heap.push { cls := .type "tuple", data := .seq #[key, u] }).get? b = s.heap.get? b from Heap.get?_push_ne _ _ _ hbT] at z
    refine ⟨.ref s.heap.objs.size, _, I2, rfl, ⟨_, k, v, hT, rfl, hkv, rfl⟩, ⟨key, u, ?_⟩, fun b hb => (hf1 b hb).1⟩
    rw [KV.length rel]
    exact he2
  done := by
    intro X hP hw hK hc i pins s σ H E I hf st hg
    subst hP hw hK
    obtain ⟨hd, hi⟩ := hg
    obtain ⟨ok, ov, hit⟩ := st
    obtain ⟨ho, z, lo, vs, rel, dd⟩ := (show ObjOk X.prog X.w H s.heap d (.frz ob (.dK kvs)) from I.hok d _ hd)
    obtain ⟨ep', dat⟩ := dd.dictAt
    obtain ⟨o', es', g1, g2, g3, g4⟩ := id dat
    rw [ho] at g1
    cases g1
    rw [hob] at g3
    cases g3
    rw [KV.length rel] at hit
    refine wpAny_pyNext_items_end (I.ok.hd hc) hit dat (List.getElem?_eq_none_iff.mpr (by rw [← KV.length rel]; exact hi)) fun h' eb => ⟨rfl, I.turnedN (t' := s.toks) (fp := [it]) (fun b o hb z => eb b o (fun q => hb (by simp [q])) z) hf⟩
  self := fun _ _ _ _ _ ⟨_, _, st⟩ h => PySem.W.kcp_self st h
/-! [e for x, y in d.items()] -/
def compN2 (x y : Str) (N : List Str) : List Str := x :: y :: N.map fun z => if z = x ∨ z = y then ("" : Str) else z
def CapOk2 (x y : Str) (l : List (Str × NameKind)) : Prop := ∀ n k, l.lookup n = some k → ((n = x ∨ n = y ∨ n = ".0") ∧ k = .local) ∨ (k ≠ .local ∧ k ≠ .cell ∧ k ≠ .free)
def capOk2 (x y : Str) : List (Str × NameKind) → Bool
  | [] => true
  | (n, k) :: r => (((n == x || n == y || n == ".0") && k == .local) || (k != .local && k != .cell && k != .free)) && capOk2 x y r
theorem capOk2_of {x y : Str} : ∀ {l : List (Str × NameKind)}, capOk2 x y l = true → CapOk2 x y l
  | [], _, n, k, h => by simp at h
  | (m, j) :: r, h0, n, k, h => by
    unfold capOk2 at h0
    rw [Bool.and_eq_true] at h0
    rw [List.lookup_cons] at h
    split at h
    · rename_i e
      cases h
      have e' := beq_iff_eq.mp e
      subst e'
      have h1 := h0.1
      simp only [Bool.or_eq_true, Bool.and_eq_true, beq_iff_eq, bne_iff_ne, ne_eq] at h1
      rcases h1 with ⟨a, b⟩ | ⟨⟨a, b⟩, c⟩
      · exact .inl ⟨by rcases a with (a | a) | a <;> simp [a], b⟩
      · exact .inr ⟨a, b, c⟩
    · exact capOk2_of h0.2 n k h
abbrev cxD (X : Cx) (x y : Str) (scope : Scope) (C : Addr) (s₂ : Shared) (H₂ : Hp) (fp : List Addr) : Cx :=
  { X with N := compN2 x y X.N, s₀ := s₂, H₀ := H₂, env := compEnvC scope [] C X.env, outer := X.stack, ex := fp, fn := fun _ => false, pn := [], xe := fun _ _ => False }
section
variable {X : Cx} {pins : List (Addr × Obj)} {σ : St} {H₂ : Hp} {s₂ : Shared} {fp : List Addr} {x y : Str} {scope : Scope} {C : Addr}
theorem okD (I : Inv X pins σ H₂ s₂) (hf : ∀ b ∈ fp, FpOk X pins H₂ b) (ho : ∀ b ∈ fp, ∃ o, s₂.heap.get? b = some o) (hkind : scope.kind = .function) (hc : CapOk2 x y (relabel scope X.env).names) (hC : s₂.heap.objs.size ≤ C) :
    (cxD X x y scope C s₂ H₂ fp).Ok where
  mod := I.ok.mod
  kind := hkind
  glob := I.ok.glob
  blt := I.ok.blt
  above := hC
  inj := fun y z c h1 h2 => by
    have h1' : ([] : List (Str × Addr)).lookup y = some c := h1
    simp at h1'
  has := fun z hz => by
    have hz' : (relabel scope X.env).names.lookup z = some .cell ∨ (relabel scope X.env).names.lookup z = some .free := hz
    rcases hz' with h | h
    · rcases hc _ _ h with ⟨_, q⟩ | ⟨_, q, _⟩
      · cases q
      · exact absurd rfl q
    · rcases hc _ _ h with ⟨_, q⟩ | ⟨_, _, q⟩
      · cases q
      · exact absurd rfl q
  cab := fun y c h _ => absurd (show false = true from h) Bool.false_ne_true
  hd := I.ok.hd
  frames := I.ok.frames
  stk := .inl rfl
  exf := fun b hb => by
    obtain ⟨o, e⟩ := ho b hb
    exact ⟨Nat.ne_of_lt (Nat.lt_of_lt_of_le (Heap.lt_size e) hC), fun y c h => by
      have h1' : ([] : List (Str × Addr)).lookup y = some c := h
      simp at h1'⟩
  bs := I.bs
  bsz := Nat.le_trans I.ok.bsz I.sz
  noex := fun b o e hb => by
    rcases (hf b hb).2.2.2.1 with z | z
    · exact I.ok.noex b o e z
    · exact absurd (Nat.lt_of_lt_of_le (Heap.lt_size (I.ok.bs b o e).1) z) (Nat.lt_irrefl _)
  exfs := fun b hb z => by
    rcases List.mem_cons.mp (I.stkSub b z) with q | q
    · exact (hf b hb).2.1 q
    · exact (hf b hb).2.2.1 q
  funs := I.stack
  frf := I.stkFree
theorem invD {h₁ : Heap} {tk : Nat} (I : Inv X pins σ H₂ s₂) (hf : ∀ b ∈ fp, FpOk X pins H₂ b) (ho : ∀ b ∈ fp, ∃ o, s₂.heap.get? b = some o) (hkind : scope.kind = .function) (hc : CapOk2 x y (relabel scope X.env).names) (hx0 : x ≠ "") (hy0 : y ≠ "") (hdot : (".0" : Str) ∉ X.N)
    (hC : C = s₂.heap.objs.size + 1) (hns : h₁.Ns C fun _ => none) (old : ∀ b o, s₂.heap.get? b = some o → h₁.get? b = some o) (hD : ∃ n, h₁.get? s₂.heap.objs.size = some { cls := .type "list", data := .seq #[] n }) :
    Inv (cxD X x y scope C s₂ H₂ fp) [] (none :: none :: σ) (upd H₂ s₂.heap.objs.size (.lst [])) { s₂ with heap := h₁, toks := tk } := by
  have hn : H₂ s₂.heap.objs.size = none := I.hok.fresh (Nat.le_refl _)
  have nocell : ∀ (z : Str) (c : Addr), (compEnvC scope [] C X.env).cells.lookup z = some c → False := fun z c e => by
    have h1' : ([] : List (Str × Addr)).lookup z = some c := e
    simp at h1'
  refine ⟨okD I hf ho hkind hc (by rw [hC]; exact Nat.le_succ _), rfl, I.bare, Un.laid old (Nat.le_refl _) hn, ⟨_, hns, fun i n v h1 h2 h3 => ?_⟩, fun z c e => (nocell z c e).elim, ?_, fun z c e => (nocell z c e).elim, fun p hp => absurd (show p ∈ ([] : List (Addr × Obj)) from hp) (by simp), ?_, ?_⟩
  · exfalso
    match i, h1, h2 with
    | 0, h1, h2 =>
      have h2' : some (none : Option V) = some (some v) := h2
      cases h2'
    | 1, h1, h2 =>
      have h2' : some (none : Option V) = some (some v) := h2
      cases h2'
    | i + 2, h1, h2 =>
      have h1' : (X.N.map fun z => if z = x ∨ z = y then ("" : Str) else z)[i]? = some n := h1
      rw [List.getElem?_map] at h1'
      cases e : X.N[i]? with
      | none => rw [e] at h1'; cases h1'
      | some z =>
        rw [e] at h1'
        have h1'' : (if z = x ∨ z = y then ("" : Str) else z) = n := Option.some.inj h1'
        have h3' : (relabel scope X.env).names.lookup n = some .local ∨ (relabel scope X.env).names.lookup n = some .cell ∨ (relabel scope X.env).names.lookup n = some .free := h3
        have key : n = x ∨ n = y ∨ n = ".0" := by
          rcases h3' with q | q | q
          · rcases hc _ _ q with ⟨a, _⟩ | ⟨a, _⟩
            · exact a
            · exact absurd rfl a
          · rcases hc _ _ q with ⟨_, a⟩ | ⟨_, a, _⟩
            · cases a
            · exact absurd rfl a
          · rcases hc _ _ q with ⟨_, a⟩ | ⟨_, _, a⟩
            · cases a
            · exact absurd rfl a
        by_cases hz : z = x ∨ z = y
        · rw [if_pos hz] at h1''
          rcases key with q | q | q
          · exact hx0 (q.symm.trans h1''.symm)
          · exact hy0 (q.symm.trans h1''.symm)
          · rw [q] at h1''
            exact absurd h1'' (by decide +kernel)
        · rw [if_neg hz] at h1''
          subst h1''
          rcases key with q | q | q
          · exact hz (.inl q)
          · exact hz (.inr q)
          · subst q
            exact hdot (List.mem_of_getElem? e)
  · show (upd H₂ s₂.heap.objs.size (.lst [])) C = none
    rw [upd_ne (by rw [hC]; exact Nat.ne_of_gt (Nat.lt_succ_self _))]
    exact I.hok.fresh (by rw [hC]; exact Nat.le_succ _)
  · obtain ⟨n, e⟩ := hD
    exact I.hok.laid old (Nat.le_refl _) ⟨Nat.zero_le _, [], n, .nil, e⟩
  · show (none :: none :: σ).length = (compN2 x y X.N).length
    simp [compN2, I.len]
theorem fpD (I : Inv X pins σ H₂ s₂) (hf : ∀ b ∈ fp, FpOk X pins H₂ b) (ho : ∀ b ∈ fp, ∃ o, s₂.heap.get? b = some o) (hC : s₂.heap.objs.size ≤ C) {H : Hp} (hn : ∀ b ∈ fp, H b = none) : ∀ b ∈ fp, FpOk (cxD X x y scope C s₂ H₂ fp) [] H b := fun b hb => by
  obtain ⟨o, e⟩ := ho b hb
  refine ⟨hn b hb, Nat.ne_of_lt (Nat.lt_of_lt_of_le (Heap.lt_size e) hC), fun z => ?_, .inl hb, fun y c h => ?_, fun p hp => absurd (show p ∈ ([] : List (Addr × Obj)) from hp) (by simp)⟩
  · rcases List.mem_cons.mp (I.stkSub b z) with q | q
    · exact (hf b hb).2.1 q
    · exact (hf b hb).2.2.1 q
  · have h1' : ([] : List (Str × Addr)).lookup y = some c := h
    simp at h1'
end
def tCompI (ti te : TE) : TE := fun σ H Q => ti σ H fun xv H1 => ∃ v d kvs, xv = .ref v ∧ H1 v = some (viewO v d) ∧ H1 d = some (.dK kvs) ∧ ∀ ob D, H1 D = none → ∃ W : Nat → List V → Hp → Prop,
  W 0 [] (upd (upd H1 d (.frz ob (.dK kvs))) D (.lst [])) ∧ ∀ i ys H, W i ys H → H D = some (.lst ys) ∧ H d = some (.frz ob (.dK kvs)) ∧
    (i = kvs.length → Q (.ref D) (upd H d (.dK kvs))) ∧ (∀ k z t, kvs[i]? = some (k, z) → H t = none → te (some (kV k) :: some z :: σ) (upd H t (.tup [kV k, z])) fun y H3 => H3 D = some (.lst ys) ∧ W (i + 1) (ys ++ [y]) (upd H3 D (.lst (ys ++ [y])))) ∧ ys.length = i
section
variable {X : Cx} {x y : Str} {px py pos tpos : Pos} {scope : Scope} {elt iter : Expr} {ti te : TE} {k1 : Nat}
theorem pe_compI (hcalm : X.calm = true) (hi : PE X iter ti) (hclos : closureFor scope X.env = pure []) (hcb : capOk2 x y (relabel scope X.env).names = true)
    (he : ∀ C s₂ H₂ fp, PE (cxD X x y scope C s₂ H₂ fp) elt te) (hN : (compN2 x y X.N).Nodup)
    (hkind : scope.kind = .function := by rfl) (hnc : ∀ y ∈ scope.names, y.2 ≠ .cell := by decide +kernel) (hnm : ∀ y ∈ scope.names, y.2 = .local → scope.names.lookup y.1 = some .local := by decide +kernel) (hx0 : x ≠ "" := by decide +kernel) (hy0 : y ≠ "" := by decide +kernel) (hdot : (".0" : Str) ∉ X.N := by decide +kernel)
    (hxl : scope.names.lookup x = some .local := by rfl) (hyl : scope.names.lookup y = some .local := by rfl)
    (hs : ∀ x, foldedSetIterable iter X.env x = pure x := by intro _; rfl) : PE X (.ListComp elt [⟨.Tuple [.Name x px, .Name y py] k1 tpos, iter, [], 0⟩] scope pos) (tCompI ti te) := by
  have hc := capOk2_of hcb
  intro pins s σ H Q I h
  rw [eval_ListComp]
  refine wpAny_comprehension_free (use := none) rfl hs hclos hkind hnm (wpAny_mono (hi pins s σ H _ I h) (fun xv s₁ h₁ => ?_) fun _ _ e => e)
  obtain ⟨xv', H1, I1, rx, v, d, kvs, e, hv, hd, hq⟩ := h₁
  subst e
  cases rx
  obtain ⟨z, lo, vs, rel, dd⟩ := dk_of I1.hok hd
  obtain ⟨ob, es, ep, ho, hx1, hob, hrest⟩ := id dd
  have dat : s₁.heap.DictAt (mixKind X.prog X.w) d vs ep := ⟨ob, es, ho, hx1, hob, hrest⟩
  have hvw : s₁.heap.IsItemsView v d := (show ObjOk X.prog X.w H1 s₁.heap v (viewO v d) from I1.hok v _ hv).1
  refine wpAny_pyIter_items hvw dat ?_
  have T := turn_items (P := X.prog) (w := X.w) (K := X.K) (elts := [.Name x px, .Name y py]) (x1 := k1) (pos := tpos) d s₁.heap.objs.size ob kvs hob
  have I2 : Inv X pins σ (upd H1 d (.frz ob (.dK kvs))) { s₁ with heap := s₁.heap.push { cls := .type "dict_itemiterator", data := .fields #[.none, .bool false, .ref d, .int 0 0, .int vs.length 0, .int ep 0, .none, .none] }, toks := s₁.toks } :=
    (I1.freeze hd ho).kept (t' := s₁.toks) fun b o e => Heap.get?_push_of_some _ e
  have st0 : ∃ ok ov, IsItemIter (s₁.heap.push { cls := .type "dict_itemiterator", data := .fields #[.none, .bool false, .ref d, .int 0 0, .int vs.length 0, .int ep 0, .none, .none] }) s₁.heap.objs.size d 0 kvs.length ep ok ov :=
    ⟨.none, .none, by rw [KV.length rel]; exact Heap.get?_push_size _ rfl⟩
  have f2 : ∀ b ∈ [s₁.heap.objs.size], FpOk X pins (upd H1 d (.frz ob (.dK kvs))) b := fun b hb => by
    rw [List.mem_singleton.mp hb]
    exact I1.fpOk (Nat.le_refl _) (by rw [upd_ne (Nat.ne_of_gt (Heap.lt_size ho))]; exact I1.hok.fresh (Nat.le_refl _))
  obtain ⟨D, hDe⟩ : ∃ D, D = s₁.heap.objs.size + 1 := ⟨_, rfl⟩
  obtain ⟨W, w0, turn⟩ := hq ob (s₁.heap.objs.size + 1) (I1.hok.fresh (Nat.le_succ _))
  generalize hs2 : ({ s₁ with heap := s₁.heap.push { cls := .type "dict_itemiterator", data := .fields #[.none, .bool false, .ref d, .int 0 0, .int vs.length 0, .int ep 0, .none, .none] }, toks := s₁.toks } : Shared) = s₂ at I2
  have hsz2 : s₂.heap.objs.size = s₁.heap.objs.size + 1 := by rw [← hs2]; exact Heap.size_push _ _
  have st2 : ∃ ok ov, IsItemIter s₂.heap s₁.heap.objs.size d 0 kvs.length ep ok ov := by rw [← hs2]; exact st0
  clear hs2 st0 hDe
  generalize hH2 : upd H1 d (.frz ob (.dK kvs)) = H₂ at I2 f2 w0
  generalize hit0 : s₁.heap.objs.size = it at T f2 st2 hsz2 w0 turn
  rw [← hsz2] at w0 turn
  refine wpAny_newObj_type (wpAny_newFunctionEnv hnc (by intro y hy; simp at hy) (fun h₁ hns₁ hsb₁ => ?_) hkind)
  dsimp only at hns₁ hsb₁ ⊢
  have hof : ∀ b ∈ [it], ∃ o, s₂.heap.get? b = some o := fun b hb => let ⟨o, e, _⟩ := T.obj 0 _ st2 b hb; ⟨o, e⟩
  generalize hP2 : s₂.heap.push { cls := .type "list", dict := none, data := .seq ([] : List Value).toArray } = P2 at hns₁ hsb₁ ⊢
  have hC : P2.objs.size = s₂.heap.objs.size + 1 := by rw [← hP2, Heap.size_push]
  have old : ∀ b o, s₂.heap.get? b = some o → h₁.get? b = some o := fun b o e => hsb₁.extBut b o (by rw [hC]; exact Nat.ne_of_lt (Nat.lt_succ_of_lt (Heap.lt_size e))) (Heap.get?_push_of_some _ (hP2 ▸ Heap.get?_push_of_some _ e))
  have hD : ∃ n, h₁.get? s₂.heap.objs.size = some { cls := .type "list", data := .seq #[] n } := ⟨_, hsb₁.extBut _ _ (by rw [hC]; exact Nat.ne_of_lt (Nat.lt_succ_self _)) (Heap.get?_push_of_some _ (hP2 ▸ Heap.get?_push_size _ rfl))⟩
  have hns' : h₁.Ns P2.objs.size fun _ => none := by
    have e : (fun x : Str => ([] : List (Str × Value)).reverse.lookup x) = fun _ => none := by funext y; rfl
    rw [← e]
    exact hns₁
  have I0 := invD (tk := s₂.toks + ([] : List (Str × Value)).length) I2 f2 hof hkind hc hx0 hy0 hdot hC hns' old hD
  have hCs : X.s₀.heap.objs.size ≤ P2.objs.size := by rw [hC]; exact Nat.le_succ_of_le I2.sz
  have loop : ∀ s₃ : Shared, s₃ = { s₂ with heap := h₁, toks := s₂.toks + ([] : List (Str × Value)).length } →
      codeAny (model X.prog X.w) X.A (.compLoop (.ListComp elt [⟨.Tuple [.Name x px, .Name y py] k1 tpos, iter, [], 0⟩] scope pos) 0 (.ref it) (.ref s₂.heap.objs.size) (compEnvC scope [] P2.objs.size X.env)) (compPost (model X.prog X.w) X.A X.xe none (EP X pins σ Q) (.ref s₂.heap.objs.size) P2.objs.size) s₃ := by
    rintro s₃ rfl
    refine compLoop_go (fun n s' => ∃ i ys a b H, Inv (cxD X x y scope P2.objs.size s₂ H₂ [it]) [] (a :: b :: σ) H s' ∧ (∃ ok ov, IsItemIter s'.heap it d i kvs.length ep ok ov) ∧ (∀ b ∈ [it], H b = none) ∧ W i ys H ∧ i + n = kvs.length) ?_ kvs.length
      ⟨0, [], none, none, _, I0, T.keep _ _ _ st2 fun b _ o e => old b o e, fun b hb => by rw [upd_ne (by obtain ⟨o, e⟩ := hof b hb; exact Nat.ne_of_lt (Heap.lt_size e))]; exact (f2 b hb).1, w0, Nat.zero_add _⟩
    rintro n s' ⟨i, ys, a, b, H, I', st', fr', w', hn⟩
    have fpn : ∀ {H : Hp}, (∀ b ∈ [it], H b = none) → ∀ b ∈ [it], FpOk (cxD X x y scope P2.objs.size s₂ H₂ [it]) [] H b := fun hn => fpD I2 f2 hof (by rw [hC]; exact Nat.le_succ _) hn
    obtain ⟨hDl, hdf, stop, step, hlen⟩ := turn i ys H w'
    by_cases hlt : i < kvs.length
    · refine wpAny_mono (T.item (cxD X x y scope P2.objs.size s₂ H₂ [it]) rfl rfl rfl hcalm i [] s' (a :: b :: σ) H (fun _ _ => False) I' (fpn fr') st' ⟨hdf, hlt⟩) (fun r s4 z => ?_) fun _ _ z => z
      obtain ⟨u, hr, h4⟩ := z
      subst hr
      refine wpAny_mono h4 (fun _ s5 z => ?_) fun _ _ z => z
      obtain ⟨xt, H5, I5, r5, y5, st5, fr5⟩ := z
      obtain ⟨t, k, zv, ht0, rfl, hkv, rfl⟩ := y5
      have I5' := I5.pinned (fpn fr5) (T.obj _ _ st5)
      have hxl' : (relabel scope X.env).names.lookup x = some .local := lookup_relabel_local hxl
      have hyl' : (relabel scope X.env).names.lookup y = some .local := lookup_relabel_local hyl
      have hs6 := step k zv t hkv ht0
      have pg := pg_tup (X := cxD X x y scope P2.objs.size s₂ H₂ [it]) (k := k1) (pos := tpos) (n := 2) hcalm (pgs_cons (pg_name (X := cxD X x y scope P2.objs.size s₂ H₂ [it]) (i := 0) (pos := px) hN rfl (.inl hxl') (.inr hxl')) (pgs_cons (pg_name (X := cxD X x y scope P2.objs.size s₂ H₂ [it]) (i := 1) (pos := py) hN rfl (.inl hyl') (.inr hyl')) pgs_nil))
      refine wpAny_mono (pg _ s5 (a :: b :: σ) _ (.ref t) u (fun σ6 H6 => σ6 = some (kV k) :: some zv :: σ ∧ H6 = upd H t (.tup [kV k, zv])) I5' r5 ⟨t, [kV k, zv], rfl, SqT.of upd_same, rfl, _, _, rfl, _, _, rfl, rfl, rfl, rfl⟩) (fun _ s6 z => ?_) fun _ _ z => z
      obtain ⟨σ6, H6, I6, rfl, rfl⟩ := z
      have again : ∀ {H7 : Hp} {s7 : Shared} {zs : List V}, Inv (cxD X x y scope P2.objs.size s₂ H₂ [it]) ([] ++ pinsAt [it] s5.heap) (some (kV k) :: some zv :: σ) H7 s7 → W (i + 1) zs H7 →
          ∃ m, m < n ∧ ∃ i ys a b H, Inv (cxD X x y scope P2.objs.size s₂ H₂ [it]) [] (a :: b :: σ) H s7 ∧ (∃ ok ov, IsItemIter s7.heap it d i kvs.length ep ok ov) ∧ (∀ b ∈ [it], H b = none) ∧ W i ys H ∧ i + m = kvs.length := fun {H7 s7 zs} I7 w7 => by
        refine ⟨n - 1, by omega, i + 1, zs, some (kV k), some zv, H7, I7.unpinned, T.keep _ _ _ st5 fun b hb o e => (I7.pin (b, o) (List.mem_append_right _ (List.mem_append_right _ (mem_pinsAt hb e)))).1, fun b hb => ?_, w7, by omega⟩
        obtain ⟨o, e, d⟩ := T.obj _ _ st5 b hb
        exact (I7.pin (b, o) (List.mem_append_right _ (List.mem_append_right _ (mem_pinsAt hb e)))).2.1
      refine wpAny_tests_nil ?_
      refine wpAny_mono (he P2.objs.size s₂ H₂ [it] _ s6 _ _ _ I6 hs6) (fun u8 s8 z => ?_) fun _ _ z => z
      obtain ⟨y', H8, I8, r8, hD8, w8⟩ := z
      refine wpAny_mono (mt_append (X := cxD X x y scope P2.objs.size s₂ H₂ [it]) _ s8 _ H8 (.ref s₂.heap.objs.size) [y'] (.ref s₂.heap.objs.size) [u8] (fun _ H9 => H9 = upd H8 s₂.heap.objs.size (.lst (ys ++ [y']))) I8 rfl (.cons r8 .nil) ⟨_, ys, y', rfl, rfl, hD8, Nat.lt_of_lt_of_le (by rw [hlen]; exact hlt) ‹_›, rfl⟩) (fun _ s9 z => ?_) fun _ _ z => z
      obtain ⟨_, H9, I9, _, rfl⟩ := z
      exact again I9 w8
    · have hie : i = kvs.length := by omega
      refine wpAny_mono (T.done (cxD X x y scope P2.objs.size s₂ H₂ [it]) rfl rfl rfl hcalm i [] s' (a :: b :: σ) H (fun _ _ => False) I' (fpn fr') st' ⟨hdf, by omega⟩) (fun r s4 z => ?_) fun _ _ z => z
      obtain ⟨hr, I4⟩ := z
      subst hr
      obtain ⟨m4, hm4, _⟩ := I4.loc
      have Iout : Inv X pins σ H s4 := I2.call' I4.os I4.base I4.hok I4.bare fun b hb => by
        obtain ⟨f0, f1, f2, f3, f4, f5⟩ := f2 b hb
        exact ⟨f3, f1, f4, f5⟩
      have Ith : Inv X pins σ (upd H d (.dK kvs)) s4 := Inv.thaw I1 hd Iout hdf
      have hCn : (upd H d (.dK kvs)) P2.objs.size = none := by
        have hCH : H P2.objs.size = none := I4.free
        rw [upd_ne (by intro z; rw [z, hdf] at hCH; cases hCH)]
        exact hCH
      refine ⟨m4, hm4, fun h' hs' => ?_⟩
      refine ⟨.ref s₂.heap.objs.size, upd H d (.dK kvs), Ith.turned (t' := s4.toks) (it := P2.objs.size) (fun b o hb e => (hs'.2 b hb).trans e) hCn ?_ (.inr hCs) (fun y c e z => ?_) (fun p hp z => ?_), rfl, stop hie⟩
      · rw [hC]
        exact Nat.ne_of_gt (Nat.lt_succ_of_lt I2.lt)
      · obtain ⟨v', oc, g1, _⟩ := I2.cell y c e
        have := Heap.lt_size g1
        rw [z, hC] at this
        exact absurd (Nat.lt_of_succ_lt this) (Nat.lt_irrefl _)
      · have := Heap.lt_size (I2.pin p hp).1
        rw [z, hC] at this
        exact absurd (Nat.lt_of_succ_lt this) (Nat.lt_irrefl _)
  exact codeAny_compStart_list (loop _ rfl) (T.self _ 0 _ _ _ (T.keep _ _ _ st2 fun b _ o e => old b o e) (loop _ rfl))
end
end L2

end
section
set_option Elab.async false
set_option linter.all false
set_option maxRecDepth 100000
set_option maxHeartbeats 4000000
namespace L2
open PySem
/-! pages as data -/
def dP : Option (List Int) → PyData
  | none => .none
  | some ws => .list (ws.map PyData.int)
def dC (c : List (Option (List Int))) : PyData := .list (c.map dP)
theorem dP_ok (o : Option (List Int)) : (dP o).canLay0 = true ∧ (dP o).depth ≤ 1 ∧ PyData.eqv (dP o) (dP o) = true := by
  cases o with
  | none => exact ⟨rfl, by decide, rfl⟩
  | some ws =>
    obtain ⟨h1, h2⟩ := layI ws
    exact ⟨by simp only [dP, PyData.canLay0, h1], by simp only [dP, PyData.depth, h2]; decide, eqvI ws⟩
theorem dC_all : ∀ c : List (Option (List Int)), PyData.canLayAll0 (c.map dP) = true ∧ PyData.depthAll (c.map dP) ≤ 1 ∧ PyData.eqvAll (c.map dP) (c.map dP) = true
  | [] => ⟨rfl, by decide, rfl⟩
  | o :: r => by
    obtain ⟨h1, h2, h3⟩ := dC_all r
    obtain ⟨g1, g2, g3⟩ := dP_ok o
    refine ⟨?_, ?_, ?_⟩
    · simp only [List.map_cons, PyData.canLayAll0, h1, g1, Bool.and_self]
    · simp only [List.map_cons, PyData.depthAll]
      omega
    · simp only [List.map_cons, PyData.eqvAll, h3, g3, Bool.and_self]
theorem shapedC (c : List (Option (List Int))) : SeqAt.shaped (dC c) = true := by
  obtain ⟨h1, h2, _⟩ := dC_all c
  simp only [dC, SeqAt.shaped, PyData.canLay0, PyData.depth, h1, Bool.true_and]
  exact decide_eq_true (by omega)
theorem eqvC (c : List (Option (List Int))) : PyData.eqv (dC c) (dC c) = true := by
  simp only [dC, PyData.eqv]
  exact (dC_all c).2.2
theorem datP {K : PySem.W.Frag} {H : Hp} : ∀ ps : Pgs, (∀ (p : Addr) (ws : List Int), some (p, ws) ∈ ps → H p = some (.lst (ws.map V.int))) → DatsR K H (ps.map pgV) ((cont ps).map dP)
  | [], _ => .nil
  | none :: r, h => .cons .non (datP r fun p ws m => h p ws (List.mem_cons_of_mem _ m))
  | some (p, ws) :: r, h => .cons (.lst (SqL.of (h p ws (List.mem_cons_self ..))) (datsI ws)) (datP r fun p ws m => h p ws (List.mem_cons_of_mem _ m))
theorem datPg {K : PySem.W.Frag} {H : Hp} {a : Addr} {ps : Pgs} (g : Pg H a ps) : DatR K H (.ref a) (dC (cont ps)) := .lst (SqL.of g.top) (datP ps fun p ws m => by
  obtain ⟨i, e⟩ := List.getElem?_of_mem m
  exact (g.each i p ws e).1)
/-! quiet terms; a display of written numbers -/
structure PEq (X : Cx) (e : Expr) (t : TE) : Prop where
  h : PE X e t
structure PAq (X : Cx) (es : List Expr) (t : TA) : Prop where
  h : PA X es t
structure PSq (X : Cx) (st : Stmt) (t : TS) : Prop where
  h : PS X st t
structure PSsq (X : Cx) (st : List Stmt) (t : TS) : Prop where
  h : PSs X st t
theorem paq_nil {X : Cx} : PAq X [] tNil := ⟨pa_nil⟩
theorem paq_cons {X : Cx} {e : Expr} {es : List Expr} {te : TE} {t : TA} (h1 : PEq X e te) (h2 : PAq X es t) (hs : ∀ (l : List Expr) (env : Env), starEach (e :: l) env = (false, eval e env) :: starEach l env := by intro _ _; rfl) : PAq X (e :: es) (tCons te t) := ⟨pa_cons h1.h h2.h (hs es X.env)⟩
theorem peq_lst {X : Cx} {es : List Expr} {t : TA} {pos : Pos} (h : PAq X es t) : PEq X (.List es pos) (tLst t) := ⟨pe_lst h.h⟩
theorem pssq_one {X : Cx} {st : Stmt} {t : TS} (h : PSq X st t) : PSsq X [st] t := ⟨pss_one h.h⟩
structure PTq (X : Cx) (c : Expr) (t : TT) : Prop where
  h : PT X c t
structure PIq (X : Cx) (tg iter : Expr) (w : TI) : Prop where
  h : PI X tg iter w
structure PGq (X : Cx) (tg : Expr) (g : TG) : Prop where
  h : PG X tg g
section
variable {X : Cx} {st : Stmt} {rest : List Stmt} {t u : TS} {e tg iter : Expr} {te : TE} {pos : Pos}
theorem pssq_nil : PSsq X [] tNext := ⟨pss_nil⟩
theorem pssq_cons (h1 : PSq X st t) (h2 : PSsq X rest u) : PSsq X (st :: rest) (tSeq t u) := ⟨pss_cons h1.h h2.h⟩
theorem psq_if {c : Expr} {a b : List Stmt} {tc : TT} (hc : PTq X c tc) (ha : PSsq X a t) (hb : PSsq X b u) : PSq X (.If c a b pos) (tIfS tc t u) := ⟨ps_if hc.h ha.h hb.h⟩
theorem psq_ret (he : PEq X e te) : PSq X (.Return (some e) pos) (tRet te) := ⟨ps_ret he.h⟩
theorem peq_ix {a b : Expr} {ta tb : TE} {r : R2} (hr : IxR X r) (ha : PEq X a ta) (hb : PEq X b tb) (hs : PlainIx b) : PEq X (.Subscript a b pos) (tOp r ta tb) := ⟨pe_ix hr ha.h hb.h hs⟩
theorem peq_op {a b : Expr} {ta tb : TE} {op : Operator} {r : R2} (ho : OpR X (binaryOp op) r) (ha : PEq X a ta) (hb : PEq X b tb) : PEq X (.BinOp a op b pos) (tOp r ta tb) := ⟨pe_op ho ha.h hb.h⟩
theorem psq_setq {i : Nat} {x : Str} {pos' : Pos} (hN : X.N.Nodup) (hi : X.N[i]? = some x) (hx : Loc X.env.scope x) (he : PEq X e te) (hs : swapsWith e (some (.Name x pos')) pos.line X.env = pure false := by rfl) (hf : X.fn x = true ∨ X.env.scope.names.lookup x = some .local := by first | exact .inl rfl | exact .inr rfl | assumption) :
    PSq X (.Assign [.Name x pos'] e pos) (tAsg te (gName i)) := ⟨ps_set hN hi hx he.h hs hf⟩
theorem PSsq.ex {D : Ends} {σ : St} {H : Hp} {sts : List Stmt} (h : PSsq X sts t) (g : t D σ H) : ∃ t, PSs X sts t ∧ t D σ H := ⟨t, h.h, g⟩
end
inductive IntCs : List Expr → List Int → Prop
  | nil : IntCs [] []
  | cons {z : Int} {j : Nat} {p : Pos} {es : List Expr} {zs : List Int} : IntCs es zs → IntCs (.Constant (.int z) j p :: es) (z :: zs)
def tVals (vs : List V) : TA := fun _ H Q => Q vs H
theorem pa_ints {X : Cx} {es : List Expr} {zs : List Int} (h : IntCs es zs) : PAq X es (tVals (zs.map V.int)) := by
  induction h with
  | nil => exact ⟨pa_nil⟩
  | cons _ ih => exact ⟨fun p pins s σ H Q I q => (paq_cons ⟨pe_int⟩ ih).h p pins s σ H Q I q⟩
theorem peq_ints {X : Cx} {es : List Expr} {zs : List Int} {pos : Pos} (h : IntCs es zs) : PEq X (.List es pos) (tLst (tVals (zs.map V.int))) := peq_lst (pa_ints h)
end L2

end
section
set_option Elab.async false
set_option linter.all false
set_option maxRecDepth 100000
set_option maxHeartbeats 4000000
namespace L2
open PySem PySem.Spec PyProof.Rows
section
variable {X : Cx} {k : Nat} {f C : Addr} {fd : FuncData} {ps : List Str} {sp : Sp} {ds : List Value} {dvs : List V} {x : Str} {p pos : Pos} {e : Expr} {es : List Expr} {t : TA}
theorem run_makeX {pins : List (Addr × Obj)} {σ : St} {H : Hp} {s : Shared} {Q : VK} {E : XK} {us : List Value} {vs : List V} (M : Mk X.K C f) (F : FnOk X.prog X.w X.K X.mg X.base (CXr X.prog X.w) k f fd ps sp) (hr : Room (k + 1) X.A) (hb : Binds X.K fd ps ds) (hd : Vals dvs ds)
    (I : Inv X pins σ H s) (r : Vals vs us)
    (h : ∀ x dx, H x = none → H dx = none → dx ≠ x → sp (.ref x :: (vs ++ dvs)) (upd (upd H dx (.own x)) x (.ins C dx [])) (fun v H2 => v = .non ∧ Q (.ref x) H2) E) :
    wpAny (model X.prog X.w) X.A (call (.ref C) us) (EP X pins σ Q) (XE X pins σ E) s := by
  have hq := h (s.heap.objs.size + 1) s.heap.objs.size (I.hok.fresh (Nat.le_succ _)) (I.hok.fresh (Nat.le_refl _)) (Nat.ne_of_lt (Nat.lt_succ_self _))
  have I2 := Inv.made (C := C) I
  have r2 : Vals (V.ref (s.heap.objs.size + 1) :: (vs ++ dvs)) (Value.ref (s.heap.objs.size + 1) :: (us ++ ds)) := .cons rfl (r.append hd)
  have hl : (Value.ref (s.heap.objs.size + 1) :: us ++ ds).length = ps.length := by
    have e := r2.length
    rw [F.len _ _ _ _ hq] at e
    exact e.symm
  refine wpAny_call (make_map (f := f) I.kIn M.makes M.init (beq_iff_eq.mp M.fn) (codeAny_mono (F.run _ X.stack _ _ ⟨Value.ref (s.heap.objs.size + 1) :: us, []⟩ (Value.ref (s.heap.objs.size + 1) :: (us ++ ds)) _ _ E (hr.make C us [])
    (I2.env0.make C us []) (hb _ (Value.ref (s.heap.objs.size + 1) :: us) I2.kIn hl) r2 hq) fun r s' hq' => ?_))
  cases r with
  | error e => exact ⟨_, _, I2, hq'⟩
  | ok fl =>
    cases fl with
    | ret u =>
      obtain ⟨v, H', I3, rv, ev, q3⟩ := I2.after hq'
      subst ev
      exact ⟨rv, ⟨V.ref (s.heap.objs.size + 1), H', I3, rfl, q3⟩⟩
    | next => exact False.elim hq'
    | brk => exact False.elim hq'
    | cont => exact False.elim hq'
def tMakeX (C : Addr) (sp : Sp) (dvs : List V) (t : TA) : TEX := fun σ H Q E => t σ H fun vs H1 => ∀ x dx, H1 x = none → H1 dx = none → dx ≠ x → sp (.ref x :: (vs ++ dvs)) (upd (upd H1 dx (.own x)) x (.ins C dx [])) (fun v H2 => v = .non ∧ Q (.ref x) H2) E
theorem pex_make (M : Mk X.K C f) (F : FnOk X.prog X.w X.K X.mg X.base (CXr X.prog X.w) k f fd ps sp) (hr : Room (k + 1) X.A) (hg : Gl X x) (hm : X.mg x = some (.ref C)) (hb : Binds X.K fd ps ds) (hd : Vals dvs ds)
    (ha : PA X.nox (e :: es) t) (hdb : (x == ("__debug__" : Str)) = false := by decide) (he : starEach (e :: es) X.env = (false, eval e X.env) :: starEach es X.env := by rfl) (hpl : (backTo pos (starEach es X.env)).any (·.1) = false := by rfl) :
    PEX X (.Call (.Name x p) (e :: es) [] pos) (tMakeX C sp dvs t) := by
  intro pins s σ H Q E I h
  refine wpAny_Call_Name_kw (ld_glob I hg hm ?_ hdb)
  refine PySem.W.callWith_K (h₀ := X.base) I.ok.mod.kin M.kp (wpAny_mono (ha pos pins s σ H _ (I.wish _) h) (fun us s1 q => ?_) fun _ _ z => z.elim) he hpl
  obtain ⟨vs, H1, I1, r, q⟩ := q
  exact ⟨I1.kIn, run_makeX M F hr hb hd I1.unwish r q⟩
end
section
variable {X : Cx}
theorem call_isins {C D : Addr} (e1 : PySem.W.typeIn X.K (.ref D) = some (.type "type")) (e2 : PySem.W.mroIn X.K D (.type "object") = some true) (e3 : PySem.W.subIn X.K (.ref C) (.ref D) = some true) :
    CallR X (.builtin "isinstance") (fun xs H Q => ∃ a dx fs, xs = [.ref a, .ref D] ∧ H a = some (.ins C dx fs) ∧ Q (.bl true) H) := by
  intro pins s σ H xs us Q I r h
  obtain ⟨a, dx, fs, rfl, he, q⟩ := h
  obtain ⟨u, v, rfl, rx, rt⟩ := r.two
  cases (show u = Value.ref a from rx)
  cases (show v = Value.ref D from rt)
  obtain ⟨d, z, ne, ob, mA, n, r2, q2⟩ := (show ObjOk X.prog X.w H s.heap a (.ins C dx fs) from I.hok a _ he)
  exact PySem.call_isinstance (S := fun _ R s => (X.K.In s.heap ∧ s.heap.get? a = some (PySem.W.instObj C dx)) ∧ R (.ok (.ret (.bool true))) s)
    (fun _ _ _ _ _ hs => PySem.isinstance_outer (EX.nested_yes (EX.ty hs.1.2 rfl) (PySem.W.looks_typeIn hs.1.1 e1) (EX.isType_of hs.1.1 (by obtain ⟨cd, e, _⟩ := Option.bind_eq_some_iff.mp e2; rw [e]; rfl)) (PySem.W.looks_subIn hs.1.1 e3) hs.2)
      (by intro q; cases q)) ⟨⟨I.kIn, ob⟩, ⟨.bl _, H, I, rfl, q⟩⟩
end
end L2

end
section
set_option Elab.async false
set_option linter.all false
set_option maxRecDepth 100000
set_option maxHeartbeats 4000000
namespace K23
open PySem L2
abbrev sWhole : Stmt := top 14
abbrev sBelow : Stmt := top 15
abbrev sWord : Stmt := top 16
abbrev sEight : Stmt := top 20
abbrev sImage : Stmt := top 21
abbrev sCWord : Stmt := top 22
abbrev sRead : Stmt := inClass (top 23) 4
abbrev sWrite : Stmt := inClass (top 23) 5
abbrev sSpot : Stmt := inClass (top 23) 7
abbrev sCPage : Stmt := inClass (top 23) 8
abbrev sInit : Stmt := inClass (top 24) 0
abbrev sSize : Stmt := inClass (top 24) 1
abbrev sHas : Stmt := inClass (top 24) 2
abbrev sWordAt : Stmt := inClass (top 24) 3
abbrev sPutWord : Stmt := inClass (top 24) 4
abbrev sTold : Stmt := inClass (top 24) 7
def below : V → Int → Bool
  | .int i, b => decide (0 ≤ i) && decide (i < b)
  | _, _ => false
theorem below_int {x : V} {b : Int} (h : below x b = true) : ∃ i, x = .int i ∧ 0 ≤ i ∧ i < b := by
  cases x with
  | int i =>
    simp only [below, Bool.and_eq_true, decide_eq_true_eq] at h
    exact ⟨i, rfl, h.1, h.2⟩
  | _ => cases h
theorem below_of {i b : Int} (h0 : 0 ≤ i) (h1 : i < b) : below (.int i) b = true := by simp [below, h0, h1]
structure Dn (K : PySem.W.Frag) (mg : Str → Option Value) (x : Str) (st : Stmt) (ps : List Str) (f : Addr) (fd : FuncData) : Prop where
  F : Fun K x x st f fd
  m : mg x = some (.ref f)
  b : Binds K fd ps []
structure Me (K : PySem.W.Frag) (C : Addr) (x qual : Str) (st : Stmt) (ps : List Str) (f : Addr) (fd : FuncData) : Prop where
  F : Fun K x qual st f fd
  m : Meth K C x f
  b : Binds K fd ps []
structure Txt (K : PySem.W.Frag) (mg : Str → Option Value) : Prop where
  isi : mg "isinstance" = none
  int : mg "int" = none
  boo : mg "bool" = none
  lst : mg "list" = none
  len : mg "len" = none
  all : mg "all" = none
  rng : mg "range" = none
structure Sto (K : PySem.W.Frag) (mg : Str → Option Value) (C NP NL NW NI : Addr) : Prop where
  cl : Cls K C
  nh : NoAttr K C "held"
  words : ∃ t, mg "WORDS" = some (.int 281474976710656 t)
  cells : ∃ t, mg "CELLS" = some (.int 8 t)
  most : ∃ t, mg "MOST_PAGES" = some (.int 24 t)
  np : mg "NoPage" = some (.ref NP)
  xp : L2.excIn K NP = true
  nl : mg "NoPlace" = some (.ref NL)
  xl : L2.excIn K NL = true
  nw : mg "NoWord" = some (.ref NW)
  xw : L2.excIn K NW = true
  ni : mg "NoImage" = some (.ref NI)
  xi : L2.excIn K NI = true
def flds (h : Addr) : List (Str × V) := putF "held" (.ref h) []
theorem flds_held (h : Addr) : (flds h).lookup ("held" : Str) = some (.ref h) := by
  unfold flds
  rw [lookup_putF, if_pos rfl]
theorem flds_no (h : Addr) {m : Str} (h1 : ¬ m = "held") : (flds h).lookup m = none := by
  unfold flds
  rw [lookup_putF, if_neg h1]
  rfl
structure Mem (C : Addr) (H : Hp) (m h : Addr) (ps : Pgs) : Prop where
  ob : ∃ dx, H m = some (.ins C dx (flds h))
  pg : Pg H h ps
  good : Good ps
  len : 1 ≤ ps.length ∧ ps.length ≤ 24
theorem Mem.same {C : Addr} {H H' : Hp} {m h : Addr} {ps : Pgs} (M : Mem C H m h ps) (s : Same H H') : Mem C H' m h ps := ⟨⟨_, s _ _ M.ob.choose_spec⟩, M.pg.same s, M.good, M.len⟩
def isThere : Option (Option (Addr × List Int)) → Bool
  | some (some _) => true
  | _ => false
def hasP (ps : Pgs) : V → Bool
  | .int i => decide (0 ≤ i) && decide (i < ps.length) && isThere ps[i.toNat]?
  | _ => false
theorem hasP_of {ps : Pgs} {i : Nat} {p : Addr} {ws : List Int} (e : ps[i]? = some (some (p, ws))) : hasP ps (.int i) = true := by
  have hi : i < ps.length := (List.getElem?_eq_some_iff.mp e).1
  simp only [hasP, Int.toNat_natCast, e, isThere, Bool.and_true, Bool.and_eq_true, decide_eq_true_eq]
  omega
def spWhole : Sp := fun vs H Q _ => ∃ x, vs = [x] ∧ Th H x ∧ Q (.bl (isI x)) H
def spBelow : Sp := fun vs H Q _ => ∃ x b, vs = [x, .int b] ∧ Th H x ∧ Q (.bl (below x b)) H
def spWord : Sp := fun vs H Q _ => ∃ x, vs = [x] ∧ Th H x ∧ Q (.bl (below x 281474976710656)) H
def spSize (C : Addr) : Sp := fun vs H Q _ => ∃ m h ps, vs = [.ref m] ∧ Mem C H m h ps ∧ Q (.int ps.length) H
def spHas (C : Addr) : Sp := fun vs H Q _ => ∃ m h ps x, vs = [.ref m, x] ∧ Mem C H m h ps ∧ Th H x ∧ Q (.bl (hasP ps x)) H
def spCPage (C NP : Addr) : Sp := fun vs H Q E => ∃ m h ps x, vs = [.ref m, x] ∧ Mem C H m h ps ∧ Th H x ∧ (hasP ps x = true → Q .non H) ∧ (hasP ps x = false → E (.ref NP) none H)
def spSpot (C NP NL : Addr) : Sp := fun vs H Q E => ∃ m h ps x y, vs = [.ref m, x, y] ∧ Mem C H m h ps ∧ Th H x ∧ Th H y ∧ (hasP ps x = true → below y 8 = true → Q .non H) ∧ (hasP ps x = false → E (.ref NP) none H) ∧ (hasP ps x = true → below y 8 = false → E (.ref NL) none H)
def spWordAt (C : Addr) : Sp := fun vs H Q _ => ∃ m h ps, ∃ (i j : Nat) (p : Addr) (ws : List Int), vs = [.ref m, .int i, .int j] ∧ Mem C H m h ps ∧ ps[i]? = some (some (p, ws)) ∧ j < 8 ∧ Q (.int (ws.getD j 0)) H
def spPutWord (C : Addr) : Sp := fun vs H Q _ => ∃ m h ps, ∃ (i j : Nat) (w : Int) (p : Addr) (ws : List Int), vs = [.ref m, .int i, .int j, .int w] ∧ Mem C H m h ps ∧ ps[i]? = some (some (p, ws)) ∧ j < 8 ∧ Q .non (upd H p (.lst ((ws.map V.int).set j (.int w))))
def spRead (C NP NL : Addr) : Sp := fun vs H Q E => ∃ m h ps x y, vs = [.ref m, x, y] ∧ Mem C H m h ps ∧ Th H x ∧ Th H y ∧
  (∀ (i j : Nat) (p : Addr) (ws : List Int), x = .int i → y = .int j → ps[i]? = some (some (p, ws)) → j < 8 → Q (.int (ws.getD j 0)) H) ∧ (hasP ps x = false → E (.ref NP) none H) ∧ (hasP ps x = true → below y 8 = false → E (.ref NL) none H)
def spWrite (C NP NL NW : Addr) : Sp := fun vs H Q E => ∃ m h ps x y z, vs = [.ref m, x, y, z] ∧ Mem C H m h ps ∧ Th H x ∧ Th H y ∧ Th H z ∧
  (∀ (i j : Nat) (w : Int) (p : Addr) (ws : List Int), x = .int i → y = .int j → z = .int w → ps[i]? = some (some (p, ws)) → j < 8 → 0 ≤ w → w < 281474976710656 → Q .non (upd H p (.lst ((ws.map V.int).set j (.int w))))) ∧
  (hasP ps x = false → E (.ref NP) none H) ∧ (hasP ps x = true → below y 8 = false → E (.ref NL) none H) ∧ (hasP ps x = true → below y 8 = true → below z 281474976710656 = false → E (.ref NW) none H)
def spTold (C : Addr) : Sp := fun vs H Q _ => ∃ m h ps, vs = [.ref m] ∧ Mem C H m h ps ∧ ∀ D H' qs, Same H H' → Pg H' D qs → cont qs = cont ps → (∀ b, At D qs b → H b = none) → Q (.ref D) H'
section
variable {P : Program} {w : World} {K : PySem.W.Frag} {mg : Str → Option Value} {base : Heap} {C NP NL NW NI : Addr}
theorem scWh : FnScope ["thing"] ["thing"] (defScope sWhole) := ⟨rfl, rfl, rfl, by decide +kernel, rfl, by decide +kernel, by decide +kernel⟩
theorem ok_whole {f : Addr} {fd : FuncData} (F : Fun K "is_whole" "is_whole" sWhole f fd) (T : Txt K mg) : FnOk P w K mg base CX0 1 f fd ["thing"] spWhole := by
  refine F.ok scWh (fun vs H Q E h => ?_) (fun cdv A outer s H vs Q E hr h => ?_)
  · obtain ⟨x, rfl, _⟩ := h
    rfl
  · obtain ⟨x, rfl, th, q⟩ := h
    refine ⟨_, (pss_one (ps_ret (pe_and (pe_callB call_isint (by rfl) T.isi PyProof.Rows.boot_isinstance (pa_cons (pv 0) (pa_cons (pe_bltn (by rfl) T.int PyProof.Rows.boot_int (show RelV (.ty "int") (.type "int") from rfl)) pa_nil))) (pe_one (pe_not (pe_callB call_isbool (by rfl) T.isi PyProof.Rows.boot_isinstance (pa_cons (pv 0) (pa_cons (pe_bltn (by rfl) T.boo PyProof.Rows.boot_bool (show RelV (.ty "bool") (.type "bool") from rfl)) pa_nil)))))))), ?_⟩
    refine ⟨x, rfl, x, rfl, th, _, rfl, ?_⟩
    cases th with
    | non => exact iteF q
    | bl b => exact iteT ⟨_, rfl, _, rfl, .bl b, _, rfl, q⟩
    | int i => exact iteT ⟨_, rfl, _, rfl, .int i, _, rfl, q⟩
    | str z => exact iteF q
    | lst e => exact iteF q
    | frz e => exact iteF q
    | tup e => exact iteF q
    | dic e => exact iteF q
theorem scBe : FnScope ["thing", "bound"] ["thing", "bound"] (defScope sBelow) := ⟨rfl, rfl, rfl, by decide +kernel, rfl, by decide +kernel, by decide +kernel⟩
theorem ok_below {f f1 : Addr} {fd fd1 : FuncData} (F : Fun K "is_below" "is_below" sBelow f fd) (W : Dn K mg "is_whole" sWhole ["thing"] f1 fd1) (T : Txt K mg) : FnOk P w K mg base CX0 2 f fd ["thing", "bound"] spBelow := by
  have G : FnOk P w K mg base CX0 1 f1 fd1 ["thing"] spWhole := ok_whole W.F T
  refine F.ok scBe (fun vs H Q E h => ?_) (fun cdv A outer s H vs Q E hr h => ?_)
  · obtain ⟨x, b, rfl, _⟩ := h
    rfl
  · obtain ⟨x, b, rfl, th, q⟩ := h
    refine ⟨_, (pss_one (ps_ret (pe_and (pe_call G hr (by rfl) W.m W.F.kp W.b .nil pass0 (pa_cons (pv 0) pa_nil)) (pe_one (pe_chain op_le op_lt pe_int (pv 0) (pv 1)))))), ?_⟩
    refine ⟨x, rfl, x, rfl, th, _, rfl, ?_⟩
    cases th with
    | int i =>
      refine iteT ⟨_, rfl, 0, i, rfl, rfl, _, rfl, ?_⟩
      by_cases h0 : (0 : Int) ≤ i
      · rw [decide_eq_true h0]
        refine iteT ⟨_, rfl, i, b, rfl, rfl, ?_⟩
        simp only [below, decide_eq_true h0, Bool.true_and] at q
        exact q
      · rw [decide_eq_false h0]
        refine iteF ?_
        simp only [below, decide_eq_false h0, Bool.false_and] at q
        exact q
    | non => exact iteF q
    | bl b => exact iteF q
    | str z => exact iteF q
    | lst e => exact iteF q
    | frz e => exact iteF q
    | tup e => exact iteF q
    | dic e => exact iteF q
theorem scWd : FnScope ["thing"] ["thing"] (defScope sWord) := ⟨rfl, rfl, rfl, by decide +kernel, rfl, by decide +kernel, by decide +kernel⟩
theorem ok_word {f f1 : Addr} {fd fd1 : FuncData} (F : Fun K "is_word" "is_word" sWord f fd) (B : Dn K mg "is_below" sBelow ["thing", "bound"] f1 fd1) (G : FnOk P w K mg base CX0 2 f1 fd1 ["thing", "bound"] spBelow) (S : Sto K mg C NP NL NW NI) : FnOk P w K mg base CX0 3 f fd ["thing"] spWord := by
  refine F.ok scWd (fun vs H Q E h => ?_) (fun cdv A outer s H vs Q E hr h => ?_)
  · obtain ⟨x, rfl, _⟩ := h
    rfl
  · obtain ⟨x, rfl, th, q⟩ := h
    obtain ⟨t1, m1⟩ := S.words
    refine ⟨_, (pss_one (ps_ret (pe_call G hr (by rfl) B.m B.F.kp B.b .nil pass0 (pa_cons (pv 0) (pa_cons (pe_glob (by rfl) m1 (show RelV (.int 281474976710656) (.int 281474976710656 t1) from ⟨_, rfl⟩)) pa_nil))))), ?_⟩
    exact ⟨x, rfl, x, _, rfl, th, q⟩
theorem scSi : FnScope ["self"] ["self"] (defScope sSize) := ⟨rfl, rfl, rfl, by decide +kernel, rfl, by decide +kernel, by decide +kernel⟩
theorem ok_size {f : Addr} {fd : FuncData} (F : Fun K "size" "Memory.size" sSize f fd) (S : Sto K mg C NP NL NW NI) (T : Txt K mg) : FnOk P w K mg base CX0 1 f fd ["self"] (spSize C) := by
  refine F.ok scSi (fun vs H Q E h => ?_) (fun cdv A outer s H vs Q E hr h => ?_)
  · obtain ⟨m, h, ps, rfl, _⟩ := h
    rfl
  · obtain ⟨m, h, ps, rfl, M, q⟩ := h
    obtain ⟨dx, hm⟩ := M.ob
    refine ⟨_, (pss_one (ps_ret (pe_callB call_len_seq (by rfl) T.len PySem.boot_len (pa_cons (pe_fld (pv 0) rfl) pa_nil)))), ?_⟩
    refine ⟨_, rfl, m, C, dx, _, _, rfl, hm, S.cl, S.nh, flds_held h, h, _, rfl, .inl (SqL.of M.pg.top), ?_⟩
    rw [List.length_map]
    exact q
theorem scHa : FnScope ["self", "page"] ["self", "page"] (defScope sHas) := ⟨rfl, rfl, rfl, by decide +kernel, rfl, by decide +kernel, by decide +kernel⟩
theorem ok_has {f f1 f2 : Addr} {fd fd1 fd2 : FuncData} (F : Fun K "has" "Memory.has" sHas f fd) (B : Dn K mg "is_below" sBelow ["thing", "bound"] f1 fd1) (G : FnOk P w K mg base CX0 2 f1 fd1 ["thing", "bound"] spBelow)
    (Z : Me K C "size" "Memory.size" sSize ["self"] f2 fd2) (GZ : FnOk P w K mg base CX0 1 f2 fd2 ["self"] (spSize C)) (S : Sto K mg C NP NL NW NI) : FnOk P w K mg base CX0 3 f fd ["self", "page"] (spHas C) := by
  refine F.ok scHa (fun vs H Q E h => ?_) (fun cdv A outer s H vs Q E hr h => ?_)
  · obtain ⟨m, h, ps, x, rfl, _⟩ := h
    rfl
  · obtain ⟨m, h, ps, x, rfl, M, th, q⟩ := h
    obtain ⟨dx, hm⟩ := M.ob
    have hr1 : Room 1 _ := hr.mono (by decide)
    refine ⟨_, (pss_one (ps_ret (pe_and (pe_call G hr (by rfl) B.m B.F.kp B.b .nil pass0 (pa_cons (pv 1) (pa_cons (pe_meth0 (pv 0) S.cl Z.m GZ hr1 Z.b .nil pass0) pa_nil))) (pe_one (pe_cmpR op_notN (pe_ix ix_list (pe_fld (pv 0) rfl) (pv 1) (fun _ _ => rfl)) pe_non (nomark _)))))), ?_⟩
    refine ⟨_, rfl, _, rfl, m, dx, _, rfl, hm, flds_no h (by decide +kernel), m, h, ps, rfl, M, x, _, rfl, th, _, rfl, ?_⟩
    cases hb : below x (ps.length : Int) with
    | false =>
      refine iteF ?_
      have e : hasP ps x = false := by
        cases x with
        | int i =>
          simp only [below] at hb
          simp only [hasP, hb, Bool.false_and]
        | _ => rfl
      rw [e] at q
      exact q
    | true =>
      obtain ⟨i, rfl, h0, h1⟩ := below_int hb
      obtain ⟨n, rfl⟩ : ∃ n : Nat, i = (n : Int) := ⟨i.toNat, by omega⟩
      obtain ⟨o, ho, ha⟩ := atI_pg (ps := ps) (i := n) (by omega)
      refine iteT ⟨_, rfl, m, C, dx, _, _, rfl, hm, S.cl, S.nh, flds_held h, _, rfl, h, _, _, _, rfl, rfl, SqL.of M.pg.top, ha, rfl, ?_⟩
      cases o with
      | none =>
        have e : hasP ps (.int (n : Int)) = false := by simp [hasP, ho, isThere]
        rw [e] at q
        exact q
      | some z =>
        rw [hasP_of ho] at q
        exact q
theorem scWa : FnScope ["self", "page", "cell"] ["self", "page", "cell"] (defScope sWordAt) := ⟨rfl, rfl, rfl, by decide +kernel, rfl, by decide +kernel, by decide +kernel⟩
theorem ok_wordat {f : Addr} {fd : FuncData} (F : Fun K "word_at" "Memory.word_at" sWordAt f fd) (S : Sto K mg C NP NL NW NI) : FnOk P w K mg base CX0 1 f fd ["self", "page", "cell"] (spWordAt C) := by
  refine F.ok scWa (fun vs H Q E h => ?_) (fun cdv A outer s H vs Q E hr h => ?_)
  · obtain ⟨m, h, ps, i, j, p, ws, rfl, _⟩ := h
    rfl
  · obtain ⟨m, h, ps, i, j, p, ws, rfl, M, e, hj, q⟩ := h
    obtain ⟨dx, hm⟩ := M.ob
    obtain ⟨o, ho, ha⟩ := atI_pg (ps := ps) (i := i) (List.getElem?_eq_some_iff.mp e).1
    obtain rfl : o = some (p, ws) := Option.some.inj (ho.symm.trans e)
    refine ⟨_, (pss_one (ps_ret (pe_ix ix_list (pe_ix ix_list (pe_fld (pv 0) rfl) (pv 1) (fun _ _ => rfl)) (pv 2) (fun _ _ => rfl)))), ?_⟩
    exact ⟨_, rfl, m, C, dx, _, _, rfl, hm, S.cl, S.nh, flds_held h, _, rfl, h, _, _, _, rfl, rfl, SqL.of M.pg.top, ha, _, rfl, p, _, _, _, rfl, rfl, SqL.of (M.pg.each i p ws e).1, atI_word (by rw [(M.good i p ws e).1]; exact hj), q⟩
def spCWord (NW : Addr) : Sp := fun vs H Q E => ∃ z, vs = [z] ∧ Th H z ∧ (below z 281474976710656 = true → Q .non H) ∧ (below z 281474976710656 = false → E (.ref NW) none H)
theorem scEi : FnScope ["thing"] ["thing"] (defScope sEight) := ⟨rfl, rfl, rfl, by decide +kernel, rfl, by decide +kernel, by decide +kernel⟩
theorem ndEi : (compN "word" ["thing"]).Nodup := by decide +kernel
theorem dotEi : (".0" : Str) ∉ (["thing"] : List Str) := by decide +kernel
def spEight : Sp := fun vs H Q _ => ∃ (p : Addr) (ws : List Int), vs = [.ref p] ∧ H p = some (.lst (ws.map V.int)) ∧ ws.length = 8 ∧ (∀ w ∈ ws, 0 ≤ w ∧ w < 281474976710656) ∧ ∀ H', Same H H' → Q (.bl true) H'
theorem ok_eight {f f1 : Addr} {fd fd1 : FuncData} (F : Fun K "is_eight_words" "is_eight_words" sEight f fd) (B : Dn K mg "is_word" sWord ["thing"] f1 fd1) (G : FnOk P w K mg base CX0 3 f1 fd1 ["thing"] spWord) (S : Sto K mg C NP NL NW NI) (T : Txt K mg) : FnOk P w K mg base CX0 4 f fd ["thing"] spEight := by
  refine F.ok scEi (fun vs H Q E h => ?_) (fun cdv A outer s H vs Q E hr h => ?_)
  · obtain ⟨p, ws, rfl, _⟩ := h
    rfl
  · obtain ⟨p, ws, rfl, hp, hl, hw, q⟩ := h
    obtain ⟨t2, m2⟩ := S.cells
    refine ⟨_, (pss_one (ps_ret (pe_and (pe_callB call_islist (by rfl) T.isi PyProof.Rows.boot_isinstance (pa_cons (pv 0) (pa_cons (pe_bltn (by rfl) T.lst PyProof.Rows.boot_list (show RelV (.ty "list") (.type "list") from rfl)) pa_nil))) (pe_and (pe_cmpR op_eq (pe_callB call_len_seq (by rfl) T.len PySem.boot_len (pa_cons (pv 0) pa_nil)) (pe_glob (by rfl) m2 (show RelV (.int 8) (.int 8 t2) from ⟨_, rfl⟩)) (nomark _)) (pe_one (pe_callB (call_allB rfl) (by rfl) T.all PyProof.Rows.boot_all (pa_cons (pe_comp (cl := []) (tc := tYes) (te := tCall spWord [] E0 (tCons (tVar 0) tNil)) rfl (pi_list (pv 0)) (closureFor_none (by decide +kernel)) (show CapOk _ _ _ _ from ⟨.inl ⟨.inr rfl, rfl⟩, .inl ⟨.inl rfl, rfl⟩, .inr (.inl ⟨by decide, by decide, by decide⟩), trivial⟩) trivial (fun C s₂ H₂ fp => .nil) (fun C s₂ H₂ fp => (pe_call G hr (by rfl) B.m B.F.kp B.b .nil pass0 (pa_cons (pv 0) pa_nil))) ndEi (hdot := dotEi)) pa_nil))))))), ?_⟩
    refine ⟨_, rfl, _, rfl, .lst hp, _, rfl, iteTS (isLst_of hp) ?_⟩
    refine ⟨_, rfl, p, _, rfl, .inl (SqL.of hp), rfl, _, rfl, iteTS (by show decide (V.int ((ws.map V.int).length : Int) = V.int 8) = true; rw [List.length_map, hl]; rfl) ?_⟩
    refine ⟨_, rfl, p, rfl, ⟨_, SqL.of hp⟩, comp_list (xs := ws.map V.int) (fun D i ys H' => H D = none ∧ Same H H' ∧ ys = (List.replicate i true).map V.bl ∧ H' D = some (.lst ys)) ?_ ?_ ?_ ?_⟩
    · exact fun D hD => ⟨hD, same_new hD, rfl, upd_same⟩
    · rintro D i ys H' _ ⟨hD, ss, rfl, hy⟩
      exact ⟨SqL.of (ss _ _ hp), hy⟩
    · rintro D i x ys H' hi ⟨hD, ss, rfl, hy⟩
      rw [List.getElem?_map] at hi
      cases e : ws[i]? with
      | none => rw [e] at hi; cases hi
      | some z =>
        rw [e] at hi
        have hi' : V.int z = x := Option.some.inj hi
        subst hi'
        obtain ⟨z0, z1⟩ := hw z (List.mem_of_getElem? e)
        have hil : i < 8 := by rw [← hl]; exact (List.getElem?_eq_some_iff.mp e).1
        refine iteT ⟨_, rfl, _, rfl, .int z, ?_⟩
        rw [below_of z0 z1]
        refine ⟨hy, ?_, hD, Same.set ss hD, ?_, upd_same⟩
        · rw [List.length_map, List.length_replicate]
          exact Nat.lt_of_lt_of_le hil (by decide)
        · rw [List.replicate_succ', List.map_append]
          rfl
    · rintro D ys H' ⟨hD, ss, rfl, hy⟩
      refine ⟨D, _, rfl, hy, ?_⟩
      rw [show ((List.replicate (ws.map V.int).length true).all id) = true by simp]
      exact q H' ss
theorem scIm : FnScope ["pages", "page"] ["pages"] (defScope sImage) := ⟨rfl, rfl, rfl, by decide +kernel, rfl, by decide +kernel, by decide +kernel⟩
def spImage : Sp := fun vs H Q _ => ∃ (p : Addr) (ps : Pgs), vs = [.ref p] ∧ Pg H p ps ∧ Good ps ∧ 1 ≤ ps.length ∧ ps.length ≤ 24 ∧ ∀ H', Same H H' → Q .non H'
theorem ok_image {f f1 : Addr} {fd fd1 : FuncData} (F : Fun K "check_image" "check_image" sImage f fd) (B : Dn K mg "is_eight_words" sEight ["thing"] f1 fd1) (G : FnOk P w K mg base CX0 4 f1 fd1 ["thing"] spEight) (S : Sto K mg C NP NL NW NI) (T : Txt K mg) : FnOk P w K mg base (CXr P w) 5 f fd ["pages"] spImage := by
  refine F.okR scIm (fun vs H Q E h => ?_) (fun cdv A outer s H vs Q E hr h => ?_)
  · obtain ⟨p, ps, rfl, _⟩ := h
    rfl
  · obtain ⟨p, ps, rfl, g, hg, l1, l2, q⟩ := h
    obtain ⟨t3, m3⟩ := S.most
    refine ⟨_, (pss_cons (ps_if (PW.pt (pw_or (pt_not (pt_val (pe_callB call_islist (by rfl) T.isi PyProof.Rows.boot_isinstance (pa_cons (pv 0) (pa_cons (pe_bltn (by rfl) T.lst PyProof.Rows.boot_list (show RelV (.ty "list") (.type "list") from rfl)) pa_nil))))) (pw_or1 (pt_not (pt_chain op_le op_le pe_int (pe_callB call_len_seq (by rfl) T.len PySem.boot_len (pa_cons (pv 0) pa_nil)) (pe_glob (by rfl) m3 (show RelV (.int 24) (.int 24 t3) from ⟨_, rfl⟩))))))) (pss_one (ps_raise S.xi S.ni raisesR rfl (pa_cons pe_str pa_nil))) pss_nil) (pss_one (ps_for passesOwnR rfl (pi_list (pv 0)) (pg_name (i := 1) scIm.nd rfl (Or.inl rfl)) (pss_one (ps_if (PW.pt (pw_and (pt_cmpR op_notN (pv 1) pe_non (nomark _)) (pw_and1 (pt_not (pt_val (pe_call G hr (by rfl) B.m B.F.kp B.b .nil pass0 (pa_cons (pv 1) pa_nil))))))) (pss_one (ps_raise S.xi S.ni raisesR rfl (pa_cons pe_str pa_nil))) pss_nil))))), ?_⟩
    refine ⟨_, rfl, _, rfl, .lst g.top, _, rfl, iteFS (by show (!isLst H (.ref p)) = false; rw [isLst_of g.top]; rfl) ?_⟩
    refine ⟨_, rfl, p, _, rfl, .inl (SqL.of g.top), 1, _, rfl, rfl, _, rfl, iteTS (by show decide ((1 : Int) ≤ ((ps.map pgV).length : Int)) = true; rw [List.length_map]; exact decide_eq_true (by omega)) ?_⟩
    refine ⟨_, 24, rfl, rfl, _, rfl, iteFS (by show (!decide ((((ps.map pgV).length : Int)) ≤ 24)) = false; rw [List.length_map, decide_eq_true (by omega)]; rfl) ?_⟩
    refine ⟨_, rfl, p, rfl, ⟨_, SqL.of g.top⟩, for_list (K := K) (a := p) (xs := ps.map pgV) (fun i σ H' => (∃ v, σ = [some (.ref p), v]) ∧ Same H H') ⟨⟨_, rfl⟩, Same.refl _⟩ (fun i σ H' _ ⟨_, ss⟩ => SqL.of (ss _ _ g.top)) ?_ ?_⟩
    · rintro i x σ H' hi ⟨⟨v, rfl⟩, ss⟩
      rw [List.getElem?_map] at hi
      cases e : ps[i]? with
      | none => rw [e] at hi; cases hi
      | some o =>
        rw [e] at hi
        have hi' : pgV o = x := Option.some.inj hi
        subst hi'
        cases o with
        | none =>
          refine ⟨_, rfl, rfl, _, rfl, iteF ?_⟩
          refine iteF ?_
          exact ⟨⟨_, rfl⟩, ss⟩
        | some z =>
          obtain ⟨a, ws⟩ := z
          refine ⟨_, rfl, rfl, _, rfl, iteT ?_⟩
          refine ⟨_, rfl, a, ws, rfl, ss _ _ (g.each i a ws e).1, (hg i a ws e).1, (hg i a ws e).2, fun H2 s2 => ⟨_, rfl, iteF ?_⟩⟩
          exact ⟨⟨_, rfl⟩, ss.trans s2⟩
    · rintro σ H' ⟨_, ss⟩
      exact q H' ss
theorem scIn : FnScope ["self", "pages"] ["self", "pages"] (defScope sInit) := ⟨rfl, rfl, rfl, by decide +kernel, rfl, by decide +kernel, by decide +kernel⟩
theorem ndIn : (compN "page" ["self", "pages"]).Nodup := by decide +kernel
theorem dotIn : (".0" : Str) ∉ (["self", "pages"] : List Str) := by decide +kernel
def spInit (C : Addr) : Sp := fun vs H Q _ => ∃ (m dx p : Addr) (ps : Pgs), vs = [.ref m, .ref p] ∧ H m = some (.ins C dx []) ∧ Pg H p ps ∧ Good ps ∧ 1 ≤ ps.length ∧ ps.length ≤ 24 ∧
  ∀ (h : Addr) (H' : Hp) (qs : Pgs), (∀ b o, b ≠ m → H b = some o → H' b = some o) → Mem C H' m h qs → cont qs = cont ps → (∀ b, At h qs b → H b = none) → Q .non H'
theorem good_cont {ps qs : Pgs} (h : cont qs = cont ps) (g : Good ps) : Good qs := fun i p ws e => by
  obtain ⟨q, f⟩ := cont_some h e
  exact g i q ws f
theorem ok_init {f f1 : Addr} {fd fd1 : FuncData} (F : Fun K "__init__" "Memory.__init__" sInit f fd) (B : Dn K mg "check_image" sImage ["pages"] f1 fd1) (G : FnOk P w K mg base (CXr P w) 5 f1 fd1 ["pages"] spImage) (S : Sto K mg C NP NL NW NI) (T : Txt K mg) : FnOk P w K mg base (CXr P w) 6 f fd ["self", "pages"] (spInit C) := by
  refine F.okR scIn (fun vs H Q E h => ?_) (fun cdv A outer s H vs Q E hr h => ?_)
  · obtain ⟨m, dx, p, ps, rfl, _⟩ := h
    rfl
  · obtain ⟨m, dx, p, ps, rfl, hm, g, hg, l1, l2, q⟩ := h
    refine ⟨_, (pss_cons (ps_expr (pe_call G hr (by rfl) B.m B.F.kp B.b .nil passR (pa_cons (pv 1) pa_nil))) (pss_one (ps_fld (pv 0) (pe_comp (cl := []) (tc := tYes) (te := tCopy K) rfl (pi_list (pv 1)) (closureFor_none (by decide +kernel)) (show CapOk _ _ _ _ from ⟨.inl ⟨.inr rfl, rfl⟩, .inl ⟨.inl rfl, rfl⟩, .inr (.inl ⟨by decide, by decide, by decide⟩), trivial⟩) trivial (fun C s₂ H₂ fp => .nil) (fun C s₂ H₂ fp => (pe_ifExp (pt_cmpR op_isN (pv 0) pe_non (nomark _)) pe_non (pe_callTy call_list_of (by rfl) T.lst PyProof.Rows.boot_list (pa_cons (pv 0) pa_nil)))) ndIn (hdot := dotIn)) rfl))), ?_⟩
    refine ⟨_, rfl, p, ps, rfl, g, hg, l1, l2, fun H1 s1 => ?_⟩
    refine ⟨_, rfl, p, rfl, ⟨_, SqL.of (s1 _ _ g.top)⟩, copy_pages (g.same s1) (by omega) fun D H2 qs s2 g2 hc hf => ?_⟩
    have s12 := s1.trans s2
    have hm2 := s12 _ _ hm
    have nm : ∀ b, At D qs b → b ≠ m := fun b hb z => by
      have := s1.free (hf b hb)
      rw [z, hm] at this
      cases this
    refine ⟨_, rfl, m, C, dx, _, rfl, hm2, S.cl, S.nh, (by show 0 < 1000; decide), ?_⟩
    refine q D _ qs (fun b o hb e => by rw [upd_ne hb]; exact s12 _ _ e) ⟨⟨dx, upd_same⟩, g2.keep fun b hb => upd_ne (nm b hb), good_cont hc hg, ?_⟩ hc fun b hb => s1.free (hf b hb)
    have := cont_len hc
    omega
end
end K23

end
section
set_option Elab.async false
set_option linter.all false
set_option maxRecDepth 100000
set_option maxHeartbeats 4000000
namespace K23
open PySem L2
abbrev sGive : Stmt := inClass (top 23) 5
abbrev sLay : Stmt := inClass (top 23) 6
theorem below_far {i b : Int} (h : b ≤ i) : below (.int i) b = false := by
  have e : decide (i < b) = false := decide_eq_false (by omega)
  simp [below, e]
theorem below_neg {b : Int} : below (.int (-1)) b = false := by simp [below]
structure Both (C : Addr) (H : Hp) (m h D : Addr) (ps qs : Pgs) : Prop where
  M : Mem C H m h ps
  g : Pg H D qs
  c : cont ps = cont qs
  ap : ∀ b, At h ps b → ¬ At D qs b
theorem passX0 {P : Program} {w : World} {X : Cx} : Passes (CXr P w) X E0 := by
  rintro _ _ _ _ _ _ _ ⟨_, _, _, _, _, _, _, _, _, _, _, _, _, _, _, q⟩
  exact q.elim
end K23

end
section
set_option Elab.async false
set_option linter.all false
set_option maxRecDepth 100000
set_option maxHeartbeats 4000000
namespace K23
open PySem L2
abbrev sSInit : Stmt := inClass (top 18) 0
abbrev sSTold : Stmt := inClass (top 18) 5
abbrev Rs := List (Int × Int × Int)
def lookR : Rs → Int → Option (Int × Int)
  | [], _ => none
  | x :: r, k => if x.1 = k then some x.2 else lookR r k
def putR : Rs → Int × Int × Int → Rs
  | [], x => [x]
  | y :: r, x => if y.1 = x.1 then x :: r else y :: putR r x
def delR (rs : Rs) (k : Int) : Rs := rs.filter fun x => decide (x.1 ≠ k)
def keepR (n : Int) (rs : Rs) (x : Int × Int × Int) : Rs × Option Int := if ((putR rs x).length : Int) ≤ n then (putR rs x, none) else ((putR rs x).tail, (putR rs x).head?.map (·.1))
def oV : Option Int → V
  | none => .non
  | some i => .int i
inductive Rws (H : Hp) : List (Key × V) → Rs → Prop
  | nil : Rws H [] []
  | cons {k p r : Int} {t : Addr} {kvs : List (Key × V)} {rs : Rs} : H t = some (.tup [.int p, .int r]) → Rws H kvs rs → Rws H ((Sum.inl k, .ref t) :: kvs) ((k, p, r) :: rs)
theorem Rws.imp {H H' : Hp} (f : ∀ t xs, H t = some (.tup xs) → H' t = some (.tup xs)) {kvs : List (Key × V)} {rs : Rs} (h : Rws H kvs rs) : Rws H' kvs rs := by
  induction h with
  | nil => exact .nil
  | cons e _ ih => exact .cons (f _ _ e) ih
theorem Rws.len {H : Hp} {kvs : List (Key × V)} {rs : Rs} (h : Rws H kvs rs) : kvs.length = rs.length := by
  induction h with
  | nil => rfl
  | cons e _ ih => rw [List.length_cons, List.length_cons, ih]
theorem Rws.get {H : Hp} {kvs : List (Key × V)} {rs : Rs} (h : Rws H kvs rs) : ∀ (i : Nat) (k : Key) (z : V), kvs[i]? = some (k, z) → ∃ x t, rs[i]? = some x ∧ k = Sum.inl x.1 ∧ z = .ref t ∧ H t = some (.tup [.int x.2.1, .int x.2.2]) := by
  induction h with
  | nil => intro i k z e; simp at e
  | @cons k' p r t kvs rs e _ ih =>
    intro i k z he
    cases i with
    | zero =>
      have he' : some (Sum.inl k', V.ref t) = some (k, z) := he
      cases he'
      exact ⟨(k', p, r), t, rfl, rfl, rfl, e⟩
    | succ i => exact ih i k z he
structure Shf (K : PySem.W.Frag) (mg : Str → Option Value) (C : Addr) : Prop where
  cl : Cls K C
  nm : NoAttr K C "most"
  ns : NoAttr K C "seats"
  seats : ∃ t, mg "SEATS" = some (.int 12 t)
structure FsOk (fs : List (Str × V)) (n : Int) (q : Addr) : Prop where
  most : fs.lookup ("most" : Str) = some (.int n)
  seats : fs.lookup ("seats" : Str) = some (.ref q)
  no : ∀ m : Str, ¬ m = "most" → ¬ m = "seats" → fs.lookup m = none
  few : fs.length ≤ 100
structure Sh (C : Addr) (H : Hp) (m q : Addr) (n : Int) (rs : Rs) : Prop where
  ob : ∃ dx fs, H m = some (.ins C dx fs) ∧ FsOk fs n q
  se : ∃ kvs, H q = some (.dK kvs) ∧ Rws H kvs rs
  nd : (rs.map (·.1)).Nodup
  ln : rs.length ≤ 13
  n1 : 1 ≤ n
  n2 : n ≤ 12
theorem Sh.same {C : Addr} {H H' : Hp} {m q : Addr} {n : Int} {rs : Rs} (S : Sh C H m q n rs) (s : Same H H') : Sh C H' m q n rs := by
  obtain ⟨dx, fs, e, f⟩ := S.ob
  obtain ⟨kvs, e2, r⟩ := S.se
  exact ⟨⟨dx, fs, s _ _ e, f⟩, ⟨kvs, s _ _ e2, r.imp fun t xs z => s _ _ z⟩, S.nd, S.ln, S.n1, S.n2⟩
def But (a : Addr) (H H' : Hp) : Prop := ∀ b o, b ≠ a → H b = some o → H' b = some o
theorem But.upd {a : Addr} {H : Hp} {o : HO} : But a H (upd H a o) := fun b u h e => by rw [upd_ne h]; exact e
theorem But.same {a : Addr} {H H1 H2 : Hp} (b : But a H1 H2) (s : Same H H1) (h : H a = none) : Same H H2 := fun x o e => b x o (ne_of_none e h) (s x o e)
theorem Sh.but {C a : Addr} {H H' : Hp} {m q : Addr} {n : Int} {rs : Rs} (S : Sh C H m q n rs) (s : But a H H') (h1 : m ≠ a) (h2 : q ≠ a) (h3 : ∀ xs, H a ≠ some (.tup xs)) : Sh C H' m q n rs := by
  obtain ⟨dx, fs, e, f⟩ := S.ob
  obtain ⟨kvs, e2, r⟩ := S.se
  exact ⟨⟨dx, fs, s _ _ h1 e, f⟩, ⟨kvs, s _ _ h2 e2, r.imp fun t xs z => s _ _ (fun y => h3 xs (y ▸ z)) z⟩, S.nd, S.ln, S.n1, S.n2⟩
theorem Sh.qt {C : Addr} {H : Hp} {m q : Addr} {n : Int} {rs : Rs} (S : Sh C H m q n rs) (xs : List V) : H q ≠ some (.tup xs) := by
  obtain ⟨kvs, e2, r⟩ := S.se
  rw [e2]
  intro z
  cases z
inductive Trs (H : Hp) : List V → Rs → Prop
  | nil : Trs H [] []
  | cons {k p r : Int} {t : Addr} {ys : List V} {rs : Rs} : H t = some (.tup [.int k, .int p, .int r]) → Trs H ys rs → Trs H (.ref t :: ys) ((k, p, r) :: rs)
theorem Trs.imp {H H' : Hp} (f : ∀ t xs, H t = some (.tup xs) → H' t = some (.tup xs)) {ys : List V} {rs : Rs} (h : Trs H ys rs) : Trs H' ys rs := by
  induction h with
  | nil => exact .nil
  | cons e _ ih => exact .cons (f _ _ e) ih
theorem Trs.len {H : Hp} {ys : List V} {rs : Rs} (h : Trs H ys rs) : ys.length = rs.length := by
  induction h with
  | nil => rfl
  | cons e _ ih => rw [List.length_cons, List.length_cons, ih]
theorem Trs.app {H : Hp} {ys : List V} {rs : Rs} {k p r : Int} {t : Addr} (h : Trs H ys rs) (e : H t = some (.tup [.int k, .int p, .int r])) : Trs H (ys ++ [.ref t]) (rs ++ [(k, p, r)]) := by
  induction h with
  | nil => exact .cons e .nil
  | cons e' _ ih => exact .cons e' ih
structure TL (H : Hp) (l : Addr) (rs : Rs) : Prop where
  ls : ∃ ys, H l = some (.lst ys) ∧ Trs H ys rs
def spSInit (C : Addr) : Sp := fun vs H Q _ => ∃ (m dx : Addr) (n : Int), vs = [.ref m, .int n] ∧ H m = some (.ins C dx []) ∧ 1 ≤ n ∧ n ≤ 12 ∧ ∀ (q : Addr) (H' : Hp), But m H H' → H q = none → Sh C H' m q n [] → Q .non H'
def spSTold (C : Addr) : Sp := fun vs H Q _ => ∃ (m q : Addr) (n : Int) (rs : Rs), vs = [.ref m] ∧ Sh C H m q n rs ∧ ∀ (l : Addr) (H' : Hp), Same H H' → H l = none → TL H' l rs → Q (.ref l) H'
section
variable {P : Program} {w : World} {K : PySem.W.Frag} {mg : Str → Option Value} {base : Heap} {C : Addr}
theorem scSIn : FnScope ["self", "most"] ["self", "most"] (defScope sSInit) := ⟨rfl, rfl, rfl, by decide +kernel, rfl, by decide +kernel, by decide +kernel⟩
theorem ok_sinit {f f1 : Addr} {fd fd1 : FuncData} (F : Fun K "__init__" "Shelf.__init__" sSInit f fd) (D1 : Dn K mg "is_whole" sWhole ["thing"] f1 fd1) (G1 : FnOk P w K mg base CX0 1 f1 fd1 ["thing"] spWhole) (S : Shf K mg C) : FnOk P w K mg base CX0 2 f fd ["self", "most"] (spSInit C) := by
  obtain ⟨t1, m1⟩ := S.seats
  refine F.ok scSIn (fun vs H Q E h => ?_) (fun cdv A outer s H vs Q E hr h => ?_)
  · obtain ⟨m, dx, n, rfl, _⟩ := h
    rfl
  · obtain ⟨m, dx, n, rfl, hm, h1, h2, q⟩ := h
    refine ⟨_, pss_cons (ps_if (PW.pt (pw_or (pt_not (pt_val (pe_call G1 hr (by rfl) D1.m D1.F.kp D1.b .nil pass0 (pa_cons (pv 1) pa_nil)))) (pw_or1 (pt_not (pt_chain op_le op_le pe_int (pv 1) (pe_glob (by rfl) m1 (show RelV (.int 12) (.int 12 t1) from ⟨_, rfl⟩))))))) pss_never pss_nil) (pss_cons (ps_fld (pv 0) (pv 1) rfl) (pss_one (ps_fld (pv 0) pe_dnewK rfl))), ?_⟩
    refine ⟨_, rfl, .int n, rfl, .int n, _, rfl, iteF ?_⟩
    refine ⟨_, rfl, 1, n, rfl, rfl, _, rfl, ?_⟩
    rw [decide_eq_true h1]
    refine iteT ⟨n, 12, rfl, rfl, _, rfl, ?_⟩
    rw [decide_eq_true h2]
    refine iteF ?_
    refine ⟨_, rfl, _, rfl, m, C, dx, _, rfl, hm, S.cl, S.nm, (by show 0 < 1000; decide), ?_⟩
    intro p hp
    have np : m ≠ p := ne_of_none upd_same hp
    refine ⟨_, rfl, m, C, dx, _, rfl, (by rw [upd_ne np]; exact upd_same), S.cl, S.ns, (by show 1 < 1000; decide), ?_⟩
    have hp0 : H p = none := by
      rw [upd_ne np.symm] at hp
      exact hp
    refine q p _ (fun b o hb e => ?_) hp0 ⟨⟨dx, _, upd_same, ⟨?_, ?_, fun g z1 z2 => ?_, ?_⟩⟩, ⟨[], ?_, .nil⟩, List.nodup_nil, by decide, h1, h2⟩
    · rw [upd_ne hb, upd_ne (ne_of_none e hp0), upd_ne hb]
      exact e
    · rw [lookup_putF, if_neg (by decide +kernel), lookup_putF, if_pos rfl]
    · rw [lookup_putF, if_pos rfl]
    · rw [lookup_putF, if_neg z2, lookup_putF, if_neg z1]
      rfl
    · exact Nat.le_trans (length_putF _ _ _) (Nat.le_trans (Nat.succ_le_succ (length_putF _ _ _)) (by decide))
    · rw [upd_ne np.symm]
      exact upd_same
theorem scSTo : FnScope ["self"] ["self"] (defScope sSTold) := ⟨rfl, rfl, rfl, by decide +kernel, rfl, by decide +kernel, by decide +kernel⟩
theorem ndSTo : (compN2 "number" "row" ["self"]).Nodup := by decide +kernel
theorem dotSTo : (".0" : Str) ∉ (["self"] : List Str) := by decide +kernel
theorem ok_stold {f : Addr} {fd : FuncData} (F : Fun K "told" "Shelf.told" sSTold f fd) (S : Shf K mg C) : FnOk P w K mg base CX0 1 f fd ["self"] (spSTold C) := by
  refine F.ok scSTo (fun vs H Q E h => ?_) (fun cdv A outer s H vs Q E hr h => ?_)
  · obtain ⟨m, q, n, rs, rfl, _⟩ := h
    rfl
  · obtain ⟨m, q, n, rs, rfl, W, qq⟩ := h
    obtain ⟨dx, fs, hm, fo⟩ := W.ob
    obtain ⟨kvs, hq, rw⟩ := W.se
    refine ⟨_, pss_one (ps_ret (pe_compI (te := tTup (tCons (tVar 0) (tCons (tOp (rIxT K) (tVar 1) (tC (.int 0))) (tCons (tOp (rIxT K) (tVar 1) (tC (.int 1))) tNil)))) rfl (pe_bm0 PySem.F.plainAttrs_dict PySem.F.slot_dict_items PySem.F.type_dict_items mt_items (pe_fld (pv 0) rfl)) (closureFor_none (by decide +kernel)) (by rfl) (fun C s₂ H₂ fp => (pe_tup (pa_cons (pv 0) (pa_cons (pe_ix ix_tup (pv 1) pe_int (fun _ _ => rfl)) (pa_cons (pe_ix ix_tup (pv 1) pe_int (fun _ _ => rfl)) pa_nil))))) ndSTo (hdot := dotSTo))), ?_⟩
    refine ⟨_, rfl, m, C, dx, fs, _, rfl, hm, S.cl, S.ns, fo.seats, .inr (.inr (.inl ⟨rfl, .inl ⟨kvs, hq⟩⟩)), q, kvs, rfl, rfl, hq, fun v hv => ?_⟩
    have nv : ∀ b o, H b = some o → b ≠ v := fun b o e => ne_of_none e hv
    refine ⟨v, q, kvs, rfl, upd_same, (by rw [upd_ne (nv _ _ hq)]; exact hq), fun ob D hD => ?_⟩
    have hDv : D ≠ v := fun z => by rw [z, upd_same] at hD; cases hD
    rw [upd_ne hDv] at hD
    have nD : ∀ b o, H b = some o → b ≠ D := fun b o e => ne_of_none e hD
    refine ⟨fun i ys H' => H' q = some (.frz ob (.dK kvs)) ∧ H' D = some (.lst ys) ∧ But q H H' ∧ Trs H' ys (rs.take i) ∧ i ≤ rs.length, ⟨?_, upd_same, fun b o hb e => ?_, ?_, Nat.zero_le _⟩, ?_⟩
    · rw [upd_ne (nD _ _ hq), upd_same]
    · rw [upd_ne (nD _ _ e), upd_ne hb, upd_ne (nv _ _ e)]
      exact e
    · rw [List.take_zero]
      exact .nil
    · rintro i ys H' ⟨hqf, hDl, bt, tr, hi⟩
      have hlen : ys.length = i := by rw [tr.len, List.length_take]; omega
      refine ⟨hDl, hqf, fun hie => ?_, fun k z t hkz ht => ?_, hlen⟩
      · refine qq D _ (fun b o e => ?_) hD ⟨ys, ?_, ?_⟩
        · by_cases hb : b = q
          · subst hb
            rw [upd_same, ← e, hq]
          · rw [upd_ne hb]
            exact bt b o hb e
        · rw [upd_ne (nD _ _ hq).symm]
          exact hDl
        · rw [hie, rw.len, List.take_length] at tr
          exact tr.imp fun t xs e => by rw [upd_ne (fun y => by rw [y, hqf] at e; cases e)]; exact e
      · obtain ⟨x, tt, hx, rfl, rfl, htt⟩ := rw.get i k z hkz
        have nqt : tt ≠ q := fun y => W.qt _ (y ▸ htt)
        have htt' := bt tt _ nqt htt
        have s1 := same_new (o := .tup [kV (Sum.inl x.1), V.ref tt]) ht
        have h2 := SqT.of (K := K) (s1 _ _ htt')
        refine ⟨_, rfl, _, rfl, tt, _, _, _, rfl, rfl, h2, rfl, _, rfl, tt, _, _, _, rfl, rfl, h2, rfl, (by show 3 ≤ sizeLine; decide), fun t2 ht2 => ?_⟩
        have s2 := s1.trans (same_new (o := .tup [kV (Sum.inl x.1), .int x.2.1, .int x.2.2]) ht2)
        have hD3 := s2 _ _ hDl
        have hq3 := s2 _ _ hqf
        have ht3 : (upd (upd H' t (.tup [kV (Sum.inl x.1), V.ref tt])) t2 (.tup [kV (Sum.inl x.1), .int x.2.1, .int x.2.2])) t2 = some (.tup [V.int x.1, .int x.2.1, .int x.2.2]) := upd_same
        have hlt : i < rs.length := (List.getElem?_eq_some_iff.mp hx).1
        generalize (upd (upd H' t (.tup [kV (Sum.inl x.1), V.ref tt])) t2 (.tup [kV (Sum.inl x.1), .int x.2.1, .int x.2.2])) = H3 at *
        refine ⟨hD3, ?_, upd_same, fun b o hb e => ?_, ?_, hlt⟩
        · rw [upd_ne (ne_of hq3 hD3 (by intro y; cases y))]
          exact hq3
        · rw [upd_ne (nD _ _ e)]
          exact s2 _ _ (bt b o hb e)
        · rw [List.take_succ, hx]
          have up : ∀ t xs, H3 t = some (.tup xs) → upd H3 D (.lst (ys ++ [V.ref t2])) t = some (.tup xs) := fun t xs e => by rw [upd_ne (ne_of e hD3 (by intro y; cases y))]; exact e
          exact (tr.imp fun t xs e => up t xs (s2 _ _ e)).app (up _ _ ht3)
end
end K23

end
section
set_option Elab.async false
set_option linter.all false
set_option maxRecDepth 100000
set_option maxHeartbeats 4000000
namespace K23
open PySem L2
abbrev sPInit : Stmt := inClass (top 27) 0
abbrev sPSize : Stmt := inClass (top 27) 1
abbrev sPHas : Stmt := inClass (top 27) 2
abbrev sPWordAt : Stmt := inClass (top 27) 3
abbrev sGiveUp : Stmt := inClass (top 27) 5
abbrev sCome : Stmt := inClass (top 27) 6
abbrev sAsk : Stmt := inClass (top 27) 7
abbrev sWInit : Stmt := inClass (top 26) 0
abbrev sWGive : Stmt := inClass (top 26) 15
abbrev sWant : Stmt := inClass (top 26) 16
abbrev sShelf : Stmt := inClass (top 26) 17
abbrev sRoot : Stmt := inClass (top 26) 12
abbrev sWPages : Stmt := inClass (top 26) 18
abbrev sWords : Stmt := inClass (top 23) 6
structure Wf (fs : List (Str × V)) (m r aw : Addr) (b : Int) : Prop where
  mem : fs.lookup ("memory" : Str) = some (.ref m)
  bas : fs.lookup ("base" : Str) = some (.int b)
  rck : fs.lookup ("rack" : Str) = some (.ref r)
  ans : fs.lookup ("answers" : Str) = some (.ref aw)
  no : ∀ n : Str, ¬ n = "memory" → ¬ n = "base" → ¬ n = "rack" → ¬ n = "answers" → fs.lookup n = none
structure Plc (K : PySem.W.Frag) (PL : Addr) : Prop where
  cl : Cls K PL
  nm : NoAttr K PL "memory"
  nb : NoAttr K PL "base"
  nr : NoAttr K PL "rack"
  na : NoAttr K PL "answers"
structure Way (C SC PL : Addr) (H : Hp) (a m h r q aw : Addr) (ps : Pgs) (n : Int) (rs : Rs) (bs : List Bool) (b : Int) : Prop where
  ob : ∃ dx fs, H a = some (.ins PL dx fs) ∧ Wf fs m r aw b
  M : Mem C H m h ps
  S : Sh SC H r q n rs
  an : H aw = some (.lst (bs.map V.bl))
  nd : ¬ At h ps aw
theorem Way.same {C SC PL : Addr} {H H' : Hp} {a m h r q aw : Addr} {ps : Pgs} {n : Int} {rs : Rs} {bs : List Bool} {b : Int} (w : Way C SC PL H a m h r q aw ps n rs bs b) (s : Same H H') : Way C SC PL H' a m h r q aw ps n rs bs b := by
  obtain ⟨dx, fs, e, f⟩ := w.ob
  exact ⟨⟨dx, fs, s _ _ e, f⟩, w.M.same s, w.S.same s, s _ _ w.an, w.nd⟩
theorem list8_of {ws : List Int} (h : ws.length = 8) : [ws.getD 0 0, ws.getD 1 0, ws.getD 2 0, ws.getD 3 0, ws.getD 4 0, ws.getD 5 0, ws.getD 6 0, ws.getD 7 0] = ws := by
  match ws, h with
  | [_, _, _, _, _, _, _, _], _ => rfl

def spPSize (C SC PL : Addr) : Sp := fun vs H Q _ => ∃ (a m h r q aw : Addr) (ps : Pgs) (n : Int) (rs : Rs) (bs : List Bool) (b : Int), vs = [.ref a] ∧ Way C SC PL H a m h r q aw ps n rs bs b ∧ Q (.int ps.length) H
def spPHas (C SC PL : Addr) : Sp := fun vs H Q _ => ∃ (a m h r q aw : Addr) (ps : Pgs) (n : Int) (rs : Rs) (bs : List Bool) (b : Int) (x : V), vs = [.ref a, x] ∧ Way C SC PL H a m h r q aw ps n rs bs b ∧ Th H x ∧ Q (.bl (hasP ps x)) H
def spPWordAt (C SC PL : Addr) : Sp := fun vs H Q _ => ∃ (a m h r q aw : Addr) (ps : Pgs) (n : Int) (rs : Rs) (bs : List Bool) (b : Int) (i j : Nat) (p : Addr) (ws : List Int), vs = [.ref a, .int i, .int j] ∧ Way C SC PL H a m h r q aw ps n rs bs b ∧ ps[i]? = some (some (p, ws)) ∧ j < 8 ∧ Q (.int (ws.getD j 0)) H
def spGiveUp (C SC PL : Addr) : Sp := fun vs H Q _ => ∃ (a m h r q aw : Addr) (ps : Pgs) (n : Int) (rs : Rs) (bs : List Bool) (b : Int) (i : Nat), vs = [.ref a, .int i] ∧ Way C SC PL H a m h r q aw ps n rs bs b ∧ hasP ps (.int i) = true ∧ Q .non (upd H h (.lst ((ps.map pgV).set i (pgV none))))
def spCome (C SC PL : Addr) : Sp := fun vs H Q _ => ∃ (a m h r q aw : Addr) (ps : Pgs) (n : Int) (rs : Rs) (bs : List Bool) (b : Int) (i : Nat), vs = [.ref a, .int i] ∧ Way C SC PL H a m h r q aw ps n rs bs b ∧ i < ps.length ∧ ∀ (l : Addr) (H1 : Hp), Same H H1 → H1 l = none → Q .non (upd (upd H1 l (.lst (([0, 0, 0, 0, 0, 0, 0, 0] : List Int).map V.int))) h (.lst ((ps.map pgV).set i (.ref l))))
def spAsk (C SC PL : Addr) : Sp := fun vs H Q _ => ∃ (a m h r q aw : Addr) (ps : Pgs) (n : Int) (rs : Rs) (bs : List Bool) (b : Int), vs = [.ref a] ∧ Way C SC PL H a m h r q aw ps n rs bs b ∧ (bs = [] → Q (.bl false) H) ∧ ∀ b0 br, bs = b0 :: br → Q (.bl b0) (upd H aw (.lst (br.map V.bl)))
def spWGive (C SC PL : Addr) : Sp := fun vs H Q _ => ∃ (a m h r q aw : Addr) (ps : Pgs) (n : Int) (rs : Rs) (bs : List Bool) (b : Int) (x : V), vs = [.ref a, x] ∧ Way C SC PL H a m h r q aw ps n rs bs b ∧ Th H x ∧ (hasP ps x = false → Q (.bl false) H) ∧ ∀ i : Nat, x = .int i → hasP ps x = true → Q (.bl true) (upd H h (.lst ((ps.map pgV).set i (pgV none))))
def spWant (C SC PL : Addr) : Sp := fun vs H Q _ => ∃ (a m h r q aw : Addr) (ps : Pgs) (n : Int) (rs : Rs) (bs : List Bool) (b : Int) (x : V), vs = [.ref a, x] ∧ Way C SC PL H a m h r q aw ps n rs bs b ∧ Th H x ∧ ((below x ps.length = false ∨ hasP ps x = true ∨ bs = []) → Q (.bl false) H) ∧
  (below x ps.length = true → hasP ps x = false → ∀ br, bs = false :: br → Q (.bl false) (upd H aw (.lst (br.map V.bl)))) ∧
  (∀ (i : Nat) br, x = .int i → i < ps.length → hasP ps x = false → bs = true :: br → ∀ (l : Addr) (H1 : Hp), Same (upd H aw (.lst (br.map V.bl))) H1 → H1 l = none → Q (.bl true) (upd (upd H1 l (.lst (([0, 0, 0, 0, 0, 0, 0, 0] : List Int).map V.int))) h (.lst ((ps.map pgV).set i (.ref l)))))
def spRoot (C SC PL : Addr) : Sp := fun vs H Q _ => ∃ (a m h r q aw : Addr) (ps : Pgs) (n : Int) (rs : Rs) (bs : List Bool) (b : Int), vs = [.ref a] ∧ Way C SC PL H a m h r q aw ps n rs bs b ∧ Q (.int b) H
def spShelf (C SC PL : Addr) : Sp := fun vs H Q _ => ∃ (a m h r q aw : Addr) (ps : Pgs) (n : Int) (rs : Rs) (bs : List Bool) (b : Int), vs = [.ref a] ∧ Way C SC PL H a m h r q aw ps n rs bs b ∧ ∀ (l : Addr) (H' : Hp), Same H H' → H l = none → TL H' l rs → Q (.ref l) H'
def spWords (C SC PL : Addr) : Sp := fun vs H Q _ => ∃ (a m h r q aw : Addr) (ps : Pgs) (n : Int) (rs : Rs) (bs : List Bool) (b : Int) (i : Nat) (p : Addr) (ws : List Int), vs = [.ref a, .int i] ∧ Way C SC PL H a m h r q aw ps n rs bs b ∧ ps[i]? = some (some (p, ws)) ∧ ∀ l H', Same H H' → H l = none → H' l = some (.lst (ws.map V.int)) → Q (.ref l) H'
def spWPages (C SC PL : Addr) : Sp := fun vs H Q _ => ∃ (a m h r q aw : Addr) (ps : Pgs) (n : Int) (rs : Rs) (bs : List Bool) (b : Int), vs = [.ref a] ∧ Way C SC PL H a m h r q aw ps n rs bs b ∧ ∀ D H' qs, Same H H' → Pg H' D qs → cont qs = cont ps → (∀ b, At D qs b → H b = none) → Q (.ref D) H'
def spWInit (SC PL : Addr) : Sp := fun vs H Q _ => ∃ (a dx : Addr) (fs : List (Str × V)) (n : Int), vs = [.ref a, .int n] ∧ H a = some (.ins PL dx fs) ∧ fs.length < 900 ∧ 1 ≤ n ∧ n ≤ 12 ∧ ∀ (r q : Addr) (H' : Hp), But a H H' → H r = none → H q = none → H' a = some (.ins PL dx (putF "rack" (.ref r) (putF "base" (.int 0) fs))) → Sh SC H' r q n [] → Q .non H'
def spPInit (C SC PL : Addr) : Sp := fun vs H Q _ => ∃ (a dx p l : Addr) (ps : Pgs) (n : Int) (bs : List Bool), vs = [.ref a, .ref p, .int n, .ref l] ∧ H a = some (.ins PL dx []) ∧ Pg H p ps ∧ Good ps ∧ 1 ≤ ps.length ∧ ps.length ≤ 24 ∧ 1 ≤ n ∧ n ≤ 12 ∧ H l = some (.lst (bs.map V.bl)) ∧
  ∀ (m h r q aw : Addr) (H' : Hp) (qs : Pgs), But a H H' → Way C SC PL H' a m h r q aw qs n [] bs 0 → cont qs = cont ps → (∀ b, (b = m ∨ b = r ∨ b = q ∨ b = aw ∨ At h qs b) → H b = none) → Q .non H'
section
variable {P : Program} {w : World} {K : PySem.W.Frag} {mg : Str → Option Value} {base : Heap} {C NP NL NW NI SC PL WC : Addr}
theorem scpsz : FnScope ["self"] ["self"] (defScope sPSize) := ⟨rfl, rfl, rfl, by decide +kernel, rfl, by decide +kernel, by decide +kernel⟩
theorem ok_psz {f f1 : Addr} {fd fd1 : FuncData} (F : Fun K "size" "Plain.size" sPSize f fd) (M1 : Me K C "size" "Memory.size" sSize ["self"] f1 fd1) (GM1 : FnOk P w K mg base CX0 1 f1 fd1 ["self"] (spSize C)) (S0 : Sto K mg C NP NL NW NI) (PC : Plc K PL) : FnOk P w K mg base CX0 2 f fd ["self"] (spPSize C SC PL) := by
  refine F.ok scpsz (fun vs H Q E h' => ?_) (fun cdv A outer s H vs Q E hr h' => ?_)
  · obtain ⟨a, m, h, r, q, aw, ps, n, rs, bs, b, rfl, _⟩ := h'
    rfl
  · obtain ⟨a, m, h, r, q, aw, ps, n, rs, bs, b, rfl, W, q⟩ := h'
    refine ⟨_, (pss_one (ps_ret (pe_meth0 (pe_fld (pv 0) rfl) S0.cl M1.m GM1 hr M1.b .nil pass0))), ?_⟩
    obtain ⟨dx, fs, ha, wf⟩ := W.ob
    obtain ⟨dm, hm⟩ := W.M.ob
    exact ⟨_, rfl, a, PL, dx, fs, _, rfl, ha, PC.cl, PC.nm, wf.mem, m, dm, flds h, rfl, hm, flds_no h (by decide +kernel), m, h, ps, rfl, W.M, q⟩
theorem scphas : FnScope ["self", "page"] ["self", "page"] (defScope sPHas) := ⟨rfl, rfl, rfl, by decide +kernel, rfl, by decide +kernel, by decide +kernel⟩
theorem ok_phas {f f1 : Addr} {fd fd1 : FuncData} (F : Fun K "has" "Plain.has" sPHas f fd) (M1 : Me K C "has" "Memory.has" sHas ["self", "page"] f1 fd1) (GM1 : FnOk P w K mg base CX0 3 f1 fd1 ["self", "page"] (spHas C)) (S0 : Sto K mg C NP NL NW NI) (PC : Plc K PL) : FnOk P w K mg base CX0 4 f fd ["self", "page"] (spPHas C SC PL) := by
  refine F.ok scphas (fun vs H Q E h' => ?_) (fun cdv A outer s H vs Q E hr h' => ?_)
  · obtain ⟨a, m, h, r, q, aw, ps, n, rs, bs, b, x, rfl, _⟩ := h'
    rfl
  · obtain ⟨a, m, h, r, q, aw, ps, n, rs, bs, b, x, rfl, W, th, q⟩ := h'
    refine ⟨_, (pss_one (ps_ret (pe_meth (pe_fld (pv 0) rfl) S0.cl M1.m GM1 hr M1.b .nil pass0 (pa_cons (pv 1) pa_nil)))), ?_⟩
    obtain ⟨dx, fs, ha, wf⟩ := W.ob
    obtain ⟨dm, hm⟩ := W.M.ob
    exact ⟨_, rfl, a, PL, dx, fs, _, rfl, ha, PC.cl, PC.nm, wf.mem, m, dm, flds h, rfl, hm, flds_no h (by decide +kernel), _, rfl, m, h, ps, x, rfl, W.M, th, q⟩
theorem scpwat : FnScope ["self", "page", "cell"] ["self", "page", "cell"] (defScope sPWordAt) := ⟨rfl, rfl, rfl, by decide +kernel, rfl, by decide +kernel, by decide +kernel⟩
theorem ok_pwat {f f1 : Addr} {fd fd1 : FuncData} (F : Fun K "word_at" "Plain.word_at" sPWordAt f fd) (M1 : Me K C "word_at" "Memory.word_at" sWordAt ["self", "page", "cell"] f1 fd1) (GM1 : FnOk P w K mg base CX0 1 f1 fd1 ["self", "page", "cell"] (spWordAt C)) (S0 : Sto K mg C NP NL NW NI) (PC : Plc K PL) : FnOk P w K mg base CX0 2 f fd ["self", "page", "cell"] (spPWordAt C SC PL) := by
  refine F.ok scpwat (fun vs H Q E h' => ?_) (fun cdv A outer s H vs Q E hr h' => ?_)
  · obtain ⟨a, m, h, r, q, aw, ps, n, rs, bs, b, i, j, p, ws, rfl, _⟩ := h'
    rfl
  · obtain ⟨a, m, h, r, q, aw, ps, n, rs, bs, b, i, j, p, ws, rfl, W, e, hj, q⟩ := h'
    refine ⟨_, (pss_one (ps_ret (pe_meth (pe_fld (pv 0) rfl) S0.cl M1.m GM1 hr M1.b .nil pass0 (pa_cons (pv 1) (pa_cons (pv 2) pa_nil))))), ?_⟩
    obtain ⟨dx, fs, ha, wf⟩ := W.ob
    obtain ⟨dm, hm⟩ := W.M.ob
    exact ⟨_, rfl, a, PL, dx, fs, _, rfl, ha, PC.cl, PC.nm, wf.mem, m, dm, flds h, rfl, hm, flds_no h (by decide +kernel), _, rfl, _, rfl, m, h, ps, i, j, p, ws, rfl, W.M, e, hj, q⟩
theorem scroot : FnScope ["self"] ["self"] (defScope sRoot) := ⟨rfl, rfl, rfl, by decide +kernel, rfl, by decide +kernel, by decide +kernel⟩
theorem ok_root {f : Addr} {fd : FuncData} (F : Fun K "root" "Ways.root" sRoot f fd) (PC : Plc K PL) : FnOk P w K mg base CX0 1 f fd ["self"] (spRoot C SC PL) := by
  refine F.ok scroot (fun vs H Q E h' => ?_) (fun cdv A outer s H vs Q E hr h' => ?_)
  · obtain ⟨a, m, h, r, q, aw, ps, n, rs, bs, b, rfl, _⟩ := h'
    rfl
  · obtain ⟨a, m, h, r, q, aw, ps, n, rs, bs, b, rfl, W, q⟩ := h'
    refine ⟨_, (pss_one (ps_ret (pe_fld (pv 0) rfl))), ?_⟩
    obtain ⟨dx, fs, ha, wf⟩ := W.ob
    exact ⟨_, rfl, a, PL, dx, fs, _, rfl, ha, PC.cl, PC.nb, wf.bas, q⟩
theorem scshelf : FnScope ["self"] ["self"] (defScope sShelf) := ⟨rfl, rfl, rfl, by decide +kernel, rfl, by decide +kernel, by decide +kernel⟩
theorem ok_shelf {f f1 : Addr} {fd fd1 : FuncData} (F : Fun K "shelf" "Ways.shelf" sShelf f fd) (M1 : Me K SC "told" "Shelf.told" sSTold ["self"] f1 fd1) (GM1 : FnOk P w K mg base CX0 1 f1 fd1 ["self"] (spSTold SC)) (PC : Plc K PL) (SS : Shf K mg SC) : FnOk P w K mg base CX0 2 f fd ["self"] (spShelf C SC PL) := by
  refine F.ok scshelf (fun vs H Q E h' => ?_) (fun cdv A outer s H vs Q E hr h' => ?_)
  · obtain ⟨a, m, h, r, q, aw, ps, n, rs, bs, b, rfl, _⟩ := h'
    rfl
  · obtain ⟨a, m, h, r, q, aw, ps, n, rs, bs, b, rfl, W, q⟩ := h'
    refine ⟨_, (pss_one (ps_ret (pe_meth0 (pe_fld (pv 0) rfl) SS.cl M1.m GM1 hr M1.b .nil pass0))), ?_⟩
    obtain ⟨dx, fs, ha, wf⟩ := W.ob
    obtain ⟨dr, fr, hr0, fo⟩ := W.S.ob
    exact ⟨_, rfl, a, PL, dx, fs, _, rfl, ha, PC.cl, PC.nr, wf.rck, r, dr, fr, rfl, hr0, fo.no _ (by decide +kernel) (by decide +kernel), r, _, n, rs, rfl, W.S, q⟩
theorem ndWo : (compN "cell" ["self", "page"]).Nodup := by decide +kernel
theorem dotWo : (".0" : Str) ∉ (["self", "page"] : List Str) := by decide +kernel
theorem scWo2 : FnScope ["self", "page"] ["self", "page"] (defScope sWords) := ⟨rfl, rfl, rfl, by decide +kernel, rfl, by decide +kernel, by decide +kernel⟩
theorem ok_words {f f1 : Addr} {fd fd1 : FuncData} (F : Fun K "words_of" "Store.words_of" sWords f fd) (M1 : Me K PL "word_at" "Plain.word_at" sPWordAt ["self", "page", "cell"] f1 fd1) (GM1 : FnOk P w K mg base CX0 2 f1 fd1 ["self", "page", "cell"] (spPWordAt C SC PL)) (S0 : Sto K mg C NP NL NW NI) (PC : Plc K PL) (T : Txt K mg) : FnOk P w K mg base CX0 3 f fd ["self", "page"] (spWords C SC PL) := by
  obtain ⟨t2, m2⟩ := S0.cells
  refine F.ok scWo2 (fun vs H Q E h' => ?_) (fun cdv A outer s H vs Q E hr h' => ?_)
  · obtain ⟨a, m, h, r, q, aw, ps, n, rs, bs, b, i, p, ws, rfl, _⟩ := h'
    rfl
  · obtain ⟨a, m, h, r, q, aw, ps, n, rs, bs, b, i, p, ws, rfl, W, e, q0⟩ := h'
    refine ⟨_, (pss_one (ps_ret (pe_comp (cl := [("self", s.heap.objs.size + 1), ("page", s.heap.objs.size + 1 + 1)]) (tc := tYes) (te := tMeth PL "word_at" (spPWordAt C SC PL) [] E0 (tVar 1) (tCons (tVar 2) (tCons (tVar 0) tNil))) rfl (pi_range1 (by rfl) T.rng (pa_cons (pe_glob (by rfl) m2 (show RelV (.int 8) (.int 8 t2) from ⟨_, rfl⟩)) pa_nil)) rfl (by repeat' (first | exact trivial | refine ⟨.inl ⟨.inr rfl, rfl⟩, ?_⟩ | refine ⟨.inl ⟨.inl rfl, rfl⟩, ?_⟩ | refine ⟨.inr (.inl ⟨by decide, by decide, by decide⟩), ?_⟩ | refine ⟨.inr (.inr ⟨rfl, by decide +kernel, by decide +kernel, rfl, rfl⟩), ?_⟩)) (show ClOk _ _ from ⟨rfl, rfl, trivial⟩) (fun C s₂ H₂ fp => .nil) (fun C s₂ H₂ fp => (pe_meth (pv 1) PC.cl M1.m GM1 hr M1.b .nil pass0 (pa_cons (pv 2) (pa_cons (pv 0) pa_nil)))) ndWo (hdot := dotWo)))), ?_⟩
    have w8 : ws.length = 8 := (W.M.good i p ws e).1
    refine ⟨8, rfl, by decide, by decide, comp_range (lo := 0) (n := 8) (fun D j ys H' => H D = none ∧ Same H H' ∧ ys = (List.range j).map (fun k => V.int (ws.getD k 0)) ∧ H' D = some (.lst ys)) ?_ ?_ ?_ ?_⟩
    · exact fun D hD => ⟨hD, same_new hD, rfl, upd_same⟩
    · rintro D j ys H' _ ⟨_, _, _, e⟩
      exact e
    · rintro D j ys H' hj ⟨hD, ss, rfl, e2⟩
      have ei : (0 : Int) + (j : Int) = (j : Int) := by omega
      rw [ei]
      have W2 := W.same ss
      obtain ⟨dx, fs, ha, wf⟩ := W2.ob
      refine iteT ⟨_, rfl, a, dx, fs, rfl, ha, wf.no _ (by decide +kernel) (by decide +kernel) (by decide +kernel) (by decide +kernel), _, rfl, _, rfl, a, m, h, r, q, aw, ps, n, rs, bs, b, i, j, p, ws, rfl, W2, e, hj, e2, (by rw [List.length_map, List.length_range]; exact Nat.lt_of_lt_of_le hj (by decide)), hD, ss.set hD, ?_, upd_same⟩
      rw [List.range_succ, List.map_append]
      rfl
    · rintro D ys H' ⟨hD, ss, rfl, e2⟩
      refine q0 D H' ss hD ?_
      rw [e2]
      have : (List.range 8).map (fun k => V.int (ws.getD k 0)) = ([ws.getD 0 0, ws.getD 1 0, ws.getD 2 0, ws.getD 3 0, ws.getD 4 0, ws.getD 5 0, ws.getD 6 0, ws.getD 7 0] : List Int).map V.int := rfl
      rw [this, list8_of w8]
theorem ndWp : (compN "page" ["self"]).Nodup := by decide +kernel
theorem dotWp : (".0" : Str) ∉ (["self"] : List Str) := by decide +kernel
theorem scwpages : FnScope ["self"] ["self"] (defScope sWPages) := ⟨rfl, rfl, rfl, by decide +kernel, rfl, by decide +kernel, by decide +kernel⟩
theorem ok_wpages {f f1 f2 f3 : Addr} {fd fd1 fd2 fd3 : FuncData} (F : Fun K "pages" "Ways.pages" sWPages f fd) (M1 : Me K PL "size" "Plain.size" sPSize ["self"] f1 fd1) (GM1 : FnOk P w K mg base CX0 2 f1 fd1 ["self"] (spPSize C SC PL)) (M2 : Me K PL "has" "Plain.has" sPHas ["self", "page"] f2 fd2) (GM2 : FnOk P w K mg base CX0 4 f2 fd2 ["self", "page"] (spPHas C SC PL)) (M3 : Me K PL "words_of" "Store.words_of" sWords ["self", "page"] f3 fd3) (GM3 : FnOk P w K mg base CX0 3 f3 fd3 ["self", "page"] (spWords C SC PL)) (PC : Plc K PL) (T : Txt K mg) : FnOk P w K mg base CX0 5 f fd ["self"] (spWPages C SC PL) := by
  refine F.ok scwpages (fun vs H Q E h' => ?_) (fun cdv A outer s H vs Q E hr h' => ?_)
  · obtain ⟨a, m, h, r, q, aw, ps, n, rs, bs, b, rfl, _⟩ := h'
    rfl
  · obtain ⟨a, m, h, r, q, aw, ps, n, rs, bs, b, rfl, W, q0⟩ := h'
    have hr3 : Room 3 _ := hr.mono (by decide)
    have hr2 : Room 2 _ := hr.mono (by decide)
    refine ⟨_, (pss_one (ps_ret (pe_comp (cl := [("self", s.heap.objs.size + 1)]) (tc := tYes) (te := tIf (tB (tMeth PL "has" (spPHas C SC PL) [] E0 (tVar 1) (tCons (tVar 0) tNil))) (tMeth PL "words_of" (spWords C SC PL) [] E0 (tVar 1) (tCons (tVar 0) tNil)) (tC .non)) rfl (pi_range1 (by rfl) T.rng (pa_cons (pe_meth0 (pv 0) PC.cl M1.m GM1 hr2 M1.b .nil pass0) pa_nil)) rfl (by repeat' (first | exact trivial | refine ⟨.inl ⟨.inr rfl, rfl⟩, ?_⟩ | refine ⟨.inl ⟨.inl rfl, rfl⟩, ?_⟩ | refine ⟨.inr (.inl ⟨by decide, by decide, by decide⟩), ?_⟩ | refine ⟨.inr (.inr ⟨rfl, by decide +kernel, by decide +kernel, rfl, rfl⟩), ?_⟩)) (show ClOk _ _ from ⟨rfl, trivial⟩) (fun C s₂ H₂ fp => .nil) (fun C s₂ H₂ fp => (pe_ifExp (pt_val (pe_meth (pv 1) PC.cl M2.m GM2 hr M2.b .nil pass0 (pa_cons (pv 0) pa_nil))) (pe_meth (pv 1) PC.cl M3.m GM3 hr3 M3.b .nil pass0 (pa_cons (pv 0) pa_nil)) pe_non)) ndWp (hdot := dotWp)))), ?_⟩
    obtain ⟨dx, fs, ha, wf⟩ := W.ob
    have hl := W.M.len
    refine ⟨_, rfl, a, dx, fs, rfl, ha, wf.no _ (by decide +kernel) (by decide +kernel) (by decide +kernel) (by decide +kernel), a, m, h, r, q, aw, ps, n, rs, bs, b, rfl, W, (ps.length : Int), rfl, by omega, by omega, ?_⟩
    rw [Int.toNat_natCast]
    refine comp_range (lo := 0) (n := ps.length) (fun D i ys H' => ∃ qs : Pgs, H D = none ∧ Same H H' ∧ Pg H' D qs ∧ ys = qs.map pgV ∧ qs.length = i ∧ cont qs = (cont ps).take i ∧ (∀ b, At D qs b → H b = none)) ?_ ?_ ?_ ?_
    · intro D hD
      refine ⟨[], hD, same_new hD, ⟨upd_same, fun i p ws e => by simp at e, fun i j p ws ws' e => by simp at e⟩, rfl, rfl, rfl, fun b hb => ?_⟩
      rcases hb with rfl | ⟨i, ws, e⟩
      · exact hD
      · simp at e
    · rintro D i ys H' _ ⟨qs, _, ss, g, rfl, _⟩
      exact g.top
    · rintro D i ys H' hi ⟨qs, hD, ss, gq, rfl, hql, hc, hf⟩
      have ei : (0 : Int) + (i : Int) = (i : Int) := by omega
      rw [ei]
      have W2 := W.same ss
      obtain ⟨dx, fs, ha, wf⟩ := W2.ob
      have eo : ps[i]? = some ps[i] := List.getElem?_eq_getElem hi
      have sl : i < sizeLine := Nat.lt_of_lt_of_le (show i < 1001 by omega) (by decide)
      have tk : (cont ps).take (i + 1) = (cont ps).take i ++ [(ps[i]).map (·.2)] := by
        have : (cont ps)[i]? = some ((ps[i]).map (·.2)) := by unfold cont; rw [List.getElem?_map, eo]; rfl
        rw [List.take_add_one, this]
        rfl
      refine iteT ⟨_, rfl, a, dx, fs, rfl, ha, wf.no _ (by decide +kernel) (by decide +kernel) (by decide +kernel) (by decide +kernel), _, rfl, a, m, h, r, q, aw, ps, n, rs, bs, b, _, rfl, W2, .int _, _, rfl, ?_⟩
      cases ep : ps[i] with
      | none =>
        rw [ep] at eo tk
        refine iteFS (by show hasP ps (.int (i : Int)) = false; simp [hasP, eo, isThere]) ⟨gq.top, (by rw [List.length_map, hql]; exact sl), qs ++ [none], hD, ss.set hD, gq.app (o := none) (Same.refl _) (fun q ws e => by cases e), by rw [List.map_append]; rfl, by rw [List.length_append, hql]; rfl, by rw [tk, ← hc]; unfold cont; rw [List.map_append]; rfl, fun b hb => ?_⟩
        rcases hb.app with z | ⟨ws, z⟩
        · exact hf b z
        · cases z
      | some t =>
        obtain ⟨pt, wt⟩ := t
        rw [ep] at eo tk
        refine iteTS (hasP_of eo) ⟨_, rfl, a, dx, fs, rfl, ha, wf.no _ (by decide +kernel) (by decide +kernel) (by decide +kernel) (by decide +kernel), _, rfl, a, m, h, r, q, aw, ps, n, rs, bs, b, i, pt, wt, rfl, W2, eo, fun l H2 s2 fl hl2 => ?_⟩
        have hn : ∀ (q : Addr) (ws : List Int), some (l, wt) = some (q, ws) → H2 q = some (.lst (ws.map V.int)) ∧ H' q = none := fun q ws e => by
          cases e
          exact ⟨hl2, fl⟩
        refine ⟨s2 _ _ gq.top, (by rw [List.length_map, hql]; exact sl), qs ++ [some (l, wt)], hD, (ss.trans s2).set hD, gq.app s2 hn, by rw [List.map_append]; rfl, by rw [List.length_append, hql]; rfl, ?_, fun b hb => ?_⟩
        · rw [tk, ← hc]
          unfold cont
          rw [List.map_append]
          rfl
        · rcases hb.app with z | ⟨ws, z⟩
          · exact hf b z
          · cases z
            exact ss.free fl
    · rintro D ys H' ⟨qs, hD, ss, gq, rfl, hql, hc, hf⟩
      refine q0 D H' qs ss gq ?_ hf
      rw [hc, List.take_of_length_le]
      unfold cont
      rw [List.length_map]
      exact Nat.le_refl _
theorem scwinit : FnScope ["self", "most"] ["self", "most"] (defScope sWInit) := ⟨rfl, rfl, rfl, by decide +kernel, rfl, by decide +kernel, by decide +kernel⟩
theorem ok_winit {f f1 : Addr} {fd fd1 : FuncData} (F : Fun K "__init__" "Ways.__init__" sWInit f fd) (MK : Mk K SC f1) (mS : mg "Shelf" = some (.ref SC)) (BI : Binds K fd1 ["self", "most"] []) (GI : FnOk P w K mg base CX0 2 f1 fd1 ["self", "most"] (spSInit SC)) (PC : Plc K PL) : FnOk P w K mg base CX0 4 f fd ["self", "most"] (spWInit SC PL) := by
  refine F.ok scwinit (fun vs H Q E h' => ?_) (fun cdv A outer s H vs Q E hr h' => ?_)
  · obtain ⟨a, dx, fs, n, rfl, _⟩ := h'
    rfl
  · obtain ⟨a, dx, fs, n, rfl, ha, hl, n1, n2, q0⟩ := h'
    refine ⟨_, (pss_cons (ps_fld (pv 0) pe_int rfl) (pss_one (ps_fld (pv 0) (pe_make MK GI hr (by rfl) mS BI .nil pass0 (pa_cons (pv 1) pa_nil)) rfl))), ?_⟩
    refine ⟨_, rfl, a, PL, dx, fs, rfl, ha, PC.cl, PC.nb, (by omega), ?_⟩
    have za : upd H a (.ins PL dx (putF "base" (.int 0) fs)) a = some (.ins PL dx (putF "base" (.int 0) fs)) := upd_same
    have ka : ∀ b o, H b = some o → b ≠ a → upd H a (.ins PL dx (putF "base" (.int 0) fs)) b = some o := fun b o e z => by rw [upd_ne z]; exact e
    have fa : ∀ b, upd H a (.ins PL dx (putF "base" (.int 0) fs)) b = none → b ≠ a ∧ H b = none := fun b e => by
      have z : b ≠ a := fun z => by rw [z, upd_same] at e; cases e
      rw [upd_ne z] at e
      exact ⟨z, e⟩
    generalize upd H a (.ins PL dx (putF "base" (.int 0) fs)) = H1 at *
    refine ⟨_, rfl, fun r dr hr0 hdr ner => ?_⟩
    have s0 : Same H1 (upd (upd H1 dr (.own r)) r (.ins SC dr [])) := (same_new hdr).trans (same_new (by rw [upd_ne ner.symm]; exact hr0))
    refine ⟨r, dr, n, rfl, upd_same, n1, n2, fun q H2 b2 fq sh2 => ⟨rfl, ?_⟩⟩
    obtain ⟨ra, fr⟩ := fa r hr0
    obtain ⟨qa, fq⟩ := fa q (s0.free fq)
    have ha2 := b2 a _ ra.symm (s0 _ _ za)
    refine ⟨_, rfl, a, PL, dx, _, rfl, ha2, PC.cl, PC.nr, (by have := length_putF "base" (.int 0) fs; omega), ?_⟩
    exact q0 r q _ (fun b o z e => by rw [upd_ne z]; exact b2 b o (ne_of_none e fr) (s0 _ _ (ka b o e z))) fr fq upd_same (sh2.but But.upd ra qa fun xs z => by rw [ha2] at z; cases z)
theorem scPl2 : FnScope ["self", "pages", "most", "words"] ["self", "pages", "most", "words"] (defScope sPInit) := ⟨rfl, rfl, rfl, by decide +kernel, rfl, by decide +kernel, by decide +kernel⟩
theorem ok_plinit {f f1 f2 : Addr} {fd fd1 fd2 : FuncData} (F : Fun K "__init__" "Plain.__init__" sPInit f fd) (MK : Mk K C f1) (mM : mg "Memory" = some (.ref C)) (BI : Binds K fd1 ["self", "pages"] []) (GI : FnOk P w K mg base (CXr P w) 6 f1 fd1 ["self", "pages"] (spInit C)) (CM : CMeth K WC "__init__" f2) (mW : mg "Ways" = some (.ref WC)) (BW : Binds K fd2 ["self", "most"] []) (GW : FnOk P w K mg base CX0 4 f2 fd2 ["self", "most"] (spWInit SC PL)) (PC : Plc K PL) (T : Txt K mg) : FnOk P w K mg base CX0 8 f fd ["self", "pages", "most", "words"] (spPInit C SC PL) := by
  refine F.ok scPl2 (fun vs H Q E h' => ?_) (fun cdv A outer s H vs Q E hr h' => ?_)
  · obtain ⟨a, dx, p, l, ps, n, bs, rfl, _⟩ := h'
    rfl
  · obtain ⟨a, dx, p, l, ps, n, bs, rfl, ha, gp, hg, l1, l2, n1, n2, hl, q0⟩ := h'
    have hr4 : Room 4 _ := hr.mono (by decide)
    refine ⟨_, (pss_cons (ps_fld (pv 0) (pe_make MK GI hr (by rfl) mM BI .nil passX0 (pa_cons (pv 1) pa_nil)) rfl) (pss_cons (ps_expr (pe_cmeth GW hr4 (by rfl) mW CM BW .nil pass0 (pa_cons (pv 0) (pa_cons (pv 2) pa_nil)))) (pss_one (ps_fld (pv 0) (pe_callTy call_list_of (by rfl) T.lst PyProof.Rows.boot_list (pa_cons (pv 3) pa_nil)) rfl)))), ?_⟩
    refine ⟨_, rfl, fun m dm hm0 hdm nem => ?_⟩
    have s0 : Same H (upd (upd H dm (.own m)) m (.ins C dm [])) := (same_new hdm).trans (same_new (by rw [upd_ne nem.symm]; exact hm0))
    refine ⟨m, dm, p, ps, rfl, upd_same, gp.same s0, hg, l1, l2, fun h H2 qs b2 M2 hc hf => ⟨rfl, ?_⟩⟩
    have k2 : ∀ b o, H b = some o → H2 b = some o := fun b o e => b2 b o (ne_of_none e hm0) (s0 _ _ e)
    have f2 : ∀ b, H2 b = none → H b = none := fun b e => by
      cases hb : H b with
      | none => rfl
      | some o => rw [k2 b o hb] at e; cases e
    have am : m ≠ a := (ne_of_none ha hm0).symm
    have ah : ¬ At h qs a := fun z => by have := s0.free (hf a z); rw [ha] at this; cases this
    refine ⟨_, rfl, a, PL, dx, _, rfl, k2 _ _ ha, PC.cl, PC.nm, (by show 0 < 1000; decide), ?_⟩
    have za : upd H2 a (.ins PL dx (putF "memory" (.ref m) [])) a = some (.ins PL dx (putF "memory" (.ref m) [])) := upd_same
    have ka : ∀ b o, H2 b = some o → b ≠ a → upd H2 a (.ins PL dx (putF "memory" (.ref m) [])) b = some o := fun b o e z => by rw [upd_ne z]; exact e
    have fa : ∀ b, upd H2 a (.ins PL dx (putF "memory" (.ref m) [])) b = none → b ≠ a ∧ H2 b = none := fun b e => by
      have z : b ≠ a := fun z => by rw [z, upd_same] at e; cases e
      rw [upd_ne z] at e
      exact ⟨z, e⟩
    generalize upd H2 a (.ins PL dx (putF "memory" (.ref m) [])) = H3 at *
    have f1l : (putF "memory" (.ref m) ([] : List (Str × V))).length ≤ 1 := length_putF _ _ _
    refine ⟨_, rfl, _, rfl, a, dx, _, n, rfl, za, (by omega), n1, n2, fun r q H4 b4 fr fq ha4 sh4 => ?_⟩
    obtain ⟨ra, fr2⟩ := fa r fr
    obtain ⟨qa, fq2⟩ := fa q fq
    have k4 : ∀ b o, H2 b = some o → b ≠ a → H4 b = some o := fun b o e z => b4 b o z (ka b o e z)
    have la : l ≠ a := ne_of hl ha nofun
    refine ⟨_, rfl, l, _, rfl, .inl (SqL.of (k4 l _ (k2 _ _ hl) la)), fun aw haw => ?_⟩
    have s5 := same_new (o := .lst (bs.map V.bl)) haw
    have z5 : upd H4 aw (.lst (bs.map V.bl)) aw = some (.lst (bs.map V.bl)) := upd_same
    generalize upd H4 aw (.lst (bs.map V.bl)) = H5 at *
    have aaw : aw ≠ a := (ne_of_none ha4 haw).symm
    have faw : H aw = none := by
      cases hb : H aw with
      | none => rfl
      | some o => rw [k4 aw o (k2 _ _ hb) aaw] at haw; cases haw
    have f2l := length_putF "base" (.int 0) (putF "memory" (.ref m) ([] : List (Str × V)))
    have f3l := length_putF "rack" (.ref r) (putF "base" (.int 0) (putF "memory" (.ref m) ([] : List (Str × V))))
    refine ⟨_, rfl, a, PL, dx, _, rfl, s5 _ _ ha4, PC.cl, PC.na, (by omega), ?_⟩
    have kM : ∀ b o, H2 b = some o → b ≠ a → upd H5 a (.ins PL dx (putF "answers" (.ref aw) (putF "rack" (.ref r) (putF "base" (.int 0) (putF "memory" (.ref m) []))))) b = some o := fun b o e z => by rw [upd_ne z]; exact s5 _ _ (k4 b o e z)
    obtain ⟨dm2, em2⟩ := M2.ob
    refine q0 m h r q aw _ qs (fun b o z e => kM b o (k2 _ _ e) z) ⟨⟨dx, _, upd_same, ⟨?_, ?_, ?_, ?_, fun g z1 z2 z3 z4 => ?_⟩⟩, ⟨⟨dm2, kM m _ em2 am⟩, M2.pg.keep fun b hb => ?_, M2.good, M2.len⟩, (sh4.same s5).but But.upd ra qa (fun xs z => by rw [s5 _ _ ha4] at z; cases z), by rw [upd_ne aaw]; exact z5, fun z => ?_⟩ hc fun b hb => ?_
    · rw [lookup_putF, if_neg (by decide +kernel), lookup_putF, if_neg (by decide +kernel), lookup_putF, if_neg (by decide +kernel), lookup_putF, if_pos rfl]
    · rw [lookup_putF, if_neg (by decide +kernel), lookup_putF, if_neg (by decide +kernel), lookup_putF, if_pos rfl]
    · rw [lookup_putF, if_neg (by decide +kernel), lookup_putF, if_pos rfl]
    · rw [lookup_putF, if_pos rfl]
    · rw [lookup_putF, if_neg z4, lookup_putF, if_neg z3, lookup_putF, if_neg z2, lookup_putF, if_neg z1]
      rfl
    · obtain ⟨u, y⟩ := M2.pg.at hb
      rw [y]
      exact kM b u y fun z => ah (z ▸ hb)
    · obtain ⟨u, y⟩ := M2.pg.at z
      rw [k4 aw u y aaw] at haw
      cases haw
    · rcases hb with rfl | rfl | rfl | rfl | hb
      · exact hm0
      · exact f2 _ fr2
      · exact f2 _ fq2
      · exact faw
      · exact s0.free (hf b hb)
end
end K23

end
section
set_option Elab.async false
set_option linter.all false
set_option maxRecDepth 100000
set_option maxHeartbeats 4000000
namespace K23
open PySem L2
def NotEight (H : Hp) (x : V) : Prop := (Th H x ∧ isLst H x = false) ∨ (∃ a xs, x = .ref a ∧ H a = some (.lst xs) ∧ xs.length ≠ 8) ∨ (∃ a xs, x = .ref a ∧ H a = some (.lst xs) ∧ xs.length = 8 ∧ (∀ v ∈ xs, Th H v) ∧ ∃ v ∈ xs, below v 281474976710656 = false)
theorem isLst_same {H H' : Hp} {x : V} (t : Th H x) (s : Same H H') : isLst H' x = isLst H x := by
  cases t with
  | lst e => unfold isLst; dsimp only; rw [e, s _ _ e]
  | frz e => unfold isLst; dsimp only; rw [e, s _ _ e]
  | tup e => unfold isLst; dsimp only; rw [e, s _ _ e]
  | dic e => unfold isLst; dsimp only; rw [e, s _ _ e]
  | _ => rfl
theorem NotEight.same {H H' : Hp} {x : V} (h : NotEight H x) (s : Same H H') : NotEight H' x := by
  rcases h with ⟨t, e⟩ | ⟨a, xs, rfl, e, hl⟩ | ⟨a, xs, rfl, e, hl, ht, hv⟩
  · exact .inl ⟨t.same s, by rw [isLst_same t s]; exact e⟩
  · exact .inr (.inl ⟨a, xs, rfl, s _ _ e, hl⟩)
  · exact .inr (.inr ⟨a, xs, rfl, s _ _ e, hl, fun v m => (ht v m).same s, hv⟩)
def PgOk (H : Hp) (v : V) : Prop := v = .non ∨ ∃ (p : Addr) (ws : List Int), v = .ref p ∧ H p = some (.lst (ws.map V.int)) ∧ ws.length = 8 ∧ ∀ w ∈ ws, 0 ≤ w ∧ w < 281474976710656
theorem PgOk.same {H H' : Hp} {v : V} (h : PgOk H v) (s : Same H H') : PgOk H' v := by
  rcases h with h | ⟨p, ws, h1, h2, h3⟩
  · exact .inl h
  · exact .inr ⟨p, ws, h1, s _ _ h2, h3⟩
def BadI (H : Hp) (x : V) : Prop := (Th H x ∧ isLst H x = false) ∨ (∃ a xs, x = .ref a ∧ H a = some (.lst xs) ∧ (xs.length = 0 ∨ 24 < xs.length) ∧ xs.length ≤ 1000) ∨
  ∃ a xs, x = .ref a ∧ H a = some (.lst xs) ∧ 1 ≤ xs.length ∧ xs.length ≤ 24 ∧ (∀ v ∈ xs, PgOk H v ∨ (v ≠ .non ∧ NotEight H v)) ∧ ∃ v ∈ xs, v ≠ .non ∧ NotEight H v
theorem BadI.same {H H' : Hp} {x : V} (h : BadI H x) (s : Same H H') : BadI H' x := by
  rcases h with ⟨t, e⟩ | ⟨a, xs, h1, h2, h3⟩ | ⟨a, xs, h1, h2, h3, h4, h5, v, hv, h6⟩
  · exact .inl ⟨t.same s, by rw [isLst_same t s]; exact e⟩
  · exact .inr (.inl ⟨a, xs, h1, s _ _ h2, h3⟩)
  · exact .inr (.inr ⟨a, xs, h1, s _ _ h2, h3, h4, fun u hu => (h5 u hu).elim (fun z => .inl (z.same s)) (fun z => .inr ⟨z.1, z.2.same s⟩), v, hv, h6.1, h6.2.same s⟩)
theorem FnOk.or {P : Program} {w : World} {K : PySem.W.Frag} {mg : Str → Option Value} {base : Heap} {CX : CXT} {k : Nat} {f : Addr} {fd : FuncData} {ps : List Str} {sp sq : Sp} (a : FnOk P w K mg base CX k f fd ps sp) (b : FnOk P w K mg base CX k f fd ps sq) : FnOk P w K mg base CX k f fd ps (fun vs H Q E => sp vs H Q E ∨ sq vs H Q E) :=
  ⟨fun vs H Q E h => h.elim (a.len vs H Q E) (b.len vs H Q E), fun A o s H as us vs Q E hr e0 hb r h => h.elim (a.run A o s H as us vs Q E hr e0 hb r) (b.run A o s H as us vs Q E hr e0 hb r)⟩
def goodM : V → Bool
  | .int i => decide (1 ≤ i) && decide (i ≤ 12)
  | _ => false
structure ShN (K : PySem.W.Frag) (mg : Str → Option Value) (NS : Addr) : Prop where
  xs : excIn K NS = true
  ns : mg "NoShelf" = some (.ref NS)
theorem _root_.L2.Th.but {H H' : Hp} {x : V} {a C dx : Addr} {fs : List (Str × V)} (t : Th H x) (s : But a H H') (ha : H a = some (.ins C dx fs)) : Th H' x := by
  cases t with
  | non => exact .non
  | bl b => exact .bl b
  | int i => exact .int i
  | str z => exact .str z
  | lst e => exact .lst (s _ _ (ne_of e ha nofun) e)
  | frz e => exact .frz (s _ _ (ne_of e ha nofun) e)
  | tup e => exact .tup (s _ _ (ne_of e ha nofun) e)
  | dic e => exact .dic (s _ _ (ne_of e ha nofun) e)
def spEightN : Sp := fun vs H Q _ => ∃ x, vs = [x] ∧ NotEight H x ∧ ∀ H', Same H H' → Q (.bl false) H'
def spEightB : Sp := fun vs H Q E => spEight vs H Q E ∨ spEightN vs H Q E
def spImageN (NI : Addr) : Sp := fun vs H _ E => ∃ x, vs = [x] ∧ BadI H x ∧ ∀ H', Same H H' → E (.ref NI) none H'
def spSInitN (SC NS : Addr) : Sp := fun vs H _ E => ∃ (m dx : Addr) (x : V), vs = [.ref m, x] ∧ H m = some (.ins SC dx []) ∧ Th H x ∧ goodM x = false ∧ E (.ref NS) none H
def spWInitN (PL NS : Addr) : Sp := fun vs H _ E => ∃ (a dx : Addr) (fs : List (Str × V)) (x : V), vs = [.ref a, x] ∧ H a = some (.ins PL dx fs) ∧ fs.length < 900 ∧ Th H x ∧ goodM x = false ∧ ∀ H', But a H H' → E (.ref NS) none H'
def spMInitN (C NI : Addr) : Sp := fun vs H _ E => ∃ (m dx : Addr) (x : V), vs = [.ref m, x] ∧ H m = some (.ins C dx []) ∧ BadI H x ∧ ∀ H', Same H H' → E (.ref NI) none H'
def spPInitI (PL NI : Addr) : Sp := fun vs H _ E => ∃ (a dx : Addr) (x y z : V), vs = [.ref a, x, y, z] ∧ H a = some (.ins PL dx []) ∧ BadI H x ∧ ∀ H', Same H H' → E (.ref NI) none H'
def spPInitS (PL NS : Addr) : Sp := fun vs H _ E => ∃ (a dx p : Addr) (ps : Pgs) (x z : V), vs = [.ref a, .ref p, x, z] ∧ H a = some (.ins PL dx []) ∧ Pg H p ps ∧ Good ps ∧ 1 ≤ ps.length ∧ ps.length ≤ 24 ∧ Th H x ∧ goodM x = false ∧ ∀ H', But a H H' → E (.ref NS) none H'
def spPInitN (PL NI NS : Addr) : Sp := fun vs H Q E => spPInitI PL NI vs H Q E ∨ spPInitS PL NS vs H Q E
section
variable {P : Program} {w : World} {K : PySem.W.Frag} {mg : Str → Option Value} {base : Heap} {C NP NL NW NI NS SC PL WC FA HE : Addr}
theorem ok_eightN {f f1 : Addr} {fd fd1 : FuncData} (F : Fun K "is_eight_words" "is_eight_words" sEight f fd) (B : Dn K mg "is_word" sWord ["thing"] f1 fd1) (G : FnOk P w K mg base CX0 3 f1 fd1 ["thing"] spWord) (S : Sto K mg C NP NL NW NI) (T : Txt K mg) : FnOk P w K mg base CX0 4 f fd ["thing"] spEightN := by
  refine F.ok scEi (fun vs H Q E h => ?_) (fun cdv A outer s H vs Q E hr h => ?_)
  · obtain ⟨x, rfl, _⟩ := h
    rfl
  · obtain ⟨x, rfl, hx, q⟩ := h
    obtain ⟨t2, m2⟩ := S.cells
    refine ⟨_, (pss_one (ps_ret (pe_and (pe_callB call_islist (by rfl) T.isi PyProof.Rows.boot_isinstance (pa_cons (pv 0) (pa_cons (pe_bltn (by rfl) T.lst PyProof.Rows.boot_list (show RelV (.ty "list") (.type "list") from rfl)) pa_nil))) (pe_and (pe_cmpR op_eq (pe_callB call_len_seq (by rfl) T.len PySem.boot_len (pa_cons (pv 0) pa_nil)) (pe_glob (by rfl) m2 (show RelV (.int 8) (.int 8 t2) from ⟨_, rfl⟩)) (nomark _)) (pe_one (pe_callB (call_allB rfl) (by rfl) T.all PyProof.Rows.boot_all (pa_cons (pe_comp (cl := []) (tc := tYes) (te := tCall spWord [] E0 (tCons (tVar 0) tNil)) rfl (pi_list (pv 0)) (closureFor_none (by decide +kernel)) (by repeat' (first | exact trivial | refine ⟨.inl ⟨.inr rfl, rfl⟩, ?_⟩ | refine ⟨.inl ⟨.inl rfl, rfl⟩, ?_⟩ | refine ⟨.inr (.inl ⟨by decide, by decide, by decide⟩), ?_⟩ | refine ⟨.inr (.inr ⟨rfl, by decide +kernel, by decide +kernel, rfl, rfl⟩), ?_⟩)) trivial (fun C s₂ H₂ fp => .nil) (fun C s₂ H₂ fp => (pe_call G hr (by rfl) B.m B.F.kp B.b .nil pass0 (pa_cons (pv 0) pa_nil))) ndEi (hdot := dotEi)) pa_nil))))))), ?_⟩
    rcases hx with ⟨t, e⟩ | ⟨p, xs, rfl, hp, hl⟩ | ⟨p, xs, rfl, hp, hl, ht, hv⟩
    · refine ⟨_, rfl, _, rfl, t, _, rfl, iteFS e (q H (Same.refl _))⟩
    · refine ⟨_, rfl, _, rfl, .lst hp, _, rfl, iteTS (isLst_of hp) ?_⟩
      refine ⟨_, rfl, p, _, rfl, .inl (SqL.of hp), rfl, _, rfl, iteFS (decide_eq_false fun z => hl (by have := V.int.inj z; omega)) (q H (Same.refl _))⟩
    · refine ⟨_, rfl, _, rfl, .lst hp, _, rfl, iteTS (isLst_of hp) ?_⟩
      refine ⟨_, rfl, p, _, rfl, .inl (SqL.of hp), rfl, _, rfl, iteTS (by show decide (V.int (xs.length : Int) = V.int 8) = true; rw [hl]; rfl) ?_⟩
      refine ⟨_, rfl, p, rfl, ⟨_, SqL.of hp⟩, comp_list (xs := xs) (fun D i ys H' => H D = none ∧ Same H H' ∧ ys = ((xs.take i).map fun v => below v 281474976710656).map V.bl ∧ H' D = some (.lst ys)) ?_ ?_ ?_ ?_⟩
      · exact fun D hD => ⟨hD, same_new hD, rfl, upd_same⟩
      · rintro D i ys H' _ ⟨hD, ss, rfl, hy⟩
        exact ⟨SqL.of (ss _ _ hp), hy⟩
      · rintro D i x ys H' hi ⟨hD, ss, rfl, hy⟩
        have hil : i < 8 := by rw [← hl]; exact (List.getElem?_eq_some_iff.mp hi).1
        refine iteT ⟨_, rfl, _, rfl, (ht x (List.mem_of_getElem? hi)).same ss, ?_⟩
        refine ⟨hy, ?_, hD, Same.set ss hD, ?_, upd_same⟩
        · rw [List.length_map, List.length_map, List.length_take]
          exact Nat.lt_of_lt_of_le (by omega : min i xs.length < 1001) (by decide)
        · rw [List.take_add_one, hi, List.map_append, List.map_append]
          rfl
      · rintro D ys H' ⟨hD, ss, rfl, hy⟩
        refine ⟨D, _, rfl, hy, ?_⟩
        rw [List.take_length] at *
        rw [show ((xs.map fun v => below v 281474976710656).all id) = false by
          obtain ⟨v, hm, hb⟩ := hv
          rw [List.all_eq_false]
          exact ⟨_, List.mem_map.mpr ⟨v, hm, rfl⟩, by rw [hb]; decide⟩]
        exact q H' ss
theorem ok_imageN {f f1 : Addr} {fd fd1 : FuncData} (F : Fun K "check_image" "check_image" sImage f fd) (B : Dn K mg "is_eight_words" sEight ["thing"] f1 fd1) (G : FnOk P w K mg base CX0 4 f1 fd1 ["thing"] spEightB) (S : Sto K mg C NP NL NW NI) (T : Txt K mg) : FnOk P w K mg base (CXr P w) 5 f fd ["pages"] (spImageN NI) := by
  refine F.okR scIm (fun vs H Q E h => ?_) (fun cdv A outer s H vs Q E hr h => ?_)
  · obtain ⟨x, rfl, _⟩ := h
    rfl
  · obtain ⟨x, rfl, bad, q⟩ := h
    obtain ⟨t3, m3⟩ := S.most
    refine ⟨_, (pss_cons (ps_if (PW.pt (pw_or (pt_not (pt_val (pe_callB call_islist (by rfl) T.isi PyProof.Rows.boot_isinstance (pa_cons (pv 0) (pa_cons (pe_bltn (by rfl) T.lst PyProof.Rows.boot_list (show RelV (.ty "list") (.type "list") from rfl)) pa_nil))))) (pw_or1 (pt_not (pt_chain op_le op_le pe_int (pe_callB call_len_seq (by rfl) T.len PySem.boot_len (pa_cons (pv 0) pa_nil)) (pe_glob (by rfl) m3 (show RelV (.int 24) (.int 24 t3) from ⟨_, rfl⟩))))))) (pss_one (ps_raise S.xi S.ni raisesR rfl (pa_cons pe_str pa_nil))) pss_nil) (pss_one (ps_for passesOwnR rfl (pi_list (pv 0)) (pg_name (i := 1) scIm.nd rfl (Or.inl rfl)) (pss_one (ps_if (PW.pt (pw_and (pt_cmpR op_notN (pv 1) pe_non (nomark _)) (pw_and1 (pt_not (pt_val (pe_call G hr (by rfl) B.m B.F.kp B.b .nil pass0 (pa_cons (pv 1) pa_nil))))))) (pss_one (ps_raise S.xi S.ni raisesR rfl (pa_cons pe_str pa_nil))) pss_nil))))), ?_⟩
    rcases bad with ⟨th, hl⟩ | ⟨a, xs, rfl, ha, hl, hz⟩ | ⟨a, xs, rfl, ha, l1, l2, hall, v, hv, hb⟩
    · exact ⟨_, rfl, x, rfl, th, _, rfl, iteTS (by show (!isLst H x) = true; rw [hl]; rfl) ⟨by decide, q H (Same.refl _)⟩⟩
    · refine ⟨_, rfl, _, rfl, .lst ha, _, rfl, iteFS (by show (!isLst H (.ref a)) = false; rw [isLst_of ha]; rfl) ?_⟩
      refine ⟨_, rfl, a, _, rfl, .inl (SqL.of ha), 1, _, rfl, rfl, _, rfl, ?_⟩
      rcases hl with hl | hl
      · refine iteFS (by show decide ((1 : Int) ≤ (xs.length : Int)) = false; exact decide_eq_false (by omega)) ?_
        exact ⟨_, rfl, iteT ⟨by decide, q H (Same.refl _)⟩⟩
      · refine iteTS (by show decide ((1 : Int) ≤ (xs.length : Int)) = true; exact decide_eq_true (by omega)) ?_
        refine ⟨_, 24, rfl, rfl, _, rfl, iteTS (by show (!decide ((xs.length : Int) ≤ 24)) = true; rw [decide_eq_false (by omega)]; rfl) ?_⟩
        exact ⟨by decide, q H (Same.refl _)⟩
    · refine ⟨_, rfl, _, rfl, .lst ha, _, rfl, iteFS (by show (!isLst H (.ref a)) = false; rw [isLst_of ha]; rfl) ?_⟩
      refine ⟨_, rfl, a, _, rfl, .inl (SqL.of ha), 1, _, rfl, rfl, _, rfl, iteTS (by show decide ((1 : Int) ≤ (xs.length : Int)) = true; exact decide_eq_true (by omega)) ?_⟩
      refine ⟨_, 24, rfl, rfl, _, rfl, iteFS (by show (!decide ((xs.length : Int) ≤ 24)) = false; rw [decide_eq_true (by omega)]; rfl) ?_⟩
      refine ⟨_, rfl, a, rfl, ⟨_, SqL.of ha⟩, for_list (K := K) (a := a) (xs := xs) (fun i σ H' => (∃ v, σ = [some (.ref a), v]) ∧ Same H H' ∧ ∀ j v, j < i → xs[j]? = some v → PgOk H v) ⟨⟨_, rfl⟩, Same.refl _, fun j v hj => by omega⟩ (fun i σ H' _ ⟨_, ss, _⟩ => SqL.of (ss _ _ ha)) ?_ ?_⟩
      · rintro i u σ H' hi ⟨⟨v', rfl⟩, ss, hp⟩
        have nxt : ∀ {H2 : Hp}, Same H' H2 → PgOk H u → (∃ v, [some (V.ref a), some u] = [some (V.ref a), v]) ∧ Same H H2 ∧ ∀ j v, j < i + 1 → xs[j]? = some v → PgOk H v := fun s2 hu => ⟨⟨_, rfl⟩, ss.trans s2, fun j w hj hw => by
          by_cases z : j < i
          · exact hp j w z hw
          · have : j = i := by omega
            subst this
            rw [hi] at hw
            cases hw
            exact hu⟩
        rcases hall u (List.mem_of_getElem? hi) with hu | ⟨hne, hu⟩
        · rcases id hu with rfl | ⟨p, ws, rfl, hp1, hp2, hp3⟩
          · exact ⟨_, rfl, rfl, _, rfl, iteF (nxt (Same.refl _) hu)⟩
          · exact ⟨_, rfl, rfl, _, rfl, iteT ⟨_, rfl, .inl ⟨p, ws, rfl, ss _ _ hp1, hp2, hp3, fun H2 s2 => ⟨_, rfl, iteF (nxt s2 hu)⟩⟩⟩⟩
        · refine ⟨_, rfl, rfl, _, rfl, iteTS (by rw [decide_eq_false hne]; rfl) ?_⟩
          exact ⟨_, rfl, .inr ⟨u, rfl, hu.same ss, fun H2 s2 => ⟨_, rfl, iteT ⟨by decide, q H2 (ss.trans s2)⟩⟩⟩⟩
      · rintro σ H' ⟨_, ss, hp⟩
        exfalso
        obtain ⟨j, hj⟩ := List.getElem?_of_mem hv
        have hjl := (List.getElem?_eq_some_iff.mp hj).1
        rcases hp j v hjl hj with z | ⟨p, ws, rfl, h1, h2, h3⟩
        · exact hb.1 z
        · rcases hb.2 with ⟨_, z⟩ | ⟨a', ys, z1, z2, z3⟩ | ⟨a', ys, z1, z2, z3, z4, y, hy, z5⟩
          · rw [isLst_of h1] at z
            cases z
          · cases z1
            rw [h1] at z2
            cases z2
            rw [List.length_map] at z3
            exact z3 h2
          · cases z1
            rw [h1] at z2
            cases z2
            obtain ⟨w', hw', rfl⟩ := List.mem_map.mp hy
            obtain ⟨w0, w1⟩ := h3 w' hw'
            rw [below_of w0 w1] at z5
            cases z5
theorem scSn : FnScope ["self", "most"] ["self", "most"] (defScope sSInit) := ⟨rfl, rfl, rfl, by decide +kernel, rfl, by decide +kernel, by decide +kernel⟩
theorem ok_sinitN {f f1 : Addr} {fd fd1 : FuncData} (F : Fun K "__init__" "Shelf.__init__" sSInit f fd) (D1 : Dn K mg "is_whole" sWhole ["thing"] f1 fd1) (G1 : FnOk P w K mg base CX0 1 f1 fd1 ["thing"] spWhole) (SS : Shf K mg SC) (N : ShN K mg NS) : FnOk P w K mg base (CXr P w) 2 f fd ["self", "most"] (spSInitN SC NS) := by
  obtain ⟨t1, m1⟩ := SS.seats
  refine F.okR scSn (fun vs H Q E h => ?_) (fun cdv A outer s H vs Q E hr h => ?_)
  · obtain ⟨m, dx, x, rfl, _⟩ := h
    rfl
  · obtain ⟨m, dx, x, rfl, hm, th, bad, e⟩ := h
    refine ⟨_, pss_cons (ps_if (PW.pt (pw_or (pt_not (pt_val (pe_call G1 hr (by rfl) D1.m D1.F.kp D1.b .nil pass0 (pa_cons (pv 1) pa_nil)))) (pw_or1 (pt_not (pt_chain op_le op_le pe_int (pv 1) (pe_glob (by rfl) m1 (show RelV (.int 12) (.int 12 t1) from ⟨_, rfl⟩))))))) (pss_one (ps_raise N.xs N.ns raisesR rfl (pa_cons pe_str pa_nil))) pss_nil) pss_never, ?_⟩
    refine ⟨_, rfl, x, rfl, th, _, rfl, ?_⟩
    cases x with
    | int i =>
      refine iteF ⟨_, rfl, 1, i, rfl, rfl, _, rfl, ?_⟩
      by_cases h1 : 1 ≤ i
      · rw [decide_eq_true h1]
        refine iteT ⟨i, 12, rfl, rfl, _, rfl, ?_⟩
        have h2 : ¬ i ≤ 12 := fun h2 => by
          have bad : (decide (1 ≤ i) && decide (i ≤ 12)) = false := bad
          rw [decide_eq_true h1, decide_eq_true h2] at bad
          cases bad
        rw [decide_eq_false h2]
        exact iteT ⟨by decide, e⟩
      · rw [decide_eq_false h1]
        exact iteF ⟨_, rfl, iteT ⟨by decide, e⟩⟩
    | _ => exact iteT ⟨by decide, e⟩
theorem ok_minitN {f f1 : Addr} {fd fd1 : FuncData} (F : Fun K "__init__" "Memory.__init__" sInit f fd) (B : Dn K mg "check_image" sImage ["pages"] f1 fd1) (G : FnOk P w K mg base (CXr P w) 5 f1 fd1 ["pages"] (spImageN NI)) : FnOk P w K mg base (CXr P w) 6 f fd ["self", "pages"] (spMInitN C NI) := by
  refine F.okR scIn (fun vs H Q E h => ?_) (fun cdv A outer s H vs Q E hr h => ?_)
  · obtain ⟨m, dx, x, rfl, _⟩ := h
    rfl
  · obtain ⟨m, dx, x, rfl, hm, bad, q⟩ := h
    refine ⟨_, pss_cons (ps_expr (pe_call G hr (by rfl) B.m B.F.kp B.b .nil passR (pa_cons (pv 1) pa_nil))) pss_never, ?_⟩
    exact ⟨_, rfl, x, rfl, bad, fun H1 s1 => q H1 s1⟩
theorem scWn : FnScope ["self", "most"] ["self", "most"] (defScope sWInit) := ⟨rfl, rfl, rfl, by decide +kernel, rfl, by decide +kernel, by decide +kernel⟩
theorem scPn : FnScope ["self", "pages", "most", "words"] ["self", "pages", "most", "words"] (defScope sPInit) := ⟨rfl, rfl, rfl, by decide +kernel, rfl, by decide +kernel, by decide +kernel⟩
theorem ok_winitN {f f1 : Addr} {fd fd1 : FuncData} (F : Fun K "__init__" "Ways.__init__" sWInit f fd) (MK : Mk K SC f1) (mS : mg "Shelf" = some (.ref SC)) (BI : Binds K fd1 ["self", "most"] []) (GI : FnOk P w K mg base (CXr P w) 2 f1 fd1 ["self", "most"] (spSInitN SC NS)) (PC : Plc K PL) : FnOk P w K mg base (CXr P w) 4 f fd ["self", "most"] (spWInitN PL NS) := by
  refine F.okR scWn (fun vs H Q E h => ?_) (fun cdv A outer s H vs Q E hr h => ?_)
  · obtain ⟨a, dx, fs, x, rfl, _⟩ := h
    rfl
  · obtain ⟨a, dx, fs, x, rfl, ha, hl, th, bad, q⟩ := h
    refine ⟨_, pss_cons (ps_fld (pv 0) pe_int rfl) (pss_cons (ps_fld (pv 0) (pe_make MK GI hr (by rfl) mS BI .nil passR (pa_cons (pv 1) pa_nil)) rfl) pss_never), ?_⟩
    refine ⟨_, rfl, a, PL, dx, fs, rfl, ha, PC.cl, PC.nb, (by omega), ?_⟩
    have th1 : Th (upd H a (.ins PL dx (putF "base" (.int 0) fs))) x := th.but But.upd ha
    have k1 : But a H (upd H a (.ins PL dx (putF "base" (.int 0) fs))) := But.upd
    have f1 : ∀ b, upd H a (.ins PL dx (putF "base" (.int 0) fs)) b = none → H b = none := fun b e => by
      by_cases z : b = a
      · rw [z, upd_same] at e; cases e
      · rw [upd_ne z] at e; exact e
    generalize upd H a (.ins PL dx (putF "base" (.int 0) fs)) = H1 at *
    refine ⟨_, rfl, fun r dr hr0 hdr ner => ?_⟩
    have s0 : Same H1 (upd (upd H1 dr (.own r)) r (.ins SC dr [])) := (same_new hdr).trans (same_new (by rw [upd_ne ner.symm]; exact hr0))
    exact ⟨r, dr, x, rfl, upd_same, th1.same s0, bad, q _ fun b o z e => s0 _ _ (k1 b o z e)⟩
theorem ok_plinitI {f f1 : Addr} {fd fd1 : FuncData} (F : Fun K "__init__" "Plain.__init__" sPInit f fd) (MK : Mk K C f1) (mM : mg "Memory" = some (.ref C)) (BI : Binds K fd1 ["self", "pages"] []) (GI : FnOk P w K mg base (CXr P w) 6 f1 fd1 ["self", "pages"] (spMInitN C NI)) : FnOk P w K mg base (CXr P w) 8 f fd ["self", "pages", "most", "words"] (spPInitI PL NI) := by
  refine F.okR scPn (fun vs H Q E h => ?_) (fun cdv A outer s H vs Q E hr h => ?_)
  · obtain ⟨a, dx, x, y, z, rfl, _⟩ := h
    rfl
  · obtain ⟨a, dx, x, y, z, rfl, ha, bad, q⟩ := h
    refine ⟨_, pss_cons (ps_fld (pv 0) (pe_make MK GI hr (by rfl) mM BI .nil passR (pa_cons (pv 1) pa_nil)) rfl) pss_never, ?_⟩
    refine ⟨_, rfl, fun m dm hm0 hdm nem => ?_⟩
    have s0 : Same H (upd (upd H dm (.own m)) m (.ins C dm [])) := (same_new hdm).trans (same_new (by rw [upd_ne nem.symm]; exact hm0))
    exact ⟨m, dm, x, rfl, upd_same, bad.same s0, fun H1 s1 => q H1 (s0.trans s1)⟩
theorem ok_plinitS {f f1 f2 : Addr} {fd fd1 fd2 : FuncData} (F : Fun K "__init__" "Plain.__init__" sPInit f fd) (MK : Mk K C f1) (mM : mg "Memory" = some (.ref C)) (BI : Binds K fd1 ["self", "pages"] []) (GI : FnOk P w K mg base (CXr P w) 6 f1 fd1 ["self", "pages"] (spInit C)) (CM : CMeth K WC "__init__" f2) (mW : mg "Ways" = some (.ref WC)) (BW : Binds K fd2 ["self", "most"] []) (GW : FnOk P w K mg base (CXr P w) 4 f2 fd2 ["self", "most"] (spWInitN PL NS)) (PC : Plc K PL) : FnOk P w K mg base (CXr P w) 8 f fd ["self", "pages", "most", "words"] (spPInitS PL NS) := by
  refine F.okR scPn (fun vs H Q E h => ?_) (fun cdv A outer s H vs Q E hr h => ?_)
  · obtain ⟨a, dx, p, ps, x, z, rfl, _⟩ := h
    rfl
  · obtain ⟨a, dx, p, ps, x, z, rfl, ha, gp, hg, l1, l2, th, bad, q0⟩ := h
    have hr4 : Room 4 _ := hr.mono (by decide)
    refine ⟨_, pss_cons (ps_fld (pv 0) (pe_make MK GI hr (by rfl) mM BI .nil passX0 (pa_cons (pv 1) pa_nil)) rfl) (pss_cons (ps_expr (pe_cmeth GW hr4 (by rfl) mW CM BW .nil passR (pa_cons (pv 0) (pa_cons (pv 2) pa_nil)))) pss_never), ?_⟩
    refine ⟨_, rfl, fun m dm hm0 hdm nem => ?_⟩
    have s0 : Same H (upd (upd H dm (.own m)) m (.ins C dm [])) := (same_new hdm).trans (same_new (by rw [upd_ne nem.symm]; exact hm0))
    refine ⟨m, dm, p, ps, rfl, upd_same, gp.same s0, hg, l1, l2, fun h H2 qs b2 M2 hc hf => ⟨rfl, ?_⟩⟩
    have k2 : Same H H2 := fun b o e => b2 b o (ne_of_none e hm0) (s0 _ _ e)
    refine ⟨_, rfl, a, PL, dx, _, rfl, k2 _ _ ha, PC.cl, PC.nm, (by show 0 < 1000; decide), ?_⟩
    have f1l : (putF "memory" (.ref m) ([] : List (Str × V))).length ≤ 1 := length_putF _ _ _
    refine ⟨_, rfl, _, rfl, a, dx, _, x, rfl, upd_same, (by omega), (th.same k2).but But.upd (k2 _ _ ha), bad, fun H4 b4 => q0 H4 fun b o z e => b4 b o z ?_⟩
    rw [upd_ne z]
    exact k2 _ _ e
end
end K23

end
section
set_option Elab.async false
set_option linter.all false
set_option maxRecDepth 100000
set_option maxHeartbeats 4000000
namespace K23
open PySem L2
abbrev sCell : Stmt := top 29
abbrev sLWhole : Stmt := top 30
abbrev sRow : Stmt := top 31
abbrev sPgs : Stmt := top 32
abbrev sCopy : Stmt := top 33
abbrev sIsI : Stmt := top 34
def spCell (K : PySem.W.Frag) : Sp := fun vs H Q _ => ∃ (a : Addr) (ns : List Int) (k : Nat), vs = [.ref a, .int k] ∧ SqL K H a (ns.map V.int) ∧ Q (.int (ns.getD k 0)) H
def spRow : Sp := fun vs H Q _ => ∃ (x : Int) (n : Nat), vs = [.int x, .int n] ∧ 0 ≤ x ∧ x < 2147483648 ∧ n ≤ 24 ∧ ∀ (r : Int) (H' : Hp), Same H H' → 0 ≤ r → r < 281474976710656 → Q (.int r) H'
def spCopy : Sp := fun vs H Q _ => ∃ (p : Addr) (ps : Pgs), vs = [.ref p] ∧ Pg H p ps ∧ ps.length ≤ 1000 ∧ ∀ D H' qs, Same H H' → Pg H' D qs → cont qs = cont ps → (∀ b, At D qs b → H b = none) → Q (.ref D) H'
def spIsI : Sp := fun vs H Q _ => ∃ (p r : Addr) (ps qs : Pgs), vs = [.ref p, .ref r] ∧ Pg H p ps ∧ Pg H r qs ∧ Good ps ∧ cont ps = cont qs ∧ ps.length ≤ 24 ∧ Q (.bl true) H
theorem marks_at {k : Nat} (h : k < 16) : ∃ c : Int, atI ([3, 3, 3, 1, 7, 3, 19, 3, 11, 27, 31, 5, 2, 3, 0, 227].map V.int) (k : Int) = some (.int c) ∧ 0 ≤ c ∧ c < 256 := by
  rcases (show k = 0 ∨ k = 1 ∨ k = 2 ∨ k = 3 ∨ k = 4 ∨ k = 5 ∨ k = 6 ∨ k = 7 ∨ k = 8 ∨ k = 9 ∨ k = 10 ∨ k = 11 ∨ k = 12 ∨ k = 13 ∨ k = 14 ∨ k = 15 by omega) with rfl | rfl | rfl | rfl | rfl | rfl | rfl | rfl | rfl | rfl | rfl | rfl | rfl | rfl | rfl | rfl <;> exact ⟨_, rfl, by decide, by decide⟩
def spPgs (K : PySem.W.Frag) : Sp := fun vs H Q _ => ∃ (a : Addr) (ns : List Int), vs = [.ref a] ∧ SqL K H a (ns.map V.int) ∧ ∀ (D : Addr) (H' : Hp) (qs : Pgs), Same H H' → Pg H' D qs → Good qs → 1 ≤ qs.length → qs.length ≤ 24 → (∀ b, At D qs b → H b = none) → Q (.ref D) H'
section
variable {P : Program} {w : World} {K : PySem.W.Frag} {mg : Str → Option Value} {base : Heap} {C NP NL NW NI SC PL : Addr}
theorem scCe : FnScope ["_law_script", "_law_k"] ["_law_script", "_law_k"] (defScope sCell) := ⟨rfl, rfl, rfl, by decide +kernel, rfl, by decide +kernel, by decide +kernel⟩
theorem ok_cell {f : Addr} {fd : FuncData} (F : Fun K "_law_cell_at" "_law_cell_at" sCell f fd) (T : Txt K mg) : FnOk P w K mg base CX0 1 f fd ["_law_script", "_law_k"] (spCell K) := by
  refine F.ok scCe (fun vs H Q E h => ?_) (fun cdv A outer s H vs Q E hr h => ?_)
  · obtain ⟨x, ns, k, rfl, _⟩ := h
    rfl
  · obtain ⟨x, ns, k, rfl, hS, q⟩ := h
    refine ⟨_, (pss_cons (ps_if (pt_cmpR op_lt (pv 1) (pe_callB call_len_seq (by rfl) T.len PySem.boot_len (pa_cons (pv 0) pa_nil)) (nomark _)) (pss_one (ps_ret (pe_ix ix_list (pv 0) (pv 1) (fun _ _ => rfl)))) pss_nil) (pss_one (ps_ret pe_int))), ?_⟩
    refine ⟨_, rfl, _, rfl, x, _, rfl, .inl hS, _, _, rfl, rfl, _, rfl, ite2 (fun z => ?_) (fun z => ?_)⟩
    · have z' := of_decide_eq_true z
      rw [List.length_map] at z'
      exact ⟨_, rfl, _, rfl, x, _, _, _, rfl, rfl, hS, atI_word (by omega), q⟩
    · have z' : ¬ ((k : Int) < ((ns.map V.int).length : Int)) := fun y => z (decide_eq_true y)
      rw [List.length_map] at z'
      rw [List.getD_eq_getElem?_getD, List.getElem?_eq_none (by omega)] at q
      exact q
theorem scLW : FnScope ["_law_found"] ["_law_found"] (defScope sLWhole) := ⟨rfl, rfl, rfl, by decide +kernel, rfl, by decide +kernel, by decide +kernel⟩
theorem ok_lwhole {f : Addr} {fd : FuncData} (F : Fun K "_law_whole" "_law_whole" sLWhole f fd) (T : Txt K mg) : FnOk P w K mg base CX0 1 f fd ["_law_found"] spWhole := by
  refine F.ok scLW (fun vs H Q E h => ?_) (fun cdv A outer s H vs Q E hr h => ?_)
  · obtain ⟨x, rfl, _⟩ := h
    rfl
  · obtain ⟨x, rfl, th, q⟩ := h
    refine ⟨_, (pss_one (ps_ret (pe_and (pe_callB call_isint (by rfl) T.isi PyProof.Rows.boot_isinstance (pa_cons (pv 0) (pa_cons (pe_bltn (by rfl) T.int PyProof.Rows.boot_int (show RelV (.ty "int") (.type "int") from rfl)) pa_nil))) (pe_one (pe_not (pe_callB call_isbool (by rfl) T.isi PyProof.Rows.boot_isinstance (pa_cons (pv 0) (pa_cons (pe_bltn (by rfl) T.boo PyProof.Rows.boot_bool (show RelV (.ty "bool") (.type "bool") from rfl)) pa_nil)))))))), ?_⟩
    refine ⟨x, rfl, x, rfl, th, _, rfl, ?_⟩
    cases th with
    | non => exact iteF q
    | bl b => exact iteT ⟨_, rfl, _, rfl, .bl b, _, rfl, q⟩
    | int i => exact iteT ⟨_, rfl, _, rfl, .int i, _, rfl, q⟩
    | str z => exact iteF q
    | lst e => exact iteF q
    | frz e => exact iteF q
    | tup e => exact iteF q
    | dic e => exact iteF q
theorem scRo : FnScope ["_law_mixed", "_law_many", "_law_marks", "_law_page"] ["_law_mixed", "_law_many"] (defScope sRow) := ⟨rfl, rfl, rfl, by decide +kernel, rfl, by decide +kernel, by decide +kernel⟩
theorem ok_row {f : Addr} {fd : FuncData} (F : Fun K "_law_row_by" "_law_row_by" sRow f fd) : FnOk P w K mg base CX0 1 f fd ["_law_mixed", "_law_many"] spRow := by
  refine F.ok scRo (fun vs H Q E h => ?_) (fun cdv A outer s H vs Q E hr h => ?_)
  · obtain ⟨x, n, rfl, _⟩ := h
    rfl
  · obtain ⟨x, n, rfl, x0, x1, hn, q⟩ := h
    have e48 : (2 : Int) ^ (48 : Int).toNat = 281474976710656 := by decide
    have e40 : (2 : Int) ^ (40 : Int).toNat = 1099511627776 := by decide
    obtain ⟨t3, R3, hR3⟩ : ∃ tr, PSs (cxOf CX0 P w K mg base ["_law_mixed", "_law_many", "_law_marks", "_law_page"] "_law_row_by" (defScope sRow) f cdv A outer s H E).nox ((defBody sRow).drop 3) tr ∧ ∀ (H1 : Hp) (c y : Int), Same H H1 → 0 ≤ c → c < 256 → 0 ≤ y → y < 1099511627776 → tr { nx := fun _ H' => Q .non H', rt := Q } [some (.int x), some (.int n), some (.int c), some (.int y)] H1 := by
      refine ⟨_, (pss_cons (ps_if (pt_cmpR op_eq (pe_op op_mod (pv 0) pe_int) pe_int (nomark _)) (pss_one (ps_ret (pe_op op_mod (pe_op op_mul (pv 0) (pv 0)) (pe_op op_pow pe_int pe_int)))) pss_nil) (pss_one (ps_ret (pe_op op_add (pe_op op_mul (pv 3) pe_int) (pv 2))))), fun H1 c y ss c0 c1 y0 y1 => ?_⟩
      refine ⟨_, rfl, x, 16, rfl, rfl, (by show (0 : Int) < 16; decide), rfl, _, rfl, ite2 (fun _ => ?_) (fun _ => ?_)⟩
      · refine ⟨_, rfl, _, rfl, x, x, rfl, rfl, .inl ⟨by omega, by omega⟩, 2, 48, rfl, rfl, ⟨by decide, by decide, by decide⟩, _, _, rfl, rfl, (by show (0 : Int) < 2 ^ (48 : Int).toNat; decide), ?_⟩
        refine q _ H1 ss ?_ ?_
        · exact Int.emod_nonneg _ (by decide)
        · rw [e48]; exact Int.emod_lt_of_pos _ (by decide)
      · exact ⟨_, rfl, y, 256, rfl, rfl, .inr ⟨by decide, by decide⟩, _, rfl, _, c, rfl, rfl, q _ H1 ss (by omega) (by omega)⟩
    have RT : PSsq (cxOf CX0 P w K mg base ["_law_mixed", "_law_many", "_law_marks", "_law_page"] "_law_row_by" (defScope sRow) f cdv A outer s H E).nox (defBody sRow) _ := pssq_cons (psq_setq (i := 2) scRo.nd rfl (Or.inl rfl) (peq_ix ix_list (peq_ints (.cons (.cons (.cons (.cons (.cons (.cons (.cons (.cons (.cons (.cons (.cons (.cons (.cons (.cons (.cons (.cons .nil))))))))))))))))) (peq_op op_mod (peq_op op_fdiv ⟨pv 0⟩ ⟨pe_int⟩) ⟨pe_int⟩) (fun _ _ => rfl))) (pssq_cons (psq_setq (i := 3) scRo.nd rfl (Or.inl rfl) (peq_op op_mod (peq_op op_fdiv ⟨pv 0⟩ ⟨pe_int⟩) (peq_op op_add ⟨pv 1⟩ ⟨pe_int⟩))) (pssq_cons (psq_if ⟨pt_cmpR op_eq (pe_op op_mod (pv 0) pe_int) pe_int (nomark _)⟩ (pssq_one (psq_setq (i := 3) scRo.nd rfl (Or.inl rfl) (peq_op op_sub (peq_op op_sub (peq_op op_pow ⟨pe_int⟩ ⟨pe_int⟩) ⟨pe_int⟩) ⟨pv 3⟩))) pssq_nil) ⟨R3⟩))
    refine PSsq.ex RT ?_
    refine ⟨by show 16 ≤ sizeLine; decide, fun p hp => ?_⟩
    have s1 := same_new (o := .lst ([3, 3, 3, 1, 7, 3, 19, 3, 11, 27, 31, 5, 2, 3, 0, 227].map V.int)) hp
    obtain ⟨k, hk⟩ : ∃ k : Nat, x / 16 % 16 = (k : Int) := ⟨(x / 16 % 16).toNat, by omega⟩
    obtain ⟨c, hc, c0, c1⟩ := marks_at (k := k) (by omega)
    refine ⟨_, rfl, x, 16, rfl, rfl, ⟨by decide, by decide⟩, _, 16, rfl, rfl, (by show (0 : Int) < 16; decide), p, _, _, _, rfl, rfl, SqL.of upd_same, (by rw [hk]; exact hc), ?_⟩
    refine ⟨_, rfl, x, 256, rfl, rfl, ⟨by decide, by decide⟩, _, rfl, _, 1, rfl, rfl, _, _, rfl, rfl, (by show (0 : Int) < (n : Int) + 1; omega), ?_⟩
    have y0 : 0 ≤ x / 256 % ((n : Int) + 1) := Int.emod_nonneg _ (by omega)
    have y1 : x / 256 % ((n : Int) + 1) < (n : Int) + 1 := Int.emod_lt_of_pos _ (by omega)
    dsimp only
    generalize x / 256 % ((n : Int) + 1) = y at y0 y1 ⊢
    refine ⟨_, rfl, x, 16, rfl, rfl, (by show (0 : Int) < 16; decide), rfl, _, rfl, ite2 (fun _ => ?_) (fun _ => ?_)⟩
    · refine ⟨2, 40, rfl, rfl, ⟨by decide, by decide, by decide⟩, _, 1, rfl, rfl, _, rfl, _, y, rfl, rfl, ?_⟩
      dsimp only
      rw [e40]
      exact hR3 _ c _ s1 c0 c1 (by omega) (by omega)
    · exact hR3 _ c y s1 c0 c1 y0 (by omega)
theorem scCo : FnScope ["_law_pages_here", "_law_found", "_law_words"] ["_law_pages_here"] (defScope sCopy) := ⟨rfl, rfl, rfl, by decide +kernel, rfl, by decide +kernel, by decide +kernel⟩
theorem ok_copy {f : Addr} {fd : FuncData} (F : Fun K "_law_copy" "_law_copy" sCopy f fd) (T : Txt K mg) : FnOk P w K mg base CX0 1 f fd ["_law_pages_here"] spCopy := by
  refine F.ok scCo (fun vs H Q E h => ?_) (fun cdv A outer s H vs Q E hr h => ?_)
  · obtain ⟨p, ps, rfl, _⟩ := h
    rfl
  · obtain ⟨p, ps, rfl, g, hl, q⟩ := h
    refine ⟨_, (pss_cons (ps_set (i := 1) scCo.nd rfl (Or.inl rfl) (pe_lst pa_nil)) (pss_cons (ps_for PassesOwn.never rfl (pi_list (pv 0)) (pg_name (i := 2) scCo.nd rfl (Or.inl rfl)) (pss_one (ps_if (pt_cmpR op_isN (pv 2) pe_non (nomark _)) (pss_one (ps_expr (pe_bm PySem.F.plainAttrs_list PySem.F.slot_list_append PySem.F.type_list_append mt_append (pv 1) (pa_cons pe_non pa_nil)))) (pss_one (ps_expr (pe_bm PySem.F.plainAttrs_list PySem.F.slot_list_append PySem.F.type_list_append mt_append (pv 1) (pa_cons (pe_callTy call_list_of (by rfl) T.lst PyProof.Rows.boot_list (pa_cons (pv 2) pa_nil)) pa_nil))))))) (pss_one (ps_ret (pv 1))))), ?_⟩
    refine ⟨by show 0 ≤ sizeLine; decide, fun D hD => ?_⟩
    have s1 := same_new (o := .lst []) hD
    refine ⟨_, rfl, p, rfl, ⟨_, SqL.of (s1 _ _ g.top)⟩, for_list (K := K) (a := p) (xs := ps.map pgV) (fun i σ H' => (∃ v, σ = [some (.ref p), some (.ref D), v]) ∧ ∃ qs : Pgs, Same H H' ∧ Pg H' D qs ∧ qs.length = i ∧ cont qs = (cont ps).take i ∧ (∀ b, At D qs b → H b = none)) ?_ ?_ ?_ ?_⟩
    · refine ⟨⟨_, rfl⟩, [], s1, ⟨upd_same, fun i p ws e => by simp at e, fun i j p ws ws' e => by simp at e⟩, rfl, rfl, fun b hb => ?_⟩
      rcases hb with rfl | ⟨i, ws, e⟩
      · exact hD
      · simp at e
    · rintro i σ H' _ ⟨_, qs, ss, _⟩
      exact SqL.of (ss _ _ g.top)
    · rintro i x σ H' hi ⟨⟨v, rfl⟩, qs, ss, gq, hql, hc, hf⟩
      rw [List.getElem?_map] at hi
      cases eo : ps[i]? with
      | none => rw [eo] at hi; cases hi
      | some o =>
      rw [eo] at hi
      have hi' : pgV o = x := Option.some.inj hi
      subst hi'
      have hil : i < ps.length := (List.getElem?_eq_some_iff.mp eo).1
      have sl : i < sizeLine := Nat.lt_of_lt_of_le (show i < 1001 by omega) (by decide)
      have sz : (qs.map pgV).length < sizeLine := by rw [List.length_map, hql]; exact sl
      have tk : (cont ps).take (i + 1) = (cont ps).take i ++ [o.map (·.2)] := by
        have : (cont ps)[i]? = some (o.map (·.2)) := by unfold cont; rw [List.getElem?_map, eo]; rfl
        rw [List.take_add_one, this]
        rfl
      cases o with
      | none =>
        refine ⟨_, rfl, rfl, _, rfl, iteTS rfl ⟨_, rfl, .inl ⟨rfl, _, SqL.of gq.top⟩, D, _, _, rfl, rfl, gq.top, sz, ⟨_, rfl⟩, qs ++ [none], ss.set hD, gq.app (o := none) (Same.refl _) (fun q ws e => by cases e), by rw [List.length_append, hql]; rfl, by rw [tk, ← hc]; unfold cont; rw [List.map_append]; rfl, fun b hb => ?_⟩⟩
        rcases hb.app with z | ⟨ws, z⟩
        · exact hf b z
        · cases z
      | some t =>
        obtain ⟨pt, wt⟩ := t
        have hp := ss _ _ (g.each i pt wt eo).1
        refine ⟨_, rfl, rfl, _, rfl, iteFS (decide_eq_false nofun) ⟨_, rfl, .inl ⟨rfl, _, SqL.of gq.top⟩, _, rfl, pt, _, rfl, .inl (SqL.of hp), fun l hl0 => ?_⟩⟩
        have s2 := same_new (o := .lst (wt.map V.int)) hl0
        have hn : ∀ (q : Addr) (ws : List Int), some (l, wt) = some (q, ws) → upd H' l (.lst (wt.map V.int)) q = some (.lst (ws.map V.int)) ∧ H' q = none := fun q ws e => by
          cases e
          exact ⟨upd_same, hl0⟩
        refine ⟨D, _, _, rfl, rfl, s2 _ _ gq.top, sz, ⟨_, rfl⟩, qs ++ [some (l, wt)], (ss.trans s2).set hD, gq.app s2 hn, by rw [List.length_append, hql]; rfl, ?_, fun b hb => ?_⟩
        · rw [tk, ← hc]
          unfold cont
          rw [List.map_append]
          rfl
        · rcases hb.app with z | ⟨ws, z⟩
          · exact hf b z
          · cases z
            exact ss.free hl0
    · rintro σ H' ⟨⟨v, rfl⟩, qs, ss, gq, hql, hc, hf⟩
      refine ⟨_, rfl, q D H' qs ss gq ?_ hf⟩
      rw [hc, List.take_of_length_le]
      unfold cont
      rw [List.length_map, List.length_map]
      exact Nat.le_refl _
theorem scIs : FnScope ["_law_found", "_law_due", "_law_words", "_law_word"] ["_law_found", "_law_due"] (defScope sIsI) := ⟨rfl, rfl, rfl, by decide +kernel, rfl, by decide +kernel, by decide +kernel⟩
theorem ok_isi {f f1 : Addr} {fd fd1 : FuncData} (F : Fun K "_law_is_image" "_law_is_image" sIsI f fd) (D1 : Dn K mg "_law_whole" sLWhole ["_law_found"] f1 fd1) (G1 : FnOk P w K mg base CX0 1 f1 fd1 ["_law_found"] spWhole) (T : Txt K mg) : FnOk P w K mg base CX0 2 f fd ["_law_found", "_law_due"] spIsI := by
  refine F.ok scIs (fun vs H Q E h => ?_) (fun cdv A outer s H vs Q E hr h => ?_)
  · obtain ⟨p, r, ps, qs, rfl, _⟩ := h
    rfl
  · obtain ⟨p, r, ps, qs, rfl, g, g', gd, hc, hl, q⟩ := h
    have hlen := cont_len hc
    refine ⟨_, (pss_cons (ps_if (PW.pt (pw_or (pt_not (pt_val (pe_callB call_islist (by rfl) T.isi PyProof.Rows.boot_isinstance (pa_cons (pv 0) (pa_cons (pe_bltn (by rfl) T.lst PyProof.Rows.boot_list (show RelV (.ty "list") (.type "list") from rfl)) pa_nil))))) (pw_or1 (pt_cmpR op_ne (pe_callB call_len_seq (by rfl) T.len PySem.boot_len (pa_cons (pv 0) pa_nil)) (pe_callB call_len_seq (by rfl) T.len PySem.boot_len (pa_cons (pv 1) pa_nil)) (nomark _))))) (pss_one (ps_ret pe_bl)) pss_nil) (pss_cons (ps_for PassesOwn.never rfl (pi_list (pv 0)) (pg_name (i := 2) scIs.nd rfl (Or.inl rfl)) (pss_one (ps_if (pt_cmpR op_notN (pv 2) pe_non (nomark _)) (pss_cons (ps_if (PW.pt (pw_or (pt_not (pt_val (pe_callB call_islist (by rfl) T.isi PyProof.Rows.boot_isinstance (pa_cons (pv 2) (pa_cons (pe_bltn (by rfl) T.lst PyProof.Rows.boot_list (show RelV (.ty "list") (.type "list") from rfl)) pa_nil))))) (pw_or1 (pt_cmpR op_ne (pe_callB call_len_seq (by rfl) T.len PySem.boot_len (pa_cons (pv 2) pa_nil)) pe_int (nomark _))))) (pss_one (ps_ret pe_bl)) pss_nil) (pss_one (ps_for PassesOwn.never rfl (pi_list (pv 2)) (pg_name (i := 3) scIs.nd rfl (Or.inl rfl)) (pss_one (ps_if (pt_not (pt_val (pe_call G1 hr (by rfl) D1.m D1.F.kp D1.b .nil pass0 (pa_cons (pv 3) pa_nil)))) (pss_one (ps_ret pe_bl)) pss_nil))))) pss_nil))) (pss_one (ps_ret (pe_cmpR (op_eqD hr.units) (pv 0) (pv 1) (nomark _)))))), ?_⟩
    refine ⟨_, rfl, _, rfl, .lst g.top, _, rfl, iteFS (by show (!isLst H (.ref p)) = false; rw [isLst_of g.top]; rfl) ?_⟩
    refine ⟨_, rfl, p, _, rfl, .inl (SqL.of g.top), _, rfl, r, _, rfl, .inl (SqL.of g'.top), rfl, _, rfl, iteFS (by show (!decide (V.int ((ps.map pgV).length : Int) = V.int ((qs.map pgV).length : Int))) = false; rw [List.length_map, List.length_map, hlen, decide_eq_true rfl]; rfl) ?_⟩
    refine ⟨_, rfl, p, rfl, ⟨_, SqL.of g.top⟩, for_list (K := K) (a := p) (xs := ps.map pgV) (fun i σ H' => H' = H ∧ ∃ v1 v2, σ = [some (.ref p), some (.ref r), v1, v2]) ?_ ?_ ?_ ?_⟩
    · exact ⟨rfl, _, _, rfl⟩
    · rintro i σ H' _ ⟨rfl, _⟩
      exact SqL.of g.top
    · rintro i x σ H' hi ⟨rfl, v1, v2, rfl⟩
      rw [List.getElem?_map] at hi
      cases eo : ps[i]? with
      | none => rw [eo] at hi; cases hi
      | some o =>
      rw [eo] at hi
      have hi' : pgV o = x := Option.some.inj hi
      subst hi'
      cases o with
      | none => exact ⟨_, rfl, rfl, _, rfl, iteFS rfl ⟨rfl, _, _, rfl⟩⟩
      | some t =>
        obtain ⟨pt, wt⟩ := t
        have hp := (g.each i pt wt eo).1
        have w8 := (gd i pt wt eo).1
        refine ⟨_, rfl, rfl, _, rfl, iteTS (by show (!decide (V.ref pt = V.non)) = true; rw [decide_eq_false nofun]; rfl) ?_⟩
        refine ⟨_, rfl, _, rfl, .lst hp, _, rfl, iteFS (by show (!isLst H' (.ref pt)) = false; rw [isLst_of hp]; rfl) ?_⟩
        refine ⟨_, rfl, pt, _, rfl, .inl (SqL.of hp), rfl, _, rfl, iteFS (by show (!decide (V.int ((wt.map V.int).length : Int) = V.int 8)) = false; rw [List.length_map, w8]; rfl) ?_⟩
        refine ⟨_, rfl, pt, rfl, ⟨_, SqL.of hp⟩, for_list (K := K) (a := pt) (xs := wt.map V.int) (fun i2 σ H2 => H2 = H' ∧ ∃ v2, σ = [some (.ref p), some (.ref r), some (.ref pt), v2]) ?_ ?_ ?_ ?_⟩
        · exact ⟨rfl, _, rfl⟩
        · rintro i2 σ H2 _ ⟨rfl, _⟩
          exact SqL.of hp
        · rintro i2 y σ H2 hi2 ⟨rfl, v2, rfl⟩
          rw [List.getElem?_map] at hi2
          cases ew : wt[i2]? with
          | none => rw [ew] at hi2; cases hi2
          | some z =>
            rw [ew] at hi2
            have hi2' : V.int z = y := Option.some.inj hi2
            subst hi2'
            exact ⟨_, rfl, _, rfl, .int z, _, rfl, iteF ⟨rfl, _, rfl⟩⟩
        · rintro σ H2 ⟨rfl, v2, rfl⟩
          exact ⟨rfl, _, _, rfl⟩
    · rintro σ H' ⟨rfl, v1, v2, rfl⟩
      refine ⟨_, rfl, _, rfl, _, _, datPg g, datPg g', shapedC _, shapedC _, ?_⟩
      rw [hc, eqvC]
      exact q
theorem scPg : FnScope ["_law_script", "_law_cell", "_law_many", "_law_mixed", "_law_pages_here", "_law_page", "_law_words", "_law_k"] ["_law_script"] (defScope sPgs) := ⟨rfl, rfl, rfl, by decide +kernel, rfl, by decide +kernel, by decide +kernel⟩
theorem ok_pages {f f1 f2 : Addr} {fd fd1 fd2 : FuncData} (F : Fun K "_law_pages" "_law_pages" sPgs f fd) (D1 : Dn K mg "_law_cell_at" sCell ["_law_script", "_law_k"] f1 fd1) (G1 : FnOk P w K mg base CX0 1 f1 fd1 ["_law_script", "_law_k"] (spCell K))
    (D2 : Dn K mg "_law_row_by" sRow ["_law_mixed", "_law_many"] f2 fd2) (G2 : FnOk P w K mg base CX0 1 f2 fd2 ["_law_mixed", "_law_many"] spRow) (T : Txt K mg) : FnOk P w K mg base CX0 2 f fd ["_law_script"] (spPgs K) := by
  refine F.ok scPg (fun vs H Q E h => ?_) (fun cdv A outer s H vs Q E hr h => ?_)
  · obtain ⟨x, ns, rfl, _⟩ := h
    rfl
  · obtain ⟨x, ns, rfl, hS, q⟩ := h
    obtain ⟨t3, R3, hR3⟩ : ∃ tr, PSs (cxOf CX0 P w K mg base ["_law_script", "_law_cell", "_law_many", "_law_mixed", "_law_pages_here", "_law_page", "_law_words", "_law_k"] "_law_pages" (defScope sPgs) f cdv A outer s H E).nox ((defBody sPgs).drop 3) tr ∧ ∀ (c m : Int), 1 ≤ m → m ≤ 24 → tr { nx := fun _ H' => Q .non H', rt := Q } [some (.ref x), some (.int c), some (.int m), none, none, none, none, none] H := by
      refine ⟨_, (pss_cons (ps_set (i := 3) scPg.nd rfl (Or.inl rfl) (pe_op op_add pe_int (pe_op op_mod (pe_op op_mul (pe_call G1 hr (by rfl) D1.m D1.F.kp D1.b .nil pass0 (pa_cons (pv 0) (pa_cons pe_int pa_nil))) pe_int) pe_int))) (pss_cons (ps_set (i := 4) scPg.nd rfl (Or.inl rfl) (pe_lst pa_nil)) (pss_cons (ps_for PassesOwn.never rfl (pi_range1 (by rfl) T.rng (pa_cons (pv 2) pa_nil)) (pg_name (i := 5) scPg.nd rfl (Or.inl rfl)) (pss_cons (ps_set (i := 6) scPg.nd rfl (Or.inl rfl) (pe_lst pa_nil)) (pss_cons (ps_for PassesOwn.never rfl (pi_range1 (by rfl) T.rng (pa_cons pe_int pa_nil)) (pg_name (i := 7) scPg.nd rfl (Or.inl rfl)) (pss_cons (ps_set (i := 3) scPg.nd rfl (Or.inl rfl) (pe_op op_mod (pe_op op_add (pe_op op_mul (pv 3) pe_int) (pe_call G1 hr (by rfl) D1.m D1.F.kp D1.b .nil pass0 (pa_cons (pv 0) (pa_cons (pe_op op_add pe_int (pe_op op_mod (pe_op op_add (pe_op op_mul (pv 5) pe_int) (pv 7)) pe_int)) pa_nil)))) pe_int)) (pss_one (ps_expr (pe_bm PySem.F.plainAttrs_list PySem.F.slot_list_append PySem.F.type_list_append mt_append (pv 6) (pa_cons (pe_call G2 hr (by rfl) D2.m D2.F.kp D2.b .nil pass0 (pa_cons (pv 3) (pa_cons (pv 2) pa_nil))) pa_nil)))))) (pss_cons (ps_if (PW.pt (pw_and (pt_cmpR op_gt (pv 5) pe_int (nomark _)) (pw_and1 (pt_cmpR op_eq (pe_op op_mod (pv 3) pe_int) pe_int (nomark _))))) (pss_one (ps_set (i := 6) scPg.nd rfl (Or.inl rfl) pe_non)) pss_nil) (pss_one (ps_expr (pe_bm PySem.F.plainAttrs_list PySem.F.slot_list_append PySem.F.type_list_append mt_append (pv 4) (pa_cons (pv 6) pa_nil)))))))) (pss_one (ps_ret (pv 4)))))), fun c m m1 m2 => ?_⟩
      obtain ⟨n, rfl⟩ : ∃ n : Nat, m = (n : Int) := ⟨m.toNat, by omega⟩
      refine ⟨_, rfl, x, ns, 1, rfl, hS, _, 1226874159, rfl, rfl, .inr ⟨by decide, by decide⟩, _, 2147483647, rfl, rfl, (by show (0 : Int) < 2147483647; decide), 1, _, rfl, rfl, ?_⟩
      have b0 : 0 ≤ ns.getD 1 0 * 1226874159 % 2147483647 := Int.emod_nonneg _ (by decide)
      have b1 : ns.getD 1 0 * 1226874159 % 2147483647 < 2147483647 := Int.emod_lt_of_pos _ (by decide)
      dsimp only
      generalize ns.getD 1 0 * 1226874159 % 2147483647 = mx0 at b0 b1 ⊢
      refine ⟨by show 0 ≤ sizeLine; decide, fun D hD => ?_⟩
      refine ⟨_, rfl, (n : Int), rfl, by omega, by omega, ?_⟩
      rw [Int.toNat_natCast]
      refine for_range (lo := 0) (n := n) (fun i σ H' => ∃ (mx : Int) (v1 v2 v3 : Option V), σ = [some (.ref x), some (.int c), some (.int n), some (.int mx), some (.ref D), v1, v2, v3] ∧ 0 ≤ mx ∧ mx ≤ 2147483647 ∧ ∃ qs : Pgs, Same H H' ∧ Pg H' D qs ∧ Good qs ∧ qs.length = i ∧ (∀ b, At D qs b → H b = none)) ?_ ?_ ?_
      · refine ⟨_, _, _, _, rfl, by omega, by omega, [], same_new hD, ⟨upd_same, fun i p ws e => by simp at e, fun i j p ws ws' e => by simp at e⟩, fun i p ws e => by simp at e, rfl, fun b hb => ?_⟩
        rcases hb with rfl | ⟨i, ws, e⟩
        · exact hD
        · simp at e
      · rintro i σ H' hi ⟨mx, v1, v2, v3, rfl, x0, x1, qs, ss, gq, hg, hql, hf⟩
        have ei : (0 : Int) + (i : Int) = (i : Int) := by omega
        rw [ei]
        have sl : i < sizeLine := Nat.lt_of_lt_of_le (show i < 25 by omega) (by decide)
        have sz : (qs.map pgV).length < sizeLine := by rw [List.length_map, hql]; exact sl
        refine ⟨by show 0 ≤ sizeLine; decide, fun l hl => ?_⟩
        refine ⟨8, rfl, by decide, by decide, for_range (lo := 0) (n := 8) (fun j σ H2 => ∃ (my : Int) (v3 : Option V), σ = [some (.ref x), some (.int c), some (.int n), some (.int my), some (.ref D), some (.int i), some (.ref l), v3] ∧ 0 ≤ my ∧ my ≤ 2147483647 ∧ ∃ ws : List Int, Same H' H2 ∧ H2 l = some (.lst (ws.map V.int)) ∧ ws.length = j ∧ ∀ w ∈ ws, 0 ≤ w ∧ w < 281474976710656) ?_ ?_ ?_⟩
        · exact ⟨_, _, rfl, x0, x1, [], same_new hl, upd_same, rfl, fun w hw => by cases hw⟩
        · rintro j σ H2 hj ⟨my, v3, rfl, y0, y1, ws, s2, el, wl, wb⟩
          have ej : (0 : Int) + (j : Int) = (j : Int) := by omega
          rw [ej]
          refine ⟨_, rfl, my, 48271, rfl, rfl, .inr ⟨by decide, by decide⟩, _, rfl, _, rfl, (i : Int), 8, rfl, rfl, .inr ⟨by decide, by decide⟩, _, rfl, _, (j : Int), rfl, rfl, _, 60, rfl, rfl, (by show (0 : Int) < 60; decide), 2, _, rfl, rfl, x, ns, 2 + (i * 8 + j) % 60, congrArg (fun z => [V.ref x, V.int z]) (show (2 : Int) + ((i : Int) * 8 + (j : Int)) % 60 = ((2 + (i * 8 + j) % 60 : Nat) : Int) by omega), (ss.trans s2).seq hS, _, _, rfl, rfl, _, 2147483647, rfl, rfl, (by show (0 : Int) < 2147483647; decide), ?_⟩
          generalize ns.getD (2 + (i * 8 + j) % 60) 0 = d
          have z0 : 0 ≤ (my * 48271 + d) % 2147483647 := Int.emod_nonneg _ (by decide)
          have z1 : (my * 48271 + d) % 2147483647 < 2147483647 := Int.emod_lt_of_pos _ (by decide)
          dsimp only
          generalize (my * 48271 + d) % 2147483647 = mz at z0 z1 ⊢
          refine ⟨_, rfl, .inl ⟨rfl, _, SqL.of el⟩, _, rfl, _, rfl, mz, n, rfl, z0, by omega, by omega, fun r H3 s3 r0 r1 => ⟨l, _, _, rfl, rfl, s3 _ _ el, ?_, mz, _, rfl, z0, by omega, ws ++ [r], (s2.trans s3).set hl, ?_, by rw [List.length_append, wl]; rfl, fun w hw => ?_⟩⟩
          · rw [List.length_map, wl]; exact Nat.lt_of_lt_of_le (show j < 9 by omega) (by decide)
          · rw [upd_same, List.map_append]; rfl
          · rcases List.mem_append.mp hw with z | z
            · exact wb w z
            · rw [List.mem_singleton.mp z]
              exact ⟨r0, r1⟩
        · rintro σ H2 ⟨my, v3, rfl, y0, y1, ws, s2, el, wl, wb⟩
          have hn : ∀ (q : Addr) (vs : List Int), some (l, ws) = some (q, vs) → H2 q = some (.lst (vs.map V.int)) ∧ H' q = none := fun q vs e => by
            cases e
            exact ⟨el, hl⟩
          have fin : ∀ b, At D (qs ++ [some (l, ws)]) b → H b = none := fun b hb => by
            rcases hb.app with z | ⟨ws, z⟩
            · exact hf b z
            · cases z
              exact ss.free hl
          refine ⟨_, rfl, _, 0, rfl, rfl, _, rfl, ite2 (fun _ => ⟨_, rfl, my, 7, rfl, rfl, (by show (0 : Int) < 7; decide), rfl, _, rfl, ite2 (fun _ => ⟨_, rfl, .inl ⟨rfl, _, SqL.of (s2 _ _ gq.top)⟩, _, rfl, D, _, _, rfl, rfl, s2 _ _ gq.top, sz, my, _, _, _, rfl, y0, y1, qs ++ [none], (ss.trans s2).set hD, gq.app (o := none) s2 (fun q ws e => by cases e), hg.app (o := none) (fun q ws e => by cases e), by rw [List.length_append, hql]; rfl, fun b hb => ?_⟩) (fun _ => ?_)⟩) (fun _ => ?_)⟩
          · rcases hb.app with z | ⟨ws, z⟩
            · exact hf b z
            · cases z
          all_goals
            refine ⟨_, rfl, .inl ⟨rfl, _, SqL.of (s2 _ _ gq.top)⟩, _, rfl, D, _, _, rfl, rfl, s2 _ _ gq.top, sz, my, _, _, _, rfl, y0, y1, qs ++ [some (l, ws)], (ss.trans s2).set hD, gq.app s2 hn, hg.app fun q vs e => ?_, by rw [List.length_append, hql]; rfl, fin⟩
            cases e
            exact ⟨wl, wb⟩
      · rintro σ H' ⟨mx, v1, v2, v3, rfl, x0, x1, qs, ss, gq, hg, hql, hf⟩
        exact ⟨_, rfl, q D H' qs ss gq hg (by omega) (by omega) hf⟩
    refine ⟨_, pss_cons (ps_set (i := 1) scPg.nd rfl (Or.inl rfl) (pe_call G1 hr (by rfl) D1.m D1.F.kp D1.b .nil pass0 (pa_cons (pv 0) (pa_cons pe_int pa_nil)))) (pss_cons (ps_set (i := 2) scPg.nd rfl (Or.inl rfl) (pe_op op_add pe_int (pe_op op_mod (pe_op op_mod (pe_op op_mul (pv 1) pe_int) pe_int) pe_int))) (pss_cons (ps_if (pt_cmpR op_eq (pe_op op_mod (pv 1) pe_int) pe_int (nomark _)) (pss_one (ps_set (i := 2) scPg.nd rfl (Or.inl rfl) (pe_op op_add pe_int (pe_op op_mod (pe_op op_mod (pe_op op_mul (pv 1) pe_int) pe_int) pe_int)))) pss_nil) R3)), ?_⟩
    refine ⟨_, rfl, x, ns, 0, rfl, hS, ?_⟩
    generalize ns.getD 0 0 = c
    refine ⟨_, rfl, c, 950706376, rfl, rfl, .inr ⟨by decide, by decide⟩, _, 2147483647, rfl, rfl, (by show (0 : Int) < 2147483647; decide), _, 5, rfl, rfl, (by show (0 : Int) < 5; decide), 2, _, rfl, rfl, ?_⟩
    refine ⟨_, rfl, c, 8, rfl, rfl, (by show (0 : Int) < 8; decide), rfl, _, rfl, ite2 (fun _ => ?_) (fun _ => ?_)⟩
    · refine ⟨_, rfl, c, 742938285, rfl, rfl, .inr ⟨by decide, by decide⟩, _, 2147483647, rfl, rfl, (by show (0 : Int) < 2147483647; decide), _, 24, rfl, rfl, (by show (0 : Int) < 24; decide), 1, _, rfl, rfl, ?_⟩
      exact hR3 c _ (by omega) (by omega)
    · exact hR3 c _ (by omega) (by omega)
end
end K23

end
section
set_option Elab.async false
set_option linter.all false
set_option maxRecDepth 100000
set_option maxHeartbeats 4000000
namespace K23
open PySem L2
abbrev sNames : Stmt := top 35
abbrev sShR : Stmt := top 36
abbrev sRefd : Stmt := top 37
abbrev sNoI : Stmt := top 38
abbrev sGoo : Stmt := top 39
abbrev sLaw : Stmt := top 40
theorem FnOkQ.or {P : Program} {w : World} {K : PySem.W.Frag} {mg : Str → Option Value} {base : Heap} {k : Nat} {f : Addr} {fd : FuncData} {ps : List Str} {sp sq : Sp} (a : FnOkQ P w K mg base k f fd ps sp) (b : FnOkQ P w K mg base k f fd ps sq) : FnOkQ P w K mg base k f fd ps (fun vs H Q E => sp vs H Q E ∨ sq vs H Q E) :=
  ⟨fun vs H Q h => h.elim (a.len vs H Q) (b.len vs H Q), fun A outer s H args us vs Q hr e0 hb r h => h.elim (fun z => a.run A outer s H args us vs Q hr e0 hb r z) fun z => b.run A outer s H args us vs Q hr e0 hb r z⟩
structure Kd (K : PySem.W.Frag) (mg : Str → Option Value) (HE D : Addr) (b0 b1 : Bool) (NI NS NP NW FA : Addr) : Prop where
  m0 : mg "NoImage" = some (.ref NI)
  m1 : mg "NoShelf" = some (.ref NS)
  m2 : mg "NoPage" = some (.ref NP)
  m3 : mg "NoWord" = some (.ref NW)
  m4 : mg "Fault" = some (.ref FA)
  i0 : IsC K D (.ref NI) b0
  i1 : IsC K D (.ref NS) b1
  i2 : IsC K D (.ref NP) false
  i3 : IsC K D (.ref NW) false
  i4 : IsC K D (.ref FA) false
  iv : IsC K D (.ty "ValueError") true
  vae : mg "ValueError" = none
  ex : PySem.W.exmOne K (.ref D) (.ref HE) = some true
  he : mg "HouseError" = some (.ref HE)
def spNames (D : Addr) (ss : List Str) : Sp := fun vs H Q _ => ∃ (e : Addr) (od : Option Addr), vs = [.ref e] ∧ H e = some (xob e (.ref D) od) ∧ ∀ l H', Same H H' → H l = none → H' l = some (.lst (ss.map V.str)) → Q (.ref l) H'
def ssI : List Str := ["image", "value"]
def ssS : List Str := ["shelf", "value"]
def spNames2 (NI NS : Addr) : Sp := fun vs H Q E => spNames NI ssI vs H Q E ∨ spNames NS ssS vs H Q E
def spShR : Sp := fun vs H Q _ => ∃ x : V, vs = [x] ∧ Th H x ∧ goodM x = false ∧ ∀ H', Same H H' → Q (.bl true) H'
def spRefd : Sp := fun vs H Q _ => ∃ (x y : V) (ss : List Str), vs = [x, y] ∧ ((BadI H x ∧ ss = ssI) ∨ (∃ (p : Addr) (ps : Pgs), x = .ref p ∧ Pg H p ps ∧ Good ps ∧ 1 ≤ ps.length ∧ ps.length ≤ 24 ∧ Th H y ∧ goodM y = false ∧ ss = ssS)) ∧ ∀ l H', Same H H' → H' l = some (.lst (ss.map V.str)) → Q (.ref l) H'
theorem ss_eq {z : Str} : PyData.eqv (.list [.str z, .str "value"]) (.list [.str z, .str "value"]) = true := by
  simp only [PyData.eqv, PyData.eqvAll, beq_self_eq_true, Bool.and_self]
section
variable {P : Program} {w : World} {K : PySem.W.Frag} {mg : Str → Option Value} {base : Heap} {C NP NL NW NI NS SC PL WC FA HE : Addr}
theorem scNa : FnScope ["_law_e", "_law_some"] ["_law_e"] (defScope sNames) := ⟨rfl, rfl, rfl, by decide +kernel, rfl, by decide +kernel, by decide +kernel⟩
theorem ok_names0 {f : Addr} {fd : FuncData} (F : Fun K "_law_names" "_law_names" sNames f fd) (T : Txt K mg) (N : Kd K mg HE NI true false NI NS NP NW FA) : FnOkQ P w K mg base 1 f fd ["_law_e"] (spNames NI ssI) := by
  refine F.okQ scNa (fun vs H Q h => ?_) (fun cdv A outer s H vs Q hr h => ?_)
  · obtain ⟨e, od, rfl, _⟩ := h
    rfl
  · obtain ⟨e, od, rfl, he, q⟩ := h
    refine ⟨_, (pss_cons (ps_set (i := 1) scNa.nd rfl (Or.inl rfl) (pe_lst pa_nil)) (pss_cons (ps_if (pt_val (pe_callB (call_isexc N.i0) (by rfl) T.isi PyProof.Rows.boot_isinstance (pa_cons (pv 0) (pa_cons (pe_glob (by rfl) N.m0 (show RelV (.ref NI) (.ref NI) from rfl)) pa_nil)))) (pss_one (ps_expr (pe_bm PySem.F.plainAttrs_list PySem.F.slot_list_append PySem.F.type_list_append mt_append (pv 1) (pa_cons pe_str pa_nil)))) pss_nil) (pss_cons (ps_if (pt_val (pe_callB (call_isexc N.i1) (by rfl) T.isi PyProof.Rows.boot_isinstance (pa_cons (pv 0) (pa_cons (pe_glob (by rfl) N.m1 (show RelV (.ref NS) (.ref NS) from rfl)) pa_nil)))) (pss_one (ps_expr (pe_bm PySem.F.plainAttrs_list PySem.F.slot_list_append PySem.F.type_list_append mt_append (pv 1) (pa_cons pe_str pa_nil)))) pss_nil) (pss_cons (ps_if (PW.pt (pw_or (pt_val (pe_callB (call_isexc N.i2) (by rfl) T.isi PyProof.Rows.boot_isinstance (pa_cons (pv 0) (pa_cons (pe_glob (by rfl) N.m2 (show RelV (.ref NP) (.ref NP) from rfl)) pa_nil)))) (pw_or (pt_val (pe_callB (call_isexc N.i3) (by rfl) T.isi PyProof.Rows.boot_isinstance (pa_cons (pv 0) (pa_cons (pe_glob (by rfl) N.m3 (show RelV (.ref NW) (.ref NW) from rfl)) pa_nil)))) (pw_or1 (pt_val (pe_callB (call_isexc N.i4) (by rfl) T.isi PyProof.Rows.boot_isinstance (pa_cons (pv 0) (pa_cons (pe_glob (by rfl) N.m4 (show RelV (.ref FA) (.ref FA) from rfl)) pa_nil)))))))) (pss_one (ps_expr (pe_bm PySem.F.plainAttrs_list PySem.F.slot_list_append PySem.F.type_list_append mt_append (pv 1) (pa_cons pe_str pa_nil)))) pss_nil) (pss_cons (ps_if (pt_val (pe_callB (call_isexc N.iv) (by rfl) T.isi PyProof.Rows.boot_isinstance (pa_cons (pv 0) (pa_cons (pe_bltn (by rfl) N.vae PyProof.Rows.Boot.«ValueError» (show RelV (.ty "ValueError") (.type "ValueError") from rfl)) pa_nil)))) (pss_one (ps_expr (pe_bm PySem.F.plainAttrs_list PySem.F.slot_list_append PySem.F.type_list_append mt_append (pv 1) (pa_cons pe_str pa_nil)))) pss_nil) (pss_one (ps_ret (pv 1)))))))), ?_⟩
    refine ⟨by show 0 ≤ sizeLine; decide, fun l hl => ?_⟩
    have s1 := same_new (o := .lst []) hl
    have ne : e ≠ l := ne_of_none he hl
    have h1 := s1 _ _ he
    have z1 : upd H l (.lst []) l = some (.lst []) := upd_same
    generalize upd H l (.lst []) = H1 at *
    refine ⟨_, rfl, e, od, rfl, h1, _, rfl, iteT ⟨_, rfl, .inl ⟨rfl, _, SqL.of z1⟩, l, _, _, rfl, rfl, z1, by decide, ?_⟩⟩
    have s2 := s1.set (o := .lst ([] ++ [V.str "image"])) hl
    have h2 : upd H1 l (.lst ([] ++ [V.str "image"])) e = some (xob e (.ref NI) od) := by rw [upd_ne ne]; exact h1
    have z2 : upd H1 l (.lst ([] ++ [V.str "image"])) l = some (.lst [V.str "image"]) := upd_same
    generalize upd H1 l (.lst ([] ++ [V.str "image"])) = H2 at *
    refine ⟨_, rfl, e, od, rfl, h2, _, rfl, iteF ?_⟩
    refine ⟨_, rfl, e, od, rfl, h2, _, rfl, iteF ⟨_, rfl, e, od, rfl, h2, _, rfl, iteF ⟨_, rfl, e, od, rfl, h2, _, rfl, iteF ?_⟩⟩⟩
    refine ⟨_, rfl, e, od, rfl, h2, _, rfl, iteT ⟨_, rfl, .inl ⟨rfl, _, SqL.of z2⟩, l, _, _, rfl, rfl, z2, by show 1 < sizeLine; decide, ?_⟩⟩
    exact ⟨_, rfl, q l _ (s2.set hl) hl upd_same⟩
theorem ok_names1 {f : Addr} {fd : FuncData} (F : Fun K "_law_names" "_law_names" sNames f fd) (T : Txt K mg) (N : Kd K mg HE NS false true NI NS NP NW FA) : FnOkQ P w K mg base 1 f fd ["_law_e"] (spNames NS ssS) := by
  refine F.okQ scNa (fun vs H Q h => ?_) (fun cdv A outer s H vs Q hr h => ?_)
  · obtain ⟨e, od, rfl, _⟩ := h
    rfl
  · obtain ⟨e, od, rfl, he, q⟩ := h
    refine ⟨_, (pss_cons (ps_set (i := 1) scNa.nd rfl (Or.inl rfl) (pe_lst pa_nil)) (pss_cons (ps_if (pt_val (pe_callB (call_isexc N.i0) (by rfl) T.isi PyProof.Rows.boot_isinstance (pa_cons (pv 0) (pa_cons (pe_glob (by rfl) N.m0 (show RelV (.ref NI) (.ref NI) from rfl)) pa_nil)))) (pss_one (ps_expr (pe_bm PySem.F.plainAttrs_list PySem.F.slot_list_append PySem.F.type_list_append mt_append (pv 1) (pa_cons pe_str pa_nil)))) pss_nil) (pss_cons (ps_if (pt_val (pe_callB (call_isexc N.i1) (by rfl) T.isi PyProof.Rows.boot_isinstance (pa_cons (pv 0) (pa_cons (pe_glob (by rfl) N.m1 (show RelV (.ref NS) (.ref NS) from rfl)) pa_nil)))) (pss_one (ps_expr (pe_bm PySem.F.plainAttrs_list PySem.F.slot_list_append PySem.F.type_list_append mt_append (pv 1) (pa_cons pe_str pa_nil)))) pss_nil) (pss_cons (ps_if (PW.pt (pw_or (pt_val (pe_callB (call_isexc N.i2) (by rfl) T.isi PyProof.Rows.boot_isinstance (pa_cons (pv 0) (pa_cons (pe_glob (by rfl) N.m2 (show RelV (.ref NP) (.ref NP) from rfl)) pa_nil)))) (pw_or (pt_val (pe_callB (call_isexc N.i3) (by rfl) T.isi PyProof.Rows.boot_isinstance (pa_cons (pv 0) (pa_cons (pe_glob (by rfl) N.m3 (show RelV (.ref NW) (.ref NW) from rfl)) pa_nil)))) (pw_or1 (pt_val (pe_callB (call_isexc N.i4) (by rfl) T.isi PyProof.Rows.boot_isinstance (pa_cons (pv 0) (pa_cons (pe_glob (by rfl) N.m4 (show RelV (.ref FA) (.ref FA) from rfl)) pa_nil)))))))) (pss_one (ps_expr (pe_bm PySem.F.plainAttrs_list PySem.F.slot_list_append PySem.F.type_list_append mt_append (pv 1) (pa_cons pe_str pa_nil)))) pss_nil) (pss_cons (ps_if (pt_val (pe_callB (call_isexc N.iv) (by rfl) T.isi PyProof.Rows.boot_isinstance (pa_cons (pv 0) (pa_cons (pe_bltn (by rfl) N.vae PyProof.Rows.Boot.«ValueError» (show RelV (.ty "ValueError") (.type "ValueError") from rfl)) pa_nil)))) (pss_one (ps_expr (pe_bm PySem.F.plainAttrs_list PySem.F.slot_list_append PySem.F.type_list_append mt_append (pv 1) (pa_cons pe_str pa_nil)))) pss_nil) (pss_one (ps_ret (pv 1)))))))), ?_⟩
    refine ⟨by show 0 ≤ sizeLine; decide, fun l hl => ?_⟩
    have s1 := same_new (o := .lst []) hl
    have ne : e ≠ l := ne_of_none he hl
    have h1 := s1 _ _ he
    have z1 : upd H l (.lst []) l = some (.lst []) := upd_same
    generalize upd H l (.lst []) = H1 at *
    refine ⟨_, rfl, e, od, rfl, h1, _, rfl, iteF ?_⟩
    refine ⟨_, rfl, e, od, rfl, h1, _, rfl, iteT ⟨_, rfl, .inl ⟨rfl, _, SqL.of z1⟩, l, _, _, rfl, rfl, z1, by decide, ?_⟩⟩
    have s2 := s1.set (o := .lst ([] ++ [V.str "shelf"])) hl
    have h2 : upd H1 l (.lst ([] ++ [V.str "shelf"])) e = some (xob e (.ref NS) od) := by rw [upd_ne ne]; exact h1
    have z2 : upd H1 l (.lst ([] ++ [V.str "shelf"])) l = some (.lst [V.str "shelf"]) := upd_same
    generalize upd H1 l (.lst ([] ++ [V.str "shelf"])) = H2 at *
    refine ⟨_, rfl, e, od, rfl, h2, _, rfl, iteF ⟨_, rfl, e, od, rfl, h2, _, rfl, iteF ⟨_, rfl, e, od, rfl, h2, _, rfl, iteF ?_⟩⟩⟩
    refine ⟨_, rfl, e, od, rfl, h2, _, rfl, iteT ⟨_, rfl, .inl ⟨rfl, _, SqL.of z2⟩, l, _, _, rfl, rfl, z2, by show 1 < sizeLine; decide, ?_⟩⟩
    exact ⟨_, rfl, q l _ (s2.set hl) hl upd_same⟩
theorem scSh : FnScope ["_law_most", "_law_found", "_law_e"] ["_law_most"] (defScope sShR) := ⟨rfl, rfl, rfl, by decide +kernel, rfl, by decide +kernel, by decide +kernel⟩
theorem ok_shr {f f1 f3 : Addr} {fd fd1 fd3 : FuncData} (F : Fun K "_law_shelf_refused" "_law_shelf_refused" sShR f fd) (MK : Mk K SC f1) (mS : mg "Shelf" = some (.ref SC)) (BI : Binds K fd1 ["self", "most"] []) (GI : FnOk P w K mg base (CXr P w) 2 f1 fd1 ["self", "most"] (spSInitN SC NS)) (DK : Dn K mg "_law_names" sNames ["_law_e"] f3 fd3) (GK : FnOkQ P w K mg base 1 f3 fd3 ["_law_e"] (spNames2 NI NS)) (X1 : Kd K mg HE NS false true NI NS NP NW FA) : FnOk P w K mg base CX0 4 f fd ["_law_most"] spShR := by
  refine F.ok scSh (fun vs H Q E h' => ?_) (fun cdv A outer s H vs Q E hr h' => ?_)
  · obtain ⟨x, rfl, _⟩ := h'
    rfl
  · obtain ⟨x, rfl, th, bad, q0⟩ := h'
    have hr1 : Room 1 _ := hr.mono (by decide)
    refine ⟨_, (pss_cons (ps_set (i := 1) scSh.nd rfl (Or.inl rfl) (pe_lst pa_nil)) (pss_cons (ps_try (i := 2) scSh.nd rfl rfl rfl rfl X1.he (psx_expr (pex_make MK GI hr (by rfl) mS BI .nil (pa_cons (pv 0) pa_nil))) (fun e => pss_one (ps_set (i := 1) scSh.nd rfl (Or.inl rfl) (pe_callQ GK (RoomQ.of hr1 _) (by rfl) DK.m DK.F.kp DK.b (pa_cons (pv 2) pa_nil))))) (pss_one (ps_ret (pe_cmpR (op_eqD hr.units) (pv 1) (pe_lst (pa_cons pe_str (pa_cons pe_str pa_nil))) (nomark _)))))), ?_⟩
    refine ⟨by show 0 ≤ sizeLine; decide, fun l hl => ?_⟩
    have s1 := same_new (o := .lst []) hl
    have th := th.same s1
    generalize upd H l (.lst []) = H1 at *
    refine ⟨_, rfl, fun m dm hm0 hdm nem => ?_⟩
    have s2 : Same H1 (upd (upd H1 dm (.own m)) m (.ins SC dm [])) := (same_new hdm).trans (same_new (by rw [upd_ne nem.symm]; exact hm0))
    refine ⟨m, dm, x, rfl, upd_same, th.same s2, bad, X1.ex, fun e he => ⟨_, rfl, .inr ⟨e, none, rfl, upd_same, fun l2 H3 s3 _ z3 => ?_⟩⟩⟩
    have ss := s1.trans (s2.trans ((same_new he).trans s3))
    refine ⟨_, rfl, by show 2 ≤ sizeLine; decide, fun l4 hl4 => ⟨_, _, .lst (SqL.of (same_new hl4 _ _ z3)) (.cons (.str _) (.cons (.str _) .nil)), .lst (SqL.of upd_same) (.cons (.str _) (.cons (.str _) .nil)), by decide +kernel, by decide +kernel, ?_⟩⟩
    rw [ss_eq]
    exact q0 _ (ss.trans (same_new hl4))
theorem scRf : FnScope ["_law_pages_here", "_law_most", "_law_found", "_law_e"] ["_law_pages_here", "_law_most"] (defScope sRefd) := ⟨rfl, rfl, rfl, by decide +kernel, rfl, by decide +kernel, by decide +kernel⟩
theorem ok_refd {f f1 f3 : Addr} {fd fd1 fd3 : FuncData} (F : Fun K "_law_refused" "_law_refused" sRefd f fd) (MK : Mk K PL f1) (mP : mg "Plain" = some (.ref PL)) (BI : Binds K fd1 ["self", "pages", "most", "words"] []) (GI : FnOk P w K mg base (CXr P w) 8 f1 fd1 ["self", "pages", "most", "words"] (spPInitN PL NI NS)) (DK : Dn K mg "_law_names" sNames ["_law_e"] f3 fd3) (GK : FnOkQ P w K mg base 1 f3 fd3 ["_law_e"] (spNames2 NI NS)) (X0 : Kd K mg HE NI true false NI NS NP NW FA) (X1 : Kd K mg HE NS false true NI NS NP NW FA) : FnOk P w K mg base CX0 10 f fd ["_law_pages_here", "_law_most"] spRefd := by
  refine F.ok scRf (fun vs H Q E h' => ?_) (fun cdv A outer s H vs Q E hr h' => ?_)
  · obtain ⟨x, y, ss, rfl, _⟩ := h'
    rfl
  · obtain ⟨x, y, ss, rfl, hb, q0⟩ := h'
    have hr1 : Room 1 _ := hr.mono (by decide)
    refine ⟨_, (pss_cons (ps_set (i := 2) scRf.nd rfl (Or.inl rfl) (pe_lst pa_nil)) (pss_cons (ps_try (i := 3) scRf.nd rfl rfl rfl rfl X0.he (psx_expr (pex_make MK GI hr (by rfl) mP BI .nil (pa_cons (pv 0) (pa_cons (pv 1) (pa_cons (pe_lst pa_nil) pa_nil))))) (fun e => pss_one (ps_set (i := 2) scRf.nd rfl (Or.inl rfl) (pe_callQ GK (RoomQ.of hr1 _) (by rfl) DK.m DK.F.kp DK.b (pa_cons (pv 3) pa_nil))))) (pss_one (ps_ret (pv 2))))), ?_⟩
    refine ⟨by show 0 ≤ sizeLine; decide, fun l hl => ?_⟩
    have s1 := same_new (o := .lst []) hl
    generalize upd H l (.lst []) = H1 at *
    refine ⟨_, rfl, _, rfl, by show 0 ≤ sizeLine; decide, fun l2 hl2 => ?_⟩
    have s2 := s1.trans (same_new (o := .lst []) hl2)
    generalize upd H1 l2 (.lst []) = H2 at *
    refine fun m dm hm0 hdm nem => ?_
    have s0 : Same H2 (upd (upd H2 dm (.own m)) m (.ins PL dm [])) := (same_new hdm).trans (same_new (by rw [upd_ne nem.symm]; exact hm0))
    have s3 := s2.trans s0
    rcases hb with ⟨bad, rfl⟩ | ⟨p, ps, rfl, gp, hg, k1, k2, ty, bad, rfl⟩
    · refine .inl ⟨m, dm, x, y, _, rfl, upd_same, bad.same s3, fun H4 s4 => ⟨X0.ex, fun e he => ⟨_, rfl, .inl ⟨e, none, rfl, upd_same, fun l5 H5 s5 _ z5 => ⟨_, rfl, q0 l5 H5 ?_ z5⟩⟩⟩⟩⟩
      exact (s3.trans s4).trans ((same_new he).trans s5)
    · refine .inr ⟨m, dm, p, ps, y, _, rfl, upd_same, gp.same s3, hg, k1, k2, ty.same s3, bad, fun H4 b4 => ⟨X1.ex, fun e he => ⟨_, rfl, .inr ⟨e, none, rfl, upd_same, fun l5 H5 s5 _ z5 => ⟨_, rfl, q0 l5 H5 ?_ z5⟩⟩⟩⟩⟩
      exact (s2.trans (b4.same s0 hm0)).trans ((same_new he).trans s5)
end
end K23

end
section
set_option Elab.async false
set_option linter.all false
set_option maxRecDepth 100000
set_option maxHeartbeats 4000000
namespace K23
open PySem L2
structure Zt (mg : Str → Option Value) : Prop where
  tu : mg "tuple" = none
theorem cut_to {xs : List V} {i : Nat} (h : i ≤ xs.length) : cutV xs none (some (i : Int)) = xs.take i := by
  unfold cutV
  rw [HT.sIx_none, HT.sIx_nat, List.drop_zero, Nat.sub_zero, Nat.min_eq_left h]
theorem cut_from {xs : List V} {i : Nat} (h : i ≤ xs.length) : cutV xs (some (i : Int)) none = xs.drop i := by
  unfold cutV
  rw [HT.sIx_none, HT.sIx_nat, Nat.min_eq_left h, List.take_of_length_le (by rw [List.length_drop]; exact Nat.le_refl _)]
def w8 : List V := ([1, 2, 3, 4, 5, 6, 7, 8] : List Int).map V.int
theorem w8_th {v : V} (h : v ∈ w8) (H : Hp) : Th H v := by
  obtain ⟨i, _, rfl⟩ := List.mem_map.mp h
  exact .int i
theorem wr5 {k : Nat} (hk : k < 5) : ∃ x, atI [V.int (-1), V.int (2 ^ (48 : Int).toNat), V.bl true, V.non, V.str "1"] (k : Int) = some x ∧ (∀ H, Th H x) ∧ below x 281474976710656 = false := by
  rcases (show k = 0 ∨ k = 1 ∨ k = 2 ∨ k = 3 ∨ k = 4 by omega) with rfl | rfl | rfl | rfl | rfl
  · exact ⟨_, rfl, fun _ => .int _, below_neg⟩
  · exact ⟨_, rfl, fun _ => .int _, below_far (by decide)⟩
  · exact ⟨_, rfl, fun _ => .bl _, rfl⟩
  · exact ⟨_, rfl, fun _ => .non, rfl⟩
  · exact ⟨_, rfl, fun _ => .str _, rfl⟩
def spNoI : Sp := fun vs H Q _ => ∃ (D : Addr) (qs : Pgs) (c : Int), vs = [.ref D, .int c] ∧ Pg H D qs ∧ Good qs ∧ 1 ≤ qs.length ∧ qs.length ≤ 24 ∧ ∀ x H', Same H H' → BadI H' x → Q x H'
section
variable {P : Program} {w : World} {K : PySem.W.Frag} {mg : Str → Option Value} {base : Heap} {C NP NL NW NI SC PL WC FA : Addr}
theorem scNi : FnScope ["_law_pages_here", "_law_cell", "_law_way", "_law_page", "_law_words", "_law_wrong", "_law_at"] ["_law_pages_here", "_law_cell"] (defScope sNoI) := ⟨rfl, rfl, rfl, by decide +kernel, rfl, by decide +kernel, by decide +kernel⟩
theorem ok_noi {f : Addr} {fd : FuncData} (F : Fun K "_law_no_image" "_law_no_image" sNoI f fd) (T : Txt K mg) (Y : Zt mg) : FnOk P w K mg base CX0 1 f fd ["_law_pages_here", "_law_cell"] spNoI := by
  refine F.ok scNi (fun vs H Q E h' => ?_) (fun cdv A outer s H vs Q E hr h' => ?_)
  · obtain ⟨D, qs, c, rfl, _⟩ := h'
    rfl
  · obtain ⟨D, qs, c, rfl, g, hg, k1, k2, q0⟩ := h'
    obtain ⟨t4, R4, hR4⟩ : ∃ tr, PSs (cxOf CX0 P w K mg base ["_law_pages_here", "_law_cell", "_law_way", "_law_page", "_law_words", "_law_wrong", "_law_at"] "_law_no_image" (defScope sNoI) f cdv A outer s H E).nox ((defBody sNoI).drop 4) tr ∧ ∀ (H1 : Hp) (i : Nat) (y : V) (v2 v5 v6 : Option V), Same H H1 → i < qs.length → y ≠ .non → NotEight H1 y → tr { nx := fun _ H' => Q .non H', rt := Q } [some (.ref D), some (.int c), v2, some (.int i), some y, v5, v6] H1 := by
      have RT : PSsq (cxOf CX0 P w K mg base ["_law_pages_here", "_law_cell", "_law_way", "_law_page", "_law_words", "_law_wrong", "_law_at"] "_law_no_image" (defScope sNoI) f cdv A outer s H E).nox ((defBody sNoI).drop 4) _ := (pssq_one (psq_ret (peq_op op_cat (peq_op op_cat ⟨(pe_slice sl_list (pv 0) po_none (po_some (pv 3)))⟩ (peq_lst (paq_cons ⟨(pv 4)⟩ paq_nil))) ⟨(pe_slice sl_list (pv 0) (po_some (pe_op op_add (pv 3) pe_int)) po_none)⟩)))
      refine ⟨_, RT.h, fun H1 i y v2 v5 v6 ss hi hy hn => ?_⟩
      have g1 := g.same ss
      have pl : (qs.map pgV).length = qs.length := List.length_map ..
      refine ⟨_, rfl, _, rfl, (i : Int), rfl, D, _, rfl, SqL.of g1.top, fun l1 hl1 => ?_⟩
      rw [cut_to (i := i) (by omega)]
      have s1 := same_new (o := .lst ((qs.map pgV).take i)) hl1
      have z1 : upd H1 l1 (.lst ((qs.map pgV).take i)) l1 = some (.lst ((qs.map pgV).take i)) := upd_same
      generalize upd H1 l1 (.lst ((qs.map pgV).take i)) = H2 at *
      refine ⟨_, rfl, by show 1 ≤ sizeLine; decide, fun l2 hl2 => ?_⟩
      have s2 := same_new (o := .lst [y]) hl2
      refine ⟨l1, l2, _, _, rfl, rfl, s2 _ _ z1, upd_same, by rw [List.length_take]; exact Nat.le_trans (show min i (qs.map pgV).length + 1 ≤ 25 by omega) (by decide), fun l3 hl3 => ?_⟩
      have s3 := s2.trans (same_new (o := .lst ((qs.map pgV).take i ++ [y])) hl3)
      have z3 : upd (upd H2 l2 (.lst [y])) l3 (.lst ((qs.map pgV).take i ++ [y])) l3 = some (.lst ((qs.map pgV).take i ++ [y])) := upd_same
      generalize upd (upd H2 l2 (.lst [y])) l3 (.lst ((qs.map pgV).take i ++ [y])) = H3 at *
      refine ⟨_, rfl, _, rfl, (i : Int), 1, rfl, rfl, (i : Int) + 1, rfl, D, _, rfl, SqL.of (s3 _ _ (s1 _ _ g1.top)), fun l4 hl4 => ?_⟩
      rw [show (i : Int) + 1 = ((i + 1 : Nat) : Int) by omega, cut_from (i := i + 1) (by omega)]
      have s4 := same_new (o := .lst ((qs.map pgV).drop (i + 1))) hl4
      refine ⟨l3, l4, _, _, rfl, rfl, s4 _ _ z3, upd_same, by rw [List.length_append, List.length_take, List.length_drop]; exact Nat.le_trans (show min i (qs.map pgV).length + 1 + ((qs.map pgV).length - (i + 1)) ≤ 25 by omega) (by decide), fun l5 hl5 => ?_⟩
      have s5 := s4.trans (same_new (o := .lst ((qs.map pgV).take i ++ [y] ++ (qs.map pgV).drop (i + 1))) hl5)
      have s15 := s1.trans (s3.trans s5)
      have ll : ((qs.map pgV).take i ++ [y] ++ (qs.map pgV).drop (i + 1)).length = qs.length := by
        rw [List.length_append, List.length_append, List.length_take, List.length_drop, pl]
        show min i qs.length + 1 + (qs.length - (i + 1)) = qs.length
        omega
      have hpg : ∀ v ∈ qs.map pgV, PgOk H v := fun v hv => by
        obtain ⟨o, ho, rfl⟩ := List.mem_map.mp hv
        cases o with
        | none => exact .inl rfl
        | some t =>
          obtain ⟨p, ws⟩ := t
          obtain ⟨k, ek⟩ := List.getElem?_of_mem ho
          exact .inr ⟨p, ws, rfl, (g.each k p ws ek).1, hg k p ws ek⟩
      refine q0 _ _ (ss.trans s15) (.inr (.inr ⟨l5, _, rfl, upd_same, by rw [ll]; exact k1, by rw [ll]; exact k2, fun v hv => ?_, y, by simp, hy, hn.same s15⟩))
      rcases List.mem_append.mp hv with hv | hv
      · rcases List.mem_append.mp hv with hv | hv
        · exact .inl ((hpg v (List.mem_of_mem_take hv)).same (ss.trans s15))
        · rw [List.mem_singleton.mp hv]
          exact .inr ⟨hy, hn.same s15⟩
      · exact .inl ((hpg v (List.mem_of_mem_drop hv)).same (ss.trans s15))
    have RT : PSsq (cxOf CX0 P w K mg base ["_law_pages_here", "_law_cell", "_law_way", "_law_page", "_law_words", "_law_wrong", "_law_at"] "_law_no_image" (defScope sNoI) f cdv A outer s H E).nox (defBody sNoI) _ := pssq_cons (psq_setq (i := 2) scNi.nd rfl (Or.inl rfl) ⟨(pe_op op_mod (pe_op op_mod (pe_op op_mul (pv 1) pe_int) pe_int) pe_int)⟩) (pssq_cons (psq_setq (i := 3) scNi.nd rfl (Or.inl rfl) ⟨(pe_op op_mod (pe_op op_mod (pe_op op_mul (pv 1) pe_int) pe_int) (pe_callB call_len_seq (by rfl) T.len PySem.boot_len (pa_cons (pv 0) pa_nil)))⟩) (pssq_cons (psq_setq (i := 4) scNi.nd rfl (Or.inl rfl) (peq_ints (.cons (.cons (.cons (.cons (.cons (.cons (.cons (.cons .nil)))))))))) (pssq_cons (psq_if ⟨(pt_cmpR op_lt (pv 2) pe_int (nomark _))⟩ (pssq_cons (psq_setq (i := 5) scNi.nd rfl (Or.inl rfl) (peq_ix ix_list (peq_lst (paq_cons ⟨(pe_un un_neg pe_int)⟩ (paq_cons ⟨(pe_op op_pow pe_int pe_int)⟩ (paq_cons ⟨pe_bl⟩ (paq_cons ⟨pe_non⟩ (paq_cons ⟨pe_str⟩ paq_nil)))))) ⟨(pe_op op_mod (pv 2) pe_int)⟩ (fun _ _ => rfl))) (pssq_cons (psq_setq (i := 6) scNi.nd rfl (Or.inl rfl) ⟨(pe_op op_mod (pe_op op_mod (pe_op op_mul (pv 1) pe_int) pe_int) pe_int)⟩) (pssq_one (psq_setq (i := 4) scNi.nd rfl (Or.inl rfl) (peq_op op_cat (peq_op op_cat ⟨(pe_slice sl_list (pv 4) po_none (po_some (pv 6)))⟩ (peq_lst (paq_cons ⟨(pv 5)⟩ paq_nil))) ⟨(pe_slice sl_list (pv 4) (po_some (pe_op op_add (pv 6) pe_int)) po_none)⟩))))) (pssq_one (psq_if ⟨(pt_cmpR op_lt (pv 2) pe_int (nomark _))⟩ (pssq_one (psq_setq (i := 4) scNi.nd rfl (Or.inl rfl) (peq_ix ix_list (peq_lst (paq_cons ⟨(pe_slice sl_list (pv 4) po_none (po_some pe_int))⟩ (paq_cons (peq_op op_cat ⟨(pv 4)⟩ (peq_lst (paq_cons ⟨pe_int⟩ paq_nil))) (paq_cons ⟨(pe_callTy call_tuple_of (by rfl) Y.tu PyProof.Rows.boot_tuple (pa_cons (pv 4) pa_nil))⟩ (paq_cons ⟨pe_str⟩ paq_nil))))) ⟨(pe_op op_sub (pv 2) pe_int)⟩ (fun _ _ => rfl)))) (pssq_one (psq_if ⟨(pt_cmpR op_eq (pv 2) pe_int (nomark _))⟩ (pssq_one (psq_ret (peq_op op_rep (peq_lst (paq_cons ⟨(pv 4)⟩ paq_nil)) ⟨pe_int⟩))) (pssq_one (psq_ret (peq_ix ix_list (peq_lst (paq_cons (peq_lst paq_nil) (paq_cons ⟨(pe_callTy call_tuple_of (by rfl) Y.tu PyProof.Rows.boot_tuple (pa_cons (pv 0) pa_nil))⟩ (paq_cons ⟨pe_non⟩ (paq_cons ⟨pe_str⟩ (paq_cons ⟨pe_int⟩ paq_nil)))))) ⟨(pe_op op_mod (pe_op op_mod (pe_op op_mul (pv 1) pe_int) pe_int) pe_int)⟩ (fun _ _ => rfl))))))))) ⟨R4⟩)))
    refine PSsq.ex RT ?_
    refine ⟨_, rfl, c, 950706376, rfl, rfl, .inr ⟨by decide, by decide⟩, _, 2147483647, rfl, rfl, (by show (0 : Int) < 2147483647; decide), _, 16, rfl, rfl, (by show (0 : Int) < 16; decide), ?_⟩
    have a0 : 0 ≤ c * 950706376 % 2147483647 % 16 := Int.emod_nonneg _ (by decide)
    have a1 : c * 950706376 % 2147483647 % 16 < 16 := Int.emod_lt_of_pos _ (by decide)
    dsimp only
    generalize c * 950706376 % 2147483647 % 16 = wy at a0 a1 ⊢
    refine ⟨_, rfl, c, 742938285, rfl, rfl, .inr ⟨by decide, by decide⟩, _, 2147483647, rfl, rfl, (by show (0 : Int) < 2147483647; decide), _, rfl, D, _, rfl, .inl (SqL.of g.top), _, _, rfl, rfl, (by rw [List.length_map]; show (0 : Int) < (qs.length : Int); omega), ?_⟩
    dsimp only
    rw [List.length_map]
    have b0 : 0 ≤ c * 742938285 % 2147483647 % (qs.length : Int) := Int.emod_nonneg _ (by omega)
    have b1 : c * 742938285 % 2147483647 % (qs.length : Int) < qs.length := Int.emod_lt_of_pos _ (by omega)
    generalize c * 742938285 % 2147483647 % (qs.length : Int) = ii at b0 b1 ⊢
    obtain ⟨i, rfl⟩ : ∃ i : Nat, ii = (i : Int) := ⟨ii.toNat, by omega⟩
    refine ⟨by show 8 ≤ sizeLine; decide, fun wl hwl => ?_⟩
    have s1 := same_new (o := .lst w8) hwl
    have zw : upd H wl (.lst w8) wl = some (.lst w8) := upd_same
    show _
    generalize hH1 : upd H wl (.lst w8) = H1 at *
    have eH1 : upd H wl (.lst (([1, 2, 3, 4, 5, 6, 7, 8] : List Int).map V.int)) = H1 := hH1
    rw [eH1]
    have g1 := g.same s1
    refine ⟨_, rfl, wy, 10, rfl, rfl, _, rfl, ite2 (fun z => ?_) (fun z => ?_)⟩
    · obtain ⟨k, hk⟩ : ∃ k : Nat, wy % 5 = (k : Int) := ⟨(wy % 5).toNat, by omega⟩
      obtain ⟨x, hx, tx, bx⟩ := wr5 (k := k) (by omega)
      refine ⟨1, rfl, 2, 48, rfl, rfl, ⟨by decide, by decide, by decide⟩, by show 5 ≤ sizeLine; decide, fun l1 hl1 => ?_⟩
      have s2 := same_new (o := .lst [V.int (-1), V.int (2 ^ (48 : Int).toNat), V.bl true, V.non, V.str "1"]) hl1
      refine ⟨_, rfl, wy, 5, rfl, rfl, (by show (0 : Int) < 5; decide), l1, _, _, x, rfl, rfl, SqL.of upd_same, (by dsimp only; rw [hk]; exact hx), ?_⟩
      have zw2 := s2 _ _ zw
      generalize upd H1 l1 (.lst [V.int (-1), V.int (2 ^ (48 : Int).toNat), V.bl true, V.non, V.str "1"]) = H2 at *
      refine ⟨_, rfl, c, 1226874159, rfl, rfl, .inr ⟨by decide, by decide⟩, _, 2147483647, rfl, rfl, (by show (0 : Int) < 2147483647; decide), _, 8, rfl, rfl, (by show (0 : Int) < 8; decide), ?_⟩
      have c0 : 0 ≤ c * 1226874159 % 2147483647 % 8 := Int.emod_nonneg _ (by decide)
      have c1 : c * 1226874159 % 2147483647 % 8 < 8 := Int.emod_lt_of_pos _ (by decide)
      dsimp only
      generalize c * 1226874159 % 2147483647 % 8 = at0 at c0 c1 ⊢
      obtain ⟨j, rfl⟩ : ∃ j : Nat, at0 = (j : Int) := ⟨at0.toNat, by omega⟩
      have w8l : w8.length = 8 := rfl
      refine ⟨_, rfl, _, rfl, (j : Int), rfl, wl, _, rfl, SqL.of zw2, fun l2 hl2 => ?_⟩
      rw [cut_to (i := j) (by omega)]
      have s3 := same_new (o := .lst (w8.take j)) hl2
      have z3 : upd H2 l2 (.lst (w8.take j)) l2 = some (.lst (w8.take j)) := upd_same
      generalize upd H2 l2 (.lst (w8.take j)) = H3 at *
      refine ⟨_, rfl, by show 1 ≤ sizeLine; decide, fun l3 hl3 => ?_⟩
      have s4 := same_new (o := .lst [x]) hl3
      refine ⟨l2, l3, _, _, rfl, rfl, s4 _ _ z3, upd_same, by rw [List.length_take]; exact Nat.le_trans (show min j w8.length + 1 ≤ 25 by omega) (by decide), fun l4 hl4 => ?_⟩
      have s5 := s4.trans (same_new (o := .lst (w8.take j ++ [x])) hl4)
      have z5 : upd (upd H3 l3 (.lst [x])) l4 (.lst (w8.take j ++ [x])) l4 = some (.lst (w8.take j ++ [x])) := upd_same
      generalize upd (upd H3 l3 (.lst [x])) l4 (.lst (w8.take j ++ [x])) = H5 at *
      refine ⟨_, rfl, _, rfl, (j : Int), 1, rfl, rfl, (j : Int) + 1, rfl, wl, _, rfl, SqL.of (s5 _ _ (s3 _ _ zw2)), fun l6 hl6 => ?_⟩
      rw [show (j : Int) + 1 = ((j + 1 : Nat) : Int) by omega, cut_from (i := j + 1) (by omega)]
      have s6 := same_new (o := .lst (w8.drop (j + 1))) hl6
      refine ⟨l4, l6, _, _, rfl, rfl, s6 _ _ z5, upd_same, by rw [List.length_append, List.length_take, List.length_drop]; exact Nat.le_trans (show min j w8.length + 1 + (w8.length - (j + 1)) ≤ 25 by omega) (by decide), fun l7 hl7 => ?_⟩
      have s7 := s6.trans (same_new (o := .lst (w8.take j ++ [x] ++ w8.drop (j + 1))) hl7)
      refine hR4 _ i _ _ _ _ (s1.trans (s2.trans (s3.trans (s5.trans s7)))) (by omega) nofun (.inr (.inr ⟨l7, _, rfl, upd_same, ?_, fun v hv => ?_, x, by simp, bx⟩))
      · rw [List.length_append, List.length_append, List.length_take, List.length_drop]
        show min j w8.length + 1 + (w8.length - (j + 1)) = 8
        omega
      · rcases List.mem_append.mp hv with hv | hv
        · rcases List.mem_append.mp hv with hv | hv
          · exact w8_th (List.mem_of_mem_take hv) _
          · rw [List.mem_singleton.mp hv]
            exact tx _
        · exact w8_th (List.mem_of_mem_drop hv) _
    · have z1 : ¬ wy < 10 := fun y => z (decide_eq_true y)
      refine ⟨_, rfl, wy, 14, rfl, rfl, _, rfl, ite2 (fun z => ?_) (fun z => ?_)⟩
      · have z2 : wy < 14 := of_decide_eq_true z
        refine ⟨_, rfl, 7, rfl, wl, _, rfl, SqL.of zw, fun l1 hl1 => ?_⟩
        rw [show cutV w8 none (some 7) = w8.take 7 from cut_to (i := 7) (by decide)]
        have s2 := same_new (o := .lst (w8.take 7)) hl1
        have y1 : upd H1 l1 (.lst (w8.take 7)) l1 = some (.lst (w8.take 7)) := upd_same
        have zw2 := s2 _ _ zw
        generalize upd H1 l1 (.lst (w8.take 7)) = H2 at *
        refine ⟨_, rfl, by show 1 ≤ sizeLine; decide, fun l2 hl2 => ?_⟩
        have s3 := same_new (o := .lst [V.int 0]) hl2
        refine ⟨wl, l2, _, _, rfl, rfl, s3 _ _ zw2, upd_same, by decide, fun l3 hl3 => ?_⟩
        have s4 := s3.trans (same_new (o := .lst (w8 ++ [V.int 0])) hl3)
        have y2 : upd (upd H2 l2 (.lst [V.int 0])) l3 (.lst (w8 ++ [V.int 0])) l3 = some (.lst (w8 ++ [V.int 0])) := upd_same
        have y1 := s4 _ _ y1
        have zw3 := s4 _ _ zw2
        generalize upd (upd H2 l2 (.lst [V.int 0])) l3 (.lst (w8 ++ [V.int 0])) = H4 at *
        refine ⟨_, rfl, wl, _, rfl, .inl ⟨SqL.of zw3, fun t ht => ?_⟩⟩
        have s5 := same_new (o := .tup w8) ht
        have y3 : upd H4 t (.tup w8) t = some (.tup w8) := upd_same
        have y1 := s5 _ _ y1
        have y2 := s5 _ _ y2
        generalize upd H4 t (.tup w8) = H5 at *
        refine ⟨by show 4 ≤ sizeLine; decide, fun l6 hl6 => ?_⟩
        have s6 := same_new (o := .lst [V.ref l1, V.ref l3, V.ref t, V.str "12345678"]) hl6
        obtain ⟨k, hk⟩ : ∃ k : Nat, wy - 10 = (k : Int) := ⟨(wy - 10).toNat, by omega⟩
        obtain ⟨y, hat, hy, hn⟩ : ∃ y, atI [V.ref l1, V.ref l3, V.ref t, V.str "12345678"] (k : Int) = some y ∧ y ≠ .non ∧ NotEight (upd H5 l6 (.lst [V.ref l1, V.ref l3, V.ref t, V.str "12345678"])) y := by
          rcases (show k = 0 ∨ k = 1 ∨ k = 2 ∨ k = 3 by omega) with rfl | rfl | rfl | rfl
          · exact ⟨_, rfl, nofun, .inr (.inl ⟨l1, _, rfl, s6 _ _ y1, by decide⟩)⟩
          · exact ⟨_, rfl, nofun, .inr (.inl ⟨l3, _, rfl, s6 _ _ y2, by decide⟩)⟩
          · refine ⟨_, rfl, nofun, .inl ⟨.tup (s6 _ _ y3), ?_⟩⟩
            unfold isLst
            dsimp only
            rw [s6 _ _ y3]
          · exact ⟨_, rfl, nofun, .inl ⟨.str _, rfl⟩⟩
        refine ⟨_, rfl, wy, 10, rfl, rfl, l6, _, _, y, rfl, rfl, SqL.of upd_same, (by rw [hk]; exact hat), ?_⟩
        exact hR4 _ i _ _ _ _ (s1.trans (s2.trans (s4.trans (s5.trans s6)))) (by omega) hy hn
      · refine ⟨_, rfl, rfl, _, rfl, ite2 (fun _ => ?_) (fun _ => ?_)⟩
        · refine ⟨_, rfl, by show 1 ≤ sizeLine; decide, fun l1 hl1 => ?_⟩
          have s2 := same_new (o := .lst [V.ref wl]) hl1
          refine ⟨l1, 25, _, rfl, rfl, upd_same, by decide, by decide, (by show 1 * (25 : Nat) ≤ sizeLine; decide), fun p hp => ?_⟩
          have hl25 : (List.replicate (25 : Int).toNat [V.ref wl]).flatten.length = 25 := rfl
          generalize (List.replicate (25 : Int).toNat [V.ref wl]).flatten = X25 at *
          exact q0 _ _ (s1.trans (s2.trans (same_new hp))) (.inr (.inl ⟨p, X25, rfl, upd_same, .inr (by rw [hl25]; decide), by rw [hl25]; decide⟩))
        · refine ⟨by show 0 ≤ sizeLine; decide, fun l1 hl1 => ?_⟩
          have s2 := same_new (o := .lst []) hl1
          have y1 : upd H1 l1 (.lst []) l1 = some (.lst []) := upd_same
          generalize upd H1 l1 (.lst []) = H2 at *
          refine ⟨_, rfl, D, _, rfl, .inl ⟨SqL.of (s2 _ _ g1.top), fun t ht => ?_⟩⟩
          have s3 := same_new (o := .tup (qs.map pgV)) ht
          have y2 : upd H2 t (.tup (qs.map pgV)) t = some (.tup (qs.map pgV)) := upd_same
          have y1 := s3 _ _ y1
          generalize upd H2 t (.tup (qs.map pgV)) = H3 at *
          refine ⟨by show 5 ≤ sizeLine; decide, fun l4 hl4 => ?_⟩
          have s4 := same_new (o := .lst [V.ref l1, V.ref t, V.non, V.str "", V.int 3]) hl4
          have c0 : 0 ≤ c * 1226874159 % 2147483647 % 5 := Int.emod_nonneg _ (by decide)
          have c1 : c * 1226874159 % 2147483647 % 5 < 5 := Int.emod_lt_of_pos _ (by decide)
          obtain ⟨k, hk, hk5⟩ : ∃ k : Nat, c * 1226874159 % 2147483647 % 5 = (k : Int) ∧ k < 5 := by
            generalize c * 1226874159 % 2147483647 % 5 = u at c0 c1
            exact ⟨u.toNat, by omega, by omega⟩
          clear c0 c1
          obtain ⟨y, hat, hb⟩ : ∃ y, atI [V.ref l1, V.ref t, V.non, V.str "", V.int 3] (k : Int) = some y ∧ BadI (upd H3 l4 (.lst [V.ref l1, V.ref t, V.non, V.str "", V.int 3])) y := by
            clear hk
            rcases (show k = 0 ∨ k = 1 ∨ k = 2 ∨ k = 3 ∨ k = 4 by omega) with rfl | rfl | rfl | rfl | rfl
            · exact ⟨_, rfl, .inr (.inl ⟨l1, _, rfl, s4 _ _ y1, .inl rfl, by decide⟩)⟩
            · refine ⟨_, rfl, .inl ⟨.tup (s4 _ _ y2), ?_⟩⟩
              unfold isLst
              dsimp only
              rw [s4 _ _ y2]
            · exact ⟨_, rfl, .inl ⟨.non, rfl⟩⟩
            · exact ⟨_, rfl, .inl ⟨.str _, rfl⟩⟩
            · exact ⟨_, rfl, .inl ⟨.int _, rfl⟩⟩
          refine ⟨_, rfl, c, 1226874159, rfl, rfl, .inr ⟨by decide, by decide⟩, _, 2147483647, rfl, rfl, (by show (0 : Int) < 2147483647; decide), _, 5, rfl, rfl, (by show (0 : Int) < 5; decide), l4, _, _, y, rfl, rfl, SqL.of upd_same, (by rw [hk]; exact hat), ?_⟩
          exact q0 _ _ (s1.trans (s2.trans (s3.trans s4))) hb
end
end K23

end
section
set_option Elab.async false
set_option linter.all false
set_option maxRecDepth 100000
set_option maxHeartbeats 4000000
namespace K23
open PySem L2
theorem Way.oth {C SC PL : Addr} {H : Hp} {a m h r q aw : Addr} {ps : Pgs} {n : Int} {rs : Rs} {bs : List Bool} {b : Int} (w : Way C SC PL H a m h r q aw ps n rs bs b) {x : Addr} {xs : List V} {o : HO} (e : H x = some (.lst xs)) (n1 : x ≠ aw) (n2 : ¬ At h ps x) : Way C SC PL (upd H x o) a m h r q aw ps n rs bs b := by
  obtain ⟨dx, fs, ea, f⟩ := w.ob
  obtain ⟨dm, em⟩ := w.M.ob
  obtain ⟨dr, fr, er, _⟩ := w.S.ob
  obtain ⟨kvs, eq, _⟩ := w.S.se
  refine ⟨⟨dx, fs, by rw [upd_ne (ne_of ea e nofun)]; exact ea, f⟩, ⟨⟨dm, by rw [upd_ne (ne_of em e nofun)]; exact em⟩, w.M.pg.keep fun b hb => upd_ne (fun z => n2 (z ▸ hb)), w.M.good, w.M.len⟩, w.S.but But.upd (ne_of er e nofun) (ne_of eq e nofun) (fun xs z => by rw [e] at z; cases z), by rw [upd_ne n1.symm]; exact w.an, w.nd⟩
structure Abv (K : PySem.W.Frag) (mg : Str → Option Value) (PL WC ST : Addr) : Prop where
  w1 : PySem.W.typeIn K (.ref WC) = some (.type "type")
  w2 : PySem.W.mroIn K WC (.type "object") = some true
  w3 : PySem.W.subIn K (.ref PL) (.ref WC) = some true
  s1 : PySem.W.typeIn K (.ref ST) = some (.type "type")
  s2 : PySem.W.mroIn K ST (.type "object") = some true
  s3 : PySem.W.subIn K (.ref PL) (.ref ST) = some true
  mw : mg "Ways" = some (.ref WC)
  ms : mg "Store" = some (.ref ST)
def InP (qs : Pgs) (p : Addr) : Prop := ∃ (i : Nat) (ws : List Int), qs[i]? = some (some (p, ws))
theorem InP.at {qs : Pgs} {p : Addr} (h : InP qs p) (D : Addr) : At D qs p := .inr h
def spGoo : Sp := fun vs H Q _ => ∃ (D : Addr) (qs : Pgs) (n : Int), vs = [.ref D, .int n] ∧ Pg H D qs ∧ Good qs ∧ 1 ≤ qs.length ∧ qs.length ≤ 24 ∧ 1 ≤ n ∧ n ≤ 12 ∧ ∀ H', Q (.bl true) H'
def spLaw (K : PySem.W.Frag) : Sp := fun vs H Q _ => ∃ (a : Addr) (ns : List Int), vs = [.ref a] ∧ SqL K H a (ns.map V.int) ∧ ns.length ≤ 63 ∧ ∀ H', Q (.bl true) H'
theorem pgv_in {qs : Pgs} {v : V} (h : v ∈ qs.map pgV) : v = .non ∨ ∃ p, v = .ref p ∧ InP qs p := by
  obtain ⟨o, ho, rfl⟩ := List.mem_map.mp h
  cases o with
  | none => exact .inl rfl
  | some t =>
    obtain ⟨k, ek⟩ := List.getElem?_of_mem ho
    exact .inr ⟨t.1, rfl, k, t.2, ek⟩
theorem odd10 {H : Hp} {l t : Addr} {k : Nat} (hk : k < 10) (zl : H l = some (.lst [.int 3])) (zt : H t = some (.tup [.int 1])) : ∃ x, atI [V.int 0, V.int 13, V.int (-1), V.bl true, V.bl false, V.non, V.str "3", V.ref l, V.int (10 ^ (30 : Int).toNat), V.ref t] (k : Int) = some x ∧ Th H x ∧ goodM x = false := by
  rcases (show k = 0 ∨ k = 1 ∨ k = 2 ∨ k = 3 ∨ k = 4 ∨ k = 5 ∨ k = 6 ∨ k = 7 ∨ k = 8 ∨ k = 9 by omega) with rfl | rfl | rfl | rfl | rfl | rfl | rfl | rfl | rfl | rfl
  · exact ⟨_, rfl, .int _, by decide⟩
  · exact ⟨_, rfl, .int _, by decide⟩
  · exact ⟨_, rfl, .int _, by decide⟩
  · exact ⟨_, rfl, .bl _, rfl⟩
  · exact ⟨_, rfl, .bl _, rfl⟩
  · exact ⟨_, rfl, .non, rfl⟩
  · exact ⟨_, rfl, .str _, rfl⟩
  · exact ⟨_, rfl, .lst zl, rfl⟩
  · exact ⟨_, rfl, .int _, by decide⟩
  · exact ⟨_, rfl, .tup zt, rfl⟩
section
variable {P : Program} {w : World} {K : PySem.W.Frag} {mg : Str → Option Value} {base : Heap} {C NP NL NW NI NS SC PL WC ST FA HE : Addr}
theorem scGo : FnScope ["_law_pages_here", "_law_most", "_law_handed", "_law_way", "_law_first", "_law_part"] ["_law_pages_here", "_law_most"] (defScope sGoo) := ⟨rfl, rfl, rfl, by decide +kernel, rfl, by decide +kernel, by decide +kernel⟩
theorem ok_goo {f f0 f1 f2 f3 f4 f5 f6 f7 : Addr} {fd fd0 fd1 fd2 fd3 fd4 fd5 fd6 fd7 : FuncData} (F : Fun K "_law_good" "_law_good" sGoo f fd) (D1 : Dn K mg "_law_copy" sCopy ["_law_pages_here"] f1 fd1) (G1 : FnOk P w K mg base CX0 1 f1 fd1 ["_law_pages_here"] spCopy) (D2 : Dn K mg "_law_whole" sLWhole ["_law_found"] f2 fd2) (G2 : FnOk P w K mg base CX0 1 f2 fd2 ["_law_found"] spWhole) (D3 : Dn K mg "_law_is_image" sIsI ["_law_found", "_law_due"] f3 fd3) (G3 : FnOk P w K mg base CX0 2 f3 fd3 ["_law_found", "_law_due"] spIsI) (M1 : Me K PL "size" "Plain.size" sPSize ["self"] f4 fd4) (GM1 : FnOk P w K mg base CX0 2 f4 fd4 ["self"] (spPSize C SC PL)) (M2 : Me K PL "root" "Ways.root" sRoot ["self"] f5 fd5) (GM2 : FnOk P w K mg base CX0 1 f5 fd5 ["self"] (spRoot C SC PL)) (M3 : Me K PL "shelf" "Ways.shelf" sShelf ["self"] f6 fd6) (GM3 : FnOk P w K mg base CX0 2 f6 fd6 ["self"] (spShelf C SC PL)) (M4 : Me K PL "pages" "Ways.pages" sWPages ["self"] f7 fd7) (GM4 : FnOk P w K mg base CX0 5 f7 fd7 ["self"] (spWPages C SC PL)) (MK : Mk K PL f0) (mP : mg "Plain" = some (.ref PL)) (BI : Binds K fd0 ["self", "pages", "most", "words"] []) (GI : FnOk P w K mg base CX0 8 f0 fd0 ["self", "pages", "most", "words"] (spPInit C SC PL)) (PC : Plc K PL) (IS : Abv K mg PL WC ST) (T : Txt K mg) : FnOk P w K mg base CX0 10 f fd ["_law_pages_here", "_law_most"] spGoo := by
  refine F.ok scGo (fun vs H Q E h' => ?_) (fun cdv A1 outer s H vs Q E hr h' => ?_)
  · obtain ⟨D, qs, n, rfl, _⟩ := h'
    rfl
  · obtain ⟨D, qs, n, rfl, gD, hg, k1, k2, n1, n2, q0⟩ := h'
    have hr5 : Room 5 _ := hr.mono (by decide)
    have hr2 : Room 2 _ := hr.mono (by decide)
    have hr1 : Room 1 _ := hr.mono (by decide)
    refine ⟨_, (pss_cons (ps_set (i := 2) scGo.nd rfl (Or.inl rfl) (pe_call G1 hr1 (by rfl) D1.m D1.F.kp D1.b .nil pass0 (pa_cons (pv 0) pa_nil))) (pss_cons (ps_set (i := 3) scGo.nd rfl (Or.inl rfl) (pe_make MK GI hr (by rfl) mP BI .nil pass0 (pa_cons (pv 2) (pa_cons (pv 1) (pa_cons (pe_lst pa_nil) pa_nil))))) (pss_cons (ps_if (PW.pt (pw_or (pt_cmpR (op_neD hr.units) (pv 2) (pv 0) (nomark _)) (pw_or (pt_not (pt_val (pe_callB (call_isins IS.w1 IS.w2 IS.w3) (by rfl) T.isi PyProof.Rows.boot_isinstance (pa_cons (pv 3) (pa_cons (pe_glob (by rfl) IS.mw (show RelV (.ref WC) (.ref WC) from rfl)) pa_nil))))) (pw_or1 (pt_not (pt_val (pe_callB (call_isins IS.s1 IS.s2 IS.s3) (by rfl) T.isi PyProof.Rows.boot_isinstance (pa_cons (pv 3) (pa_cons (pe_glob (by rfl) IS.ms (show RelV (.ref ST) (.ref ST) from rfl)) pa_nil))))))))) (pss_one (ps_ret pe_bl)) pss_nil) (pss_cons (ps_if (PW.pt (pw_or (pt_not (pt_val (pe_call G2 hr1 (by rfl) D2.m D2.F.kp D2.b .nil pass0 (pa_cons (pe_meth0 (pv 3) PC.cl M1.m GM1 hr2 M1.b .nil pass0) pa_nil)))) (pw_or (pt_cmpR op_ne (pe_meth0 (pv 3) PC.cl M1.m GM1 hr2 M1.b .nil pass0) (pe_callB call_len_seq (by rfl) T.len PySem.boot_len (pa_cons (pv 0) pa_nil)) (nomark _)) (pw_or (pt_cmpR op_ne (pe_meth0 (pv 3) PC.cl M2.m GM2 hr1 M2.b .nil pass0) pe_int (nomark _)) (pw_or1 (pt_cmpR (op_neD hr.units) (pe_meth0 (pv 3) PC.cl M3.m GM3 hr2 M3.b .nil pass0) (pe_lst pa_nil) (nomark _))))))) (pss_one (ps_ret pe_bl)) pss_nil) (pss_cons (ps_set (i := 4) scGo.nd rfl (Or.inl rfl) (pe_meth0 (pv 3) PC.cl M4.m GM4 hr5 M4.b .nil pass0)) (pss_cons (ps_if (pt_not (pt_val (pe_call G3 hr2 (by rfl) D3.m D3.F.kp D3.b .nil pass0 (pa_cons (pv 4) (pa_cons (pv 0) pa_nil))))) (pss_one (ps_ret pe_bl)) pss_nil) (pss_cons (ps_for PassesOwn.never rfl (pi_list (pe_op op_cat (pv 2) (pv 4))) (pg_name (i := 5) scGo.nd rfl (Or.inl rfl)) (pss_one (ps_if (pt_cmpR op_notN (pv 5) pe_non (nomark _)) (pss_one (ps_asg pe_int (pg_sub (pv 5) pe_int set_list))) pss_nil))) (pss_cons (ps_expr (pe_bm PySem.F.plainAttrs_list PySem.F.slot_list_append PySem.F.type_list_append mt_append (pv 2) (pa_cons pe_non pa_nil))) (pss_cons (ps_expr (pe_bm PySem.F.plainAttrs_list PySem.F.slot_list_append PySem.F.type_list_append mt_append (pv 4) (pa_cons pe_non pa_nil))) (pss_one (ps_ret (pe_call G3 hr2 (by rfl) D3.m D3.F.kp D3.b .nil pass0 (pa_cons (pe_meth0 (pv 3) PC.cl M4.m GM4 hr5 M4.b .nil pass0) (pa_cons (pv 0) pa_nil)))))))))))))), ?_⟩
    refine ⟨_, rfl, D, qs, rfl, gD, by omega, fun Dh H1 hs s1 g1 c1 f1 => ?_⟩
    have hsl := cont_len c1
    refine ⟨_, rfl, _, rfl, by show 0 ≤ sizeLine; decide, fun l2 hl2 => ?_⟩
    have s2 := same_new (o := .lst []) hl2
    have z2 : upd H1 l2 (.lst []) l2 = some (.lst (([] : List Bool).map V.bl)) := upd_same
    have g2 := g1.same s2
    generalize upd H1 l2 (.lst []) = H2 at *
    refine fun a dx ha hdx ne => ?_
    have s0 : Same H2 (upd (upd H2 dx (.own a)) a (.ins PL dx [])) := (same_new hdx).trans (same_new (by rw [upd_ne ne.symm]; exact ha))
    refine ⟨a, dx, Dh, l2, hs, n, [], rfl, upd_same, g2.same s0, good_cont c1 hg, by omega, by omega, n1, n2, s0 _ _ z2, fun m h r q aw H4 ps b4 W4 c4 f4 => ⟨rfl, ?_⟩⟩
    have s24 : Same H2 H4 := b4.same s0 ha
    have g4 := g2.same s24
    have d4 := gD.same ((s1.trans s2).trans s24)
    have psl := cont_len c4
    -- what is not the way's
    have nW : ∀ b o, H2 b = some o → b ≠ aw ∧ ¬ At h ps b := fun b o e => by
      refine ⟨fun z => ?_, fun z => ?_⟩
      · have := f4 aw (.inr (.inr (.inr (.inl rfl)))); rw [← z, s0 _ _ e] at this; cases this
      · have := f4 b (.inr (.inr (.inr (.inr z)))); rw [s0 _ _ e] at this; cases this
    have hsn : ∀ b, At Dh hs b → ¬ At D qs b := fun b x y => by
      obtain ⟨u, z⟩ := gD.at y
      rw [f1 b x] at z
      cases z
    refine ⟨_, rfl, _, rfl, _, _, datPg g4, datPg d4, shapedC _, shapedC _, _, rfl, iteFS (by show (!PyData.eqv (dC (cont hs)) (dC (cont qs))) = false; rw [c1, eqvC]; rfl) ?_⟩
    obtain ⟨dxa, fsa, haa, wfa⟩ := W4.ob
    refine ⟨_, rfl, a, dxa, fsa, rfl, haa, _, rfl, iteF ⟨_, rfl, a, dxa, fsa, rfl, haa, _, rfl, iteF ?_⟩⟩
    obtain ⟨dx, fs, ha, wf⟩ := W4.ob
    refine ⟨_, rfl, a, dx, fs, rfl, ha, wf.no _ (by decide +kernel) (by decide +kernel) (by decide +kernel) (by decide +kernel), a, m, h, r, q, aw, ps, n, [], [], 0, rfl, W4, _, rfl, .int _, _, rfl, iteF ?_⟩
    refine ⟨_, rfl, a, dx, fs, rfl, ha, wf.no _ (by decide +kernel) (by decide +kernel) (by decide +kernel) (by decide +kernel), a, m, h, r, q, aw, ps, n, [], [], 0, rfl, W4, _, rfl, D, _, rfl, .inl (SqL.of d4.top), rfl, _, rfl, iteFS (by show (!decide (V.int (ps.length : Int) = V.int ((qs.map pgV).length : Int))) = false; rw [List.length_map, psl, hsl, decide_eq_true rfl]; rfl) ?_⟩
    refine ⟨_, rfl, a, dx, fs, rfl, ha, wf.no _ (by decide +kernel) (by decide +kernel) (by decide +kernel) (by decide +kernel), a, m, h, r, q, aw, ps, n, [], [], 0, rfl, W4, rfl, _, rfl, iteFS rfl ⟨_, rfl, a, dx, fs, rfl, ha, wf.no _ (by decide +kernel) (by decide +kernel) (by decide +kernel) (by decide +kernel), a, m, h, r, q, aw, ps, n, [], [], 0, rfl, W4, fun l5 H5 s5 hl5 tl => ⟨by show 0 ≤ sizeLine; decide, fun l6 hl6 => ?_⟩⟩⟩
    obtain ⟨ys, ey, tr⟩ := tl.ls
    cases tr
    refine ⟨.list [], .list [], .lst (SqL.of (same_new hl6 _ _ ey)) .nil, .lst (SqL.of upd_same) .nil, rfl, rfl, _, rfl, iteFS rfl ?_⟩
    have s6 := s5.trans (same_new (o := .lst []) hl6)
    have W6 := W4.same s6
    have g6 := g4.same s6
    have d6 := d4.same s6
    generalize upd H5 l6 (.lst []) = H6 at *
    clear W4 g4 d4
    obtain ⟨dx, fs, ha, wf⟩ := W6.ob
    refine ⟨_, rfl, a, dx, fs, rfl, ha, wf.no _ (by decide +kernel) (by decide +kernel) (by decide +kernel) (by decide +kernel), a, m, h, r, q, aw, ps, n, [], [], 0, rfl, W6, fun Df H7 ws7 s7 g7 c7 f7 => ?_⟩
    have W7 := W6.same s7
    have gh := g6.same s7
    have gd := d6.same s7
    have c7q : cont ws7 = cont qs := c7.trans (c4.trans c1)
    have wsl := cont_len c7
    refine ⟨_, rfl, _, rfl, Df, D, ws7, qs, rfl, g7, gd, good_cont c7q hg, c7q, by omega, _, rfl, iteF ?_⟩
    refine ⟨_, rfl, _, rfl, Dh, Df, _, _, rfl, rfl, gh.top, g7.top, by rw [List.length_map, List.length_map]; exact Nat.le_trans (show hs.length + ws7.length ≤ 100 by omega) (by decide), fun ll hll => ?_⟩
    have s8 := same_new (o := .lst (hs.map pgV ++ ws7.map pgV)) hll
    have zll : upd H7 ll (.lst (hs.map pgV ++ ws7.map pgV)) ll = some (.lst (hs.map pgV ++ ws7.map pgV)) := upd_same
    have W8 := W7.same s8
    have gh8 := gh.same s8
    have gf8 := g7.same s8
    have gd8 := gd.same s8
    have apart : ∀ p, (InP hs p ∨ InP ws7 p) → p ≠ aw ∧ ¬ At h ps p ∧ ¬ At D qs p ∧ p ≠ Dh ∧ p ≠ Df ∧ p ≠ ll := fun p hp => by
      have ex6 : ∀ b, At h ps b ∨ At D qs b ∨ At Dh hs b ∨ b = aw → ∃ o, H6 b = some o := fun b hb => by
        rcases hb with x | x | x | x
        · exact W6.M.pg.at x
        · exact d6.at x
        · exact g6.at x
        · exact ⟨_, x ▸ W6.an⟩
      have ex7 : ∃ o, H7 p = some o := by
        rcases hp with x | x
        · exact gh.at (x.at Dh)
        · exact g7.at (x.at Df)
      have nll : p ≠ ll := fun z => by
        obtain ⟨o, y⟩ := ex7
        rw [z, hll] at y
        cases y
      rcases hp with x | x
      · obtain ⟨o, y⟩ := g2.at (x.at Dh)
        obtain ⟨n1, n2⟩ := nW p o y
        refine ⟨n1, n2, hsn p (x.at Dh), ?_, fun z => ?_, nll⟩
        · obtain ⟨i, ws, e⟩ := x
          exact (g2.each i p ws e).2
        · obtain ⟨o, y⟩ := ex6 p (.inr (.inr (.inl (x.at Dh))))
          rw [z, f7 Df (.inl rfl)] at y
          cases y
      · have fr : ∀ b, (∃ o, H6 b = some o) → p ≠ b := fun b ⟨o, y⟩ z => by rw [← z, f7 p (x.at Df)] at y; cases y
        refine ⟨fr aw (ex6 aw (.inr (.inr (.inr rfl)))), fun y => fr p (ex6 p (.inl y)) rfl, fun y => fr p (ex6 p (.inr (.inl y))) rfl, fr Dh (ex6 Dh (.inr (.inr (.inl (.inl rfl))))), ?_, nll⟩
        obtain ⟨i, ws, e⟩ := x
        exact (g7.each i p ws e).2
    have p8 : ∀ p, (InP hs p ∨ InP ws7 p) → ∃ xs, upd H7 ll (.lst (hs.map pgV ++ ws7.map pgV)) p = some (.lst xs) ∧ xs.length = 8 := fun p hp => by
      rcases hp with ⟨i, ws, e⟩ | ⟨i, ws, e⟩
      · exact ⟨_, (gh8.each i p ws e).1, by rw [List.length_map]; exact (good_cont c1 hg i p ws e).1⟩
      · exact ⟨_, (gf8.each i p ws e).1, by rw [List.length_map]; exact (good_cont c7q hg i p ws e).1⟩
    have th8 := gh8.top
    have tf8 := gf8.top
    generalize upd H7 ll (.lst (hs.map pgV ++ ws7.map pgV)) = H8 at *
    have nDf : Df ≠ Dh := fun z => by
      have y := g6.top
      rw [← z, f7 Df (.inl rfl)] at y
      cases y
    refine ⟨ll, rfl, ⟨_, SqL.of zll⟩, for_list (K := K) (a := ll) (xs := hs.map pgV ++ ws7.map pgV) (fun i σ H' => (∃ v, σ = [some (.ref D), some (.int n), some (.ref Dh), some (.ref a), some (.ref Df), v]) ∧ Way C SC PL H' a m h r q aw ps n [] [] 0 ∧ Pg H' D qs ∧ H' Dh = some (.lst (hs.map pgV)) ∧ H' Df = some (.lst (ws7.map pgV)) ∧ H' ll = some (.lst (hs.map pgV ++ ws7.map pgV)) ∧ ∀ p, (InP hs p ∨ InP ws7 p) → ∃ xs, H' p = some (.lst xs) ∧ xs.length = 8) ?_ ?_ ?_ ?_⟩
    · exact ⟨⟨_, rfl⟩, W8, gd8, th8, tf8, zll, p8⟩
    · rintro i σ H' _ ⟨_, _, _, _, _, z, _⟩
      exact SqL.of z
    · rintro i x σ H' hi ⟨⟨v, rfl⟩, W, gq, th, tf, zl, pp⟩
      have hx : x = .non ∨ ∃ p, x = .ref p ∧ (InP hs p ∨ InP ws7 p) := by
        rcases List.mem_append.mp (List.mem_of_getElem? hi) with y | y
        · rcases pgv_in y with y | ⟨p, y1, y2⟩
          · exact .inl y
          · exact .inr ⟨p, y1, .inl y2⟩
        · rcases pgv_in y with y | ⟨p, y1, y2⟩
          · exact .inl y
          · exact .inr ⟨p, y1, .inr y2⟩
      rcases hx with rfl | ⟨p, rfl, hp⟩
      · exact ⟨_, rfl, rfl, _, rfl, iteFS rfl ⟨⟨_, rfl⟩, W, gq, th, tf, zl, pp⟩⟩
      · obtain ⟨xs, ex, xl⟩ := pp p hp
        obtain ⟨a1, a2, a3, a4, a5, a6⟩ := apart p hp
        refine ⟨_, rfl, rfl, _, rfl, iteTS (by show (!decide (V.ref p = V.non)) = true; rw [decide_eq_false nofun]; rfl) ⟨_, rfl, p, xs, 0, 0, rfl, rfl, ex, ixN_nat (j := 0) (by omega), ⟨_, rfl⟩, W.oth ex a1 a2, gq.keep fun b hb => upd_ne (fun z => a3 (z ▸ hb)), by rw [upd_ne a4.symm]; exact th, by rw [upd_ne a5.symm]; exact tf, by rw [upd_ne a6.symm]; exact zl, fun p2 hp2 => ?_⟩⟩
        by_cases e2 : p2 = p
        · exact ⟨_, by rw [e2]; exact upd_same, by rw [List.length_set]; exact xl⟩
        · rw [upd_ne e2]
          exact pp p2 hp2
    · rintro σ H9 ⟨⟨v, rfl⟩, W, gq, th, tf, zl, pp⟩
      have oDh : Dh ≠ aw ∧ ¬ At h ps Dh := nW Dh _ g2.top
      have oDf : ¬ At h ps Df ∧ Df ≠ aw := ⟨(fun y => by obtain ⟨o, z⟩ := W6.M.pg.at y; rw [f7 Df (.inl rfl)] at z; cases z), (fun y => by have z := W6.an; rw [← y, f7 Df (.inl rfl)] at z; cases z)⟩
      have qDh : ¬ At D qs Dh := hsn Dh (.inl rfl)
      have qDf : ¬ At D qs Df := fun y => by obtain ⟨o, z⟩ := d6.at y; rw [f7 Df (.inl rfl)] at z; cases z
      refine ⟨_, rfl, .inl ⟨rfl, _, SqL.of th⟩, Dh, _, _, rfl, rfl, th, by rw [List.length_map]; exact Nat.lt_of_lt_of_le (show hs.length < 25 by omega) (by decide), ?_⟩
      have WA := W.oth (o := .lst (hs.map pgV ++ [V.non])) th oDh.1 oDh.2
      have gA : Pg (upd H9 Dh (.lst (hs.map pgV ++ [V.non]))) D qs := gq.keep fun b hb => upd_ne (fun z => qDh (z ▸ hb))
      have tA : upd H9 Dh (.lst (hs.map pgV ++ [V.non])) Df = some (.lst (ws7.map pgV)) := by rw [upd_ne nDf]; exact tf
      generalize upd H9 Dh (.lst (hs.map pgV ++ [V.non])) = HA at *
      refine ⟨_, rfl, .inl ⟨rfl, _, SqL.of tA⟩, Df, _, _, rfl, rfl, tA, by rw [List.length_map]; exact Nat.lt_of_lt_of_le (show ws7.length < 25 by omega) (by decide), ?_⟩
      have WB := WA.oth (o := .lst (ws7.map pgV ++ [V.non])) tA oDf.2 oDf.1
      have gB : Pg (upd HA Df (.lst (ws7.map pgV ++ [V.non]))) D qs := gA.keep fun b hb => upd_ne (fun z => qDf (z ▸ hb))
      generalize upd HA Df (.lst (ws7.map pgV ++ [V.non])) = HB at *
      obtain ⟨dx, fs, ha, wf⟩ := WB.ob
      exact ⟨_, rfl, a, dx, fs, rfl, ha, wf.no _ (by decide +kernel) (by decide +kernel) (by decide +kernel) (by decide +kernel), a, m, h, r, q, aw, ps, n, [], [], 0, rfl, WB, fun Dx Hx qx sx gx cx fx => ⟨_, rfl, Dx, D, qx, qs, rfl, gx, gB.same sx, good_cont cx WB.M.good, cx.trans (c4.trans c1), by have := cont_len cx; have := WB.M.len; omega, q0 _⟩⟩
theorem scLa : FnScope ["_law_script", "_law_pages_here", "_law_most", "_law_none", "_law_wrong"] ["_law_script"] (defScope sLaw) := ⟨rfl, rfl, rfl, by decide +kernel, rfl, by decide +kernel, by decide +kernel⟩
theorem ok_law {f f1 f2 f3 f4 f5 f6 : Addr} {fd fd1 fd2 fd3 fd4 fd5 fd6 : FuncData} (F : Fun K "law" "law" sLaw f fd) (D1 : Dn K mg "_law_cell_at" sCell ["_law_script", "_law_k"] f1 fd1) (G1 : FnOk P w K mg base CX0 1 f1 fd1 ["_law_script", "_law_k"] (spCell K)) (D2 : Dn K mg "_law_pages" sPgs ["_law_script"] f2 fd2) (G2 : FnOk P w K mg base CX0 2 f2 fd2 ["_law_script"] (spPgs K)) (D3 : Dn K mg "_law_no_image" sNoI ["_law_pages_here", "_law_cell"] f3 fd3) (G3 : FnOk P w K mg base CX0 1 f3 fd3 ["_law_pages_here", "_law_cell"] spNoI) (D4 : Dn K mg "_law_shelf_refused" sShR ["_law_most"] f4 fd4) (G4 : FnOk P w K mg base CX0 4 f4 fd4 ["_law_most"] spShR) (D5 : Dn K mg "_law_refused" sRefd ["_law_pages_here", "_law_most"] f5 fd5) (G5 : FnOk P w K mg base CX0 10 f5 fd5 ["_law_pages_here", "_law_most"] spRefd) (D6 : Dn K mg "_law_good" sGoo ["_law_pages_here", "_law_most"] f6 fd6) (G6 : FnOk P w K mg base CX0 10 f6 fd6 ["_law_pages_here", "_law_most"] spGoo) (T : Txt K mg) : FnOk P w K mg base CX0 11 f fd ["_law_script"] (spLaw K) := by
  refine F.ok scLa (fun vs H Q E h => ?_) (fun cdv A1 outer s H vs Q E hr h => ?_)
  · obtain ⟨x, ns, rfl, _⟩ := h
    rfl
  · obtain ⟨x, sc, rfl, hS, _, q0⟩ := h
    have hr4 : Room 4 _ := hr.mono (by decide)
    have hr2 : Room 2 _ := hr.mono (by decide)
    have hr1 : Room 1 _ := hr.mono (by decide)
    obtain ⟨t3, R3, hR3⟩ : ∃ tr, PSs (cxOf CX0 P w K mg base ["_law_script", "_law_pages_here", "_law_most", "_law_none", "_law_wrong"] "law" (defScope sLaw) f cdv A1 outer s H E).nox ((defBody sLaw).drop 3) tr ∧ ∀ (H1 : Hp) (D : Addr) (qs : Pgs) (n : Int) (y : V), Same H H1 → Pg H1 D qs → Good qs → 1 ≤ qs.length → qs.length ≤ 24 → 1 ≤ n → n ≤ 12 → Th H1 y → goodM y = false → tr { nx := fun _ H' => Q .non H', rt := Q } [some (.ref x), some (.ref D), some (.int n), some y, none] H1 := by
      refine ⟨_, (pss_cons (ps_set (i := 4) scLa.nd rfl (Or.inl rfl) (pe_call G3 hr1 (by rfl) D3.m D3.F.kp D3.b .nil pass0 (pa_cons (pv 1) (pa_cons (pe_call G1 hr1 (by rfl) D1.m D1.F.kp D1.b .nil pass0 (pa_cons (pv 0) (pa_cons pe_int pa_nil))) pa_nil)))) (pss_cons (ps_if (PW.pt (pw_or (pt_not (pt_val (pe_call G4 hr4 (by rfl) D4.m D4.F.kp D4.b .nil pass0 (pa_cons (pv 3) pa_nil)))) (pw_or1 (pt_cmpR (op_neD hr.units) (pe_call G5 hr (by rfl) D5.m D5.F.kp D5.b .nil pass0 (pa_cons (pv 1) (pa_cons (pv 3) pa_nil))) (pe_lst (pa_cons pe_str (pa_cons pe_str pa_nil))) (nomark _))))) (pss_one (ps_ret pe_bl)) pss_nil) (pss_cons (ps_if (PW.pt (pw_or (pt_cmpR (op_neD hr.units) (pe_call G5 hr (by rfl) D5.m D5.F.kp D5.b .nil pass0 (pa_cons (pv 4) (pa_cons (pv 2) pa_nil))) (pe_lst (pa_cons pe_str (pa_cons pe_str pa_nil))) (nomark _)) (pw_or1 (pt_cmpR (op_neD hr.units) (pe_call G5 hr (by rfl) D5.m D5.F.kp D5.b .nil pass0 (pa_cons (pv 4) (pa_cons (pv 3) pa_nil))) (pe_lst (pa_cons pe_str (pa_cons pe_str pa_nil))) (nomark _))))) (pss_one (ps_ret pe_bl)) pss_nil) (pss_one (ps_ret (pe_call G6 hr (by rfl) D6.m D6.F.kp D6.b .nil pass0 (pa_cons (pv 1) (pa_cons (pv 2) pa_nil)))))))), fun H1 D qs n y ss gD hg k1 k2 n1 n2 ty by0 => ?_⟩
      refine ⟨_, rfl, _, rfl, x, sc, 3, rfl, ss.seq hS, D, qs, _, rfl, gD, hg, k1, k2, fun wr H2 s2 bad => ?_⟩
      have g2 := gD.same s2
      have t2 := ty.same s2
      refine ⟨_, rfl, y, rfl, t2, by0, fun H3 s3 => ⟨_, rfl, iteF ?_⟩⟩
      have g3 := g2.same s3
      have t3 := t2.same s3
      have bad3 := bad.same s3
      refine ⟨_, rfl, _, rfl, _, y, ssS, rfl, .inr ⟨D, qs, rfl, g3, hg, k1, k2, t3, by0, rfl⟩, fun l4 H4 s4 z4 => ⟨by show 2 ≤ sizeLine; decide, fun m4 hm4 => ⟨_, _, .lst (SqL.of (same_new hm4 _ _ z4)) (.cons (.str _) (.cons (.str _) .nil)), .lst (SqL.of upd_same) (.cons (.str _) (.cons (.str _) .nil)), by decide +kernel, by decide +kernel, _, rfl, iteFS (by show (!PyData.eqv (.list [.str "shelf", .str "value"]) (.list [.str "shelf", .str "value"])) = false; rw [ss_eq]; rfl) ?_⟩⟩⟩
      have u4 := s4.trans (same_new (o := .lst [V.str "shelf", V.str "value"]) hm4)
      generalize upd H4 m4 (.lst [V.str "shelf", V.str "value"]) = H5 at *
      have bad5 := bad3.same u4
      have t5 := t3.same u4
      have g5 := g3.same u4
      refine ⟨_, rfl, _, rfl, wr, _, ssI, rfl, .inl ⟨bad5, rfl⟩, fun l6 H6 s6 z6 => ⟨by show 2 ≤ sizeLine; decide, fun m6 hm6 => ⟨_, _, .lst (SqL.of (same_new hm6 _ _ z6)) (.cons (.str _) (.cons (.str _) .nil)), .lst (SqL.of upd_same) (.cons (.str _) (.cons (.str _) .nil)), by decide +kernel, by decide +kernel, _, rfl, iteFS (by show (!PyData.eqv (.list [.str "image", .str "value"]) (.list [.str "image", .str "value"])) = false; rw [ss_eq]; rfl) ?_⟩⟩⟩
      have u6 := s6.trans (same_new (o := .lst [V.str "image", V.str "value"]) hm6)
      generalize upd H6 m6 (.lst [V.str "image", V.str "value"]) = H7 at *
      refine ⟨_, rfl, _, rfl, wr, _, ssI, rfl, .inl ⟨bad5.same u6, rfl⟩, fun l8 H8 s8 z8 => ⟨by show 2 ≤ sizeLine; decide, fun m8 hm8 => ⟨_, _, .lst (SqL.of (same_new hm8 _ _ z8)) (.cons (.str _) (.cons (.str _) .nil)), .lst (SqL.of upd_same) (.cons (.str _) (.cons (.str _) .nil)), by decide +kernel, by decide +kernel, _, rfl, iteFS (by show (!PyData.eqv (.list [.str "image", .str "value"]) (.list [.str "image", .str "value"])) = false; rw [ss_eq]; rfl) ?_⟩⟩⟩
      have u8 := s8.trans (same_new (o := .lst [V.str "image", V.str "value"]) hm8)
      exact ⟨_, rfl, _, rfl, D, qs, n, rfl, (g5.same u6).same u8, hg, k1, k2, n1, n2, fun H9 => q0 H9⟩
    have RT : PSsq (cxOf CX0 P w K mg base ["_law_script", "_law_pages_here", "_law_most", "_law_none", "_law_wrong"] "law" (defScope sLaw) f cdv A1 outer s H E).nox (defBody sLaw) _ := pssq_cons ⟨(ps_set (i := 1) scLa.nd rfl (Or.inl rfl) (pe_call G2 hr2 (by rfl) D2.m D2.F.kp D2.b .nil pass0 (pa_cons (pv 0) pa_nil)))⟩ (pssq_cons ⟨(ps_set (i := 2) scLa.nd rfl (Or.inl rfl) (pe_op op_add pe_int (pe_op op_mod (pe_call G1 hr1 (by rfl) D1.m D1.F.kp D1.b .nil pass0 (pa_cons (pv 0) (pa_cons pe_int pa_nil))) pe_int)))⟩ (pssq_cons (psq_setq (i := 3) scLa.nd rfl (Or.inl rfl) (peq_ix ix_list (peq_lst (paq_cons ⟨pe_int⟩ (paq_cons ⟨pe_int⟩ (paq_cons ⟨(pe_un un_neg pe_int)⟩ (paq_cons ⟨pe_bl⟩ (paq_cons ⟨pe_bl⟩ (paq_cons ⟨pe_non⟩ (paq_cons ⟨pe_str⟩ (paq_cons (peq_lst (paq_cons ⟨pe_int⟩ paq_nil)) (paq_cons ⟨(pe_op op_pow pe_int pe_int)⟩ (paq_cons ⟨(pe_tup (pa_cons pe_int pa_nil))⟩ paq_nil))))))))))) ⟨(pe_op op_mod (pe_call G1 hr1 (by rfl) D1.m D1.F.kp D1.b .nil pass0 (pa_cons (pv 0) (pa_cons pe_int pa_nil))) pe_int)⟩ (fun _ _ => rfl))) ⟨R3⟩))
    refine PSsq.ex RT ?_
    refine ⟨_, rfl, x, sc, rfl, hS, fun D H1 qs s1 g1 gd1 l1 l2 fr1 => ?_⟩
    refine ⟨_, rfl, x, sc, 1, rfl, s1.seq hS, _, 12, rfl, rfl, (by show (0 : Int) < 12; decide), 1, _, rfl, rfl, ?_⟩
    have b0 : 0 ≤ sc.getD 1 0 % 12 := Int.emod_nonneg _ (by decide)
    have b1 : sc.getD 1 0 % 12 < 12 := Int.emod_lt_of_pos _ (by decide)
    dsimp only
    have n1 : 1 ≤ 1 + sc.getD 1 0 % 12 := by omega
    have n2 : 1 + sc.getD 1 0 % 12 ≤ 12 := by omega
    generalize 1 + sc.getD 1 0 % 12 = n at *
    refine ⟨1, rfl, by show 1 ≤ sizeLine; decide, fun la hla => ?_⟩
    have sa := same_new (o := .lst [V.int 3]) hla
    have za : upd H1 la (.lst [V.int 3]) la = some (.lst [V.int 3]) := upd_same
    generalize upd H1 la (.lst [V.int 3]) = H2 at *
    refine ⟨10, 30, rfl, rfl, ⟨by decide, by decide, by decide⟩, by show 1 ≤ sizeLine; decide, fun ta hta => ?_⟩
    have sb := same_new (o := .tup [V.int 1]) hta
    have zb : upd H2 ta (.tup [V.int 1]) ta = some (.tup [V.int 1]) := upd_same
    have za := sb _ _ za
    generalize upd H2 ta (.tup [V.int 1]) = H3 at *
    refine ⟨by show 10 ≤ sizeLine; decide, fun lb hlb => ?_⟩
    have sc3 := same_new (o := .lst [V.int 0, V.int 13, V.int (-1), V.bl true, V.bl false, V.non, V.str "3", V.ref la, V.int (10 ^ (30 : Int).toNat), V.ref ta]) hlb
    have s14 := sa.trans (sb.trans sc3)
    have c0 : 0 ≤ sc.getD 2 0 % 10 := Int.emod_nonneg _ (by decide)
    have c1 : sc.getD 2 0 % 10 < 10 := Int.emod_lt_of_pos _ (by decide)
    obtain ⟨k, hk⟩ : ∃ k : Nat, sc.getD 2 0 % 10 = (k : Int) := ⟨(sc.getD 2 0 % 10).toNat, by omega⟩
    obtain ⟨y, hy, ty, gy⟩ := odd10 (k := k) (by omega) za zb
    refine ⟨_, rfl, x, sc, 2, rfl, (s1.trans s14).seq hS, _, 10, rfl, rfl, (by show (0 : Int) < 10; decide), lb, _, _, y, rfl, rfl, SqL.of upd_same, (by rw [hk]; exact hy), ?_⟩
    exact hR3 _ D qs n y (s1.trans s14) (g1.same s14) gd1 l1 l2 n1 n2 (ty.same sc3) gy
end
end K23

end
section
open PySem PySem.W PyProof.Rows
set_option Elab.async false
set_option linter.all false
set_option maxRecDepth 100000
set_option maxHeartbeats 4000000
namespace K23
open PySem L2
theorem all_mk {l : PySem.W.OpenLaw} {w : World} {K : PySem.W.Frag} {h : Heap} {mg : Str → Option Value} {fa f0 f1 f2 f3 f4 f5 f6 f7 f8 f9 f10 f11 f12 f13 f14 f15 f16 f17 f18 f19 f20 f21 f22 f23 f24 f25 f26 f27 f28 f29 f30 f31 xC xSC xPL xWC xST xNP xNL xNW xNI xNS xFA xHE : Addr} (X : K.In h) (G : h.Ns mainGlobals mg) (hfa : mg "law" = some (.ref fa))
    {od0 an0 od1 an1 od2 an2 od3 an3 od4 an4 od5 an5 od6 an6 od7 an7 od8 an8 od9 an9 od10 an10 od11 an11 od12 an12 od13 an13 od14 an14 od15 an15 od16 an16 od17 an17 od18 an18 od19 an19 od20 an20 od21 an21 od22 an22 od23 an23 od24 an24 od25 an25 od26 an26 od27 an27 od28 an28 od29 an29 od30 an30 od31 an31 : Option Addr} {sl0 sl1 sl2 sl3 sl4 sl5 sl6 sl7 sl8 sl9 sl10 sl11 sl12 sl13 sl14 sl15 sl16 sl17 sl18 sl19 sl20 sl21 sl22 sl23 sl24 sl25 sl26 sl27 sl28 sl29 sl30 sl31 : Array (Option Value)} {oc0 kV0 dc0 pm0 cd0 ct0 oc1 kV1 dc1 pm1 cd1 ct1 oc2 kV2 dc2 pm2 cd2 ct2 oc3 kV3 dc3 pm3 cd3 ct3 oc4 kV4 dc4 pm4 cd4 ct4 oc5 kV5 dc5 pm5 cd5 ct5 oc6 kV6 dc6 pm6 cd6 ct6 oc7 kV7 dc7 pm7 cd7 ct7 oc8 kV8 dc8 pm8 cd8 ct8 oc9 kV9 dc9 pm9 cd9 ct9 oc10 kV10 dc10 pm10 cd10 ct10 oc11 kV11 dc11 pm11 cd11 ct11 oc12 kV12 dc12 pm12 cd12 ct12 oc13 kV13 dc13 pm13 cd13 ct13 oc14 kV14 dc14 pm14 cd14 ct14 oc15 kV15 dc15 pm15 cd15 ct15 oc16 kV16 dc16 pm16 cd16 ct16 oc17 kV17 dc17 pm17 cd17 ct17 oc18 kV18 dc18 pm18 cd18 ct18 oc19 kV19 dc19 pm19 cd19 ct19 oc20 kV20 dc20 pm20 cd20 ct20 oc21 kV21 dc21 pm21 cd21 ct21 oc22 kV22 dc22 pm22 cd22 ct22 oc23 kV23 dc23 pm23 cd23 ct23 oc24 kV24 dc24 pm24 cd24 ct24 oc25 kV25 dc25 pm25 cd25 ct25 oc26 kV26 dc26 pm26 cd26 ct26 oc27 kV27 dc27 pm27 cd27 ct27 oc28 kV28 dc28 pm28 cd28 ct28 oc29 kV29 dc29 pm29 cd29 ct29 oc30 kV30 dc30 pm30 cd30 ct30 oc31 kV31 dc31 pm31 cd31 ct31 : Value} {tk0 tk1 tk2 tk3 : Tok}
    (n_C : PySem.W.nsIn K mainGlobals "Memory" = some (some (.ref xC)))
    (n_SC : PySem.W.nsIn K mainGlobals "Shelf" = some (some (.ref xSC)))
    (n_PL : PySem.W.nsIn K mainGlobals "Plain" = some (some (.ref xPL)))
    (n_WC : PySem.W.nsIn K mainGlobals "Ways" = some (some (.ref xWC)))
    (n_ST : PySem.W.nsIn K mainGlobals "Store" = some (some (.ref xST)))
    (n_NP : PySem.W.nsIn K mainGlobals "NoPage" = some (some (.ref xNP)))
    (n_NL : PySem.W.nsIn K mainGlobals "NoPlace" = some (some (.ref xNL)))
    (n_NW : PySem.W.nsIn K mainGlobals "NoWord" = some (some (.ref xNW)))
    (n_NI : PySem.W.nsIn K mainGlobals "NoImage" = some (some (.ref xNI)))
    (n_NS : PySem.W.nsIn K mainGlobals "NoShelf" = some (some (.ref xNS)))
    (n_FA : PySem.W.nsIn K mainGlobals "Fault" = some (some (.ref xFA)))
    (n_HE : PySem.W.nsIn K mainGlobals "HouseError" = some (some (.ref xHE)))
    (a0 : PySem.W.nsIn K mainGlobals "is_whole" = some (some (.ref f0)))
    (l0 : K.lookup f0 = some ⟨oc0, od0, .func (PySem.W.fnOf "is_whole" "is_whole" (defArgs sWhole) (defBody sWhole) (defScope sWhole) .none kV0 dc0 pm0 an0 cd0 ct0), sl0⟩)
    (c0 : PySem.W.codeIn K cd0 "is_whole" = true)
    (k0 : PySem.W.keepIn K (.ref f0) = true)
    (a1 : PySem.W.nsIn K mainGlobals "is_below" = some (some (.ref f1)))
    (l1 : K.lookup f1 = some ⟨oc1, od1, .func (PySem.W.fnOf "is_below" "is_below" (defArgs sBelow) (defBody sBelow) (defScope sBelow) .none kV1 dc1 pm1 an1 cd1 ct1), sl1⟩)
    (c1 : PySem.W.codeIn K cd1 "is_below" = true)
    (k1 : PySem.W.keepIn K (.ref f1) = true)
    (a2 : PySem.W.nsIn K mainGlobals "is_word" = some (some (.ref f2)))
    (l2 : K.lookup f2 = some ⟨oc2, od2, .func (PySem.W.fnOf "is_word" "is_word" (defArgs sWord) (defBody sWord) (defScope sWord) .none kV2 dc2 pm2 an2 cd2 ct2), sl2⟩)
    (c2 : PySem.W.codeIn K cd2 "is_word" = true)
    (k2 : PySem.W.keepIn K (.ref f2) = true)
    (a3 : PySem.W.findIn K (.ref xC) "size" = some (some (.ref f3)))
    (l3 : K.lookup f3 = some ⟨oc3, od3, .func (PySem.W.fnOf "size" "Memory.size" (defArgs sSize) (defBody sSize) (defScope sSize) .none kV3 dc3 pm3 an3 cd3 ct3), sl3⟩)
    (c3 : PySem.W.codeIn K cd3 "Memory.size" = true)
    (k3 : PySem.W.keepIn K (.ref f3) = true)
    (a4 : PySem.W.findIn K (.ref xC) "has" = some (some (.ref f4)))
    (l4 : K.lookup f4 = some ⟨oc4, od4, .func (PySem.W.fnOf "has" "Memory.has" (defArgs sHas) (defBody sHas) (defScope sHas) .none kV4 dc4 pm4 an4 cd4 ct4), sl4⟩)
    (c4 : PySem.W.codeIn K cd4 "Memory.has" = true)
    (k4 : PySem.W.keepIn K (.ref f4) = true)
    (a5 : PySem.W.findIn K (.ref xC) "word_at" = some (some (.ref f5)))
    (l5 : K.lookup f5 = some ⟨oc5, od5, .func (PySem.W.fnOf "word_at" "Memory.word_at" (defArgs sWordAt) (defBody sWordAt) (defScope sWordAt) .none kV5 dc5 pm5 an5 cd5 ct5), sl5⟩)
    (c5 : PySem.W.codeIn K cd5 "Memory.word_at" = true)
    (k5 : PySem.W.keepIn K (.ref f5) = true)
    (a6 : PySem.W.nsIn K mainGlobals "is_eight_words" = some (some (.ref f6)))
    (l6 : K.lookup f6 = some ⟨oc6, od6, .func (PySem.W.fnOf "is_eight_words" "is_eight_words" (defArgs sEight) (defBody sEight) (defScope sEight) .none kV6 dc6 pm6 an6 cd6 ct6), sl6⟩)
    (c6 : PySem.W.codeIn K cd6 "is_eight_words" = true)
    (k6 : PySem.W.keepIn K (.ref f6) = true)
    (a7 : PySem.W.nsIn K mainGlobals "check_image" = some (some (.ref f7)))
    (l7 : K.lookup f7 = some ⟨oc7, od7, .func (PySem.W.fnOf "check_image" "check_image" (defArgs sImage) (defBody sImage) (defScope sImage) .none kV7 dc7 pm7 an7 cd7 ct7), sl7⟩)
    (c7 : PySem.W.codeIn K cd7 "check_image" = true)
    (k7 : PySem.W.keepIn K (.ref f7) = true)
    (a8 : PySem.W.findIn K (.ref xC) "__init__" = some (some (.ref f8)))
    (l8 : K.lookup f8 = some ⟨oc8, od8, .func (PySem.W.fnOf "__init__" "Memory.__init__" (defArgs sInit) (defBody sInit) (defScope sInit) .none kV8 dc8 pm8 an8 cd8 ct8), sl8⟩)
    (c8 : PySem.W.codeIn K cd8 "Memory.__init__" = true)
    (k8 : PySem.W.keepIn K (.ref f8) = true)
    (a9 : PySem.W.findIn K (.ref xSC) "__init__" = some (some (.ref f9)))
    (l9 : K.lookup f9 = some ⟨oc9, od9, .func (PySem.W.fnOf "__init__" "Shelf.__init__" (defArgs sSInit) (defBody sSInit) (defScope sSInit) .none kV9 dc9 pm9 an9 cd9 ct9), sl9⟩)
    (c9 : PySem.W.codeIn K cd9 "Shelf.__init__" = true)
    (k9 : PySem.W.keepIn K (.ref f9) = true)
    (a10 : PySem.W.findIn K (.ref xSC) "told" = some (some (.ref f10)))
    (l10 : K.lookup f10 = some ⟨oc10, od10, .func (PySem.W.fnOf "told" "Shelf.told" (defArgs sSTold) (defBody sSTold) (defScope sSTold) .none kV10 dc10 pm10 an10 cd10 ct10), sl10⟩)
    (c10 : PySem.W.codeIn K cd10 "Shelf.told" = true)
    (k10 : PySem.W.keepIn K (.ref f10) = true)
    (a11 : PySem.W.findIn K (.ref xPL) "size" = some (some (.ref f11)))
    (l11 : K.lookup f11 = some ⟨oc11, od11, .func (PySem.W.fnOf "size" "Plain.size" (defArgs sPSize) (defBody sPSize) (defScope sPSize) .none kV11 dc11 pm11 an11 cd11 ct11), sl11⟩)
    (c11 : PySem.W.codeIn K cd11 "Plain.size" = true)
    (k11 : PySem.W.keepIn K (.ref f11) = true)
    (a12 : PySem.W.findIn K (.ref xPL) "has" = some (some (.ref f12)))
    (l12 : K.lookup f12 = some ⟨oc12, od12, .func (PySem.W.fnOf "has" "Plain.has" (defArgs sPHas) (defBody sPHas) (defScope sPHas) .none kV12 dc12 pm12 an12 cd12 ct12), sl12⟩)
    (c12 : PySem.W.codeIn K cd12 "Plain.has" = true)
    (k12 : PySem.W.keepIn K (.ref f12) = true)
    (a13 : PySem.W.findIn K (.ref xPL) "word_at" = some (some (.ref f13)))
    (l13 : K.lookup f13 = some ⟨oc13, od13, .func (PySem.W.fnOf "word_at" "Plain.word_at" (defArgs sPWordAt) (defBody sPWordAt) (defScope sPWordAt) .none kV13 dc13 pm13 an13 cd13 ct13), sl13⟩)
    (c13 : PySem.W.codeIn K cd13 "Plain.word_at" = true)
    (k13 : PySem.W.keepIn K (.ref f13) = true)
    (a14 : PySem.W.findIn K (.ref xPL) "root" = some (some (.ref f14)))
    (l14 : K.lookup f14 = some ⟨oc14, od14, .func (PySem.W.fnOf "root" "Ways.root" (defArgs sRoot) (defBody sRoot) (defScope sRoot) .none kV14 dc14 pm14 an14 cd14 ct14), sl14⟩)
    (c14 : PySem.W.codeIn K cd14 "Ways.root" = true)
    (k14 : PySem.W.keepIn K (.ref f14) = true)
    (a15 : PySem.W.findIn K (.ref xPL) "shelf" = some (some (.ref f15)))
    (l15 : K.lookup f15 = some ⟨oc15, od15, .func (PySem.W.fnOf "shelf" "Ways.shelf" (defArgs sShelf) (defBody sShelf) (defScope sShelf) .none kV15 dc15 pm15 an15 cd15 ct15), sl15⟩)
    (c15 : PySem.W.codeIn K cd15 "Ways.shelf" = true)
    (k15 : PySem.W.keepIn K (.ref f15) = true)
    (a16 : PySem.W.findIn K (.ref xPL) "words_of" = some (some (.ref f16)))
    (l16 : K.lookup f16 = some ⟨oc16, od16, .func (PySem.W.fnOf "words_of" "Store.words_of" (defArgs sWords) (defBody sWords) (defScope sWords) .none kV16 dc16 pm16 an16 cd16 ct16), sl16⟩)
    (c16 : PySem.W.codeIn K cd16 "Store.words_of" = true)
    (k16 : PySem.W.keepIn K (.ref f16) = true)
    (a17 : PySem.W.findIn K (.ref xPL) "pages" = some (some (.ref f17)))
    (l17 : K.lookup f17 = some ⟨oc17, od17, .func (PySem.W.fnOf "pages" "Ways.pages" (defArgs sWPages) (defBody sWPages) (defScope sWPages) .none kV17 dc17 pm17 an17 cd17 ct17), sl17⟩)
    (c17 : PySem.W.codeIn K cd17 "Ways.pages" = true)
    (k17 : PySem.W.keepIn K (.ref f17) = true)
    (a18 : PySem.W.findCls K (.ref xWC) (.type "type") "__init__" = some (.val (.ref f18)))
    (l18 : K.lookup f18 = some ⟨oc18, od18, .func (PySem.W.fnOf "__init__" "Ways.__init__" (defArgs sWInit) (defBody sWInit) (defScope sWInit) .none kV18 dc18 pm18 an18 cd18 ct18), sl18⟩)
    (c18 : PySem.W.codeIn K cd18 "Ways.__init__" = true)
    (k18 : PySem.W.keepIn K (.ref f18) = true)
    (a19 : PySem.W.findIn K (.ref xPL) "__init__" = some (some (.ref f19)))
    (l19 : K.lookup f19 = some ⟨oc19, od19, .func (PySem.W.fnOf "__init__" "Plain.__init__" (defArgs sPInit) (defBody sPInit) (defScope sPInit) .none kV19 dc19 pm19 an19 cd19 ct19), sl19⟩)
    (c19 : PySem.W.codeIn K cd19 "Plain.__init__" = true)
    (k19 : PySem.W.keepIn K (.ref f19) = true)
    (a20 : PySem.W.nsIn K mainGlobals "_law_cell_at" = some (some (.ref f20)))
    (l20 : K.lookup f20 = some ⟨oc20, od20, .func (PySem.W.fnOf "_law_cell_at" "_law_cell_at" (defArgs sCell) (defBody sCell) (defScope sCell) .none kV20 dc20 pm20 an20 cd20 ct20), sl20⟩)
    (c20 : PySem.W.codeIn K cd20 "_law_cell_at" = true)
    (k20 : PySem.W.keepIn K (.ref f20) = true)
    (a21 : PySem.W.nsIn K mainGlobals "_law_whole" = some (some (.ref f21)))
    (l21 : K.lookup f21 = some ⟨oc21, od21, .func (PySem.W.fnOf "_law_whole" "_law_whole" (defArgs sLWhole) (defBody sLWhole) (defScope sLWhole) .none kV21 dc21 pm21 an21 cd21 ct21), sl21⟩)
    (c21 : PySem.W.codeIn K cd21 "_law_whole" = true)
    (k21 : PySem.W.keepIn K (.ref f21) = true)
    (a22 : PySem.W.nsIn K mainGlobals "_law_row_by" = some (some (.ref f22)))
    (l22 : K.lookup f22 = some ⟨oc22, od22, .func (PySem.W.fnOf "_law_row_by" "_law_row_by" (defArgs sRow) (defBody sRow) (defScope sRow) .none kV22 dc22 pm22 an22 cd22 ct22), sl22⟩)
    (c22 : PySem.W.codeIn K cd22 "_law_row_by" = true)
    (k22 : PySem.W.keepIn K (.ref f22) = true)
    (a23 : PySem.W.nsIn K mainGlobals "_law_copy" = some (some (.ref f23)))
    (l23 : K.lookup f23 = some ⟨oc23, od23, .func (PySem.W.fnOf "_law_copy" "_law_copy" (defArgs sCopy) (defBody sCopy) (defScope sCopy) .none kV23 dc23 pm23 an23 cd23 ct23), sl23⟩)
    (c23 : PySem.W.codeIn K cd23 "_law_copy" = true)
    (k23 : PySem.W.keepIn K (.ref f23) = true)
    (a24 : PySem.W.nsIn K mainGlobals "_law_is_image" = some (some (.ref f24)))
    (l24 : K.lookup f24 = some ⟨oc24, od24, .func (PySem.W.fnOf "_law_is_image" "_law_is_image" (defArgs sIsI) (defBody sIsI) (defScope sIsI) .none kV24 dc24 pm24 an24 cd24 ct24), sl24⟩)
    (c24 : PySem.W.codeIn K cd24 "_law_is_image" = true)
    (k24 : PySem.W.keepIn K (.ref f24) = true)
    (a25 : PySem.W.nsIn K mainGlobals "_law_pages" = some (some (.ref f25)))
    (l25 : K.lookup f25 = some ⟨oc25, od25, .func (PySem.W.fnOf "_law_pages" "_law_pages" (defArgs sPgs) (defBody sPgs) (defScope sPgs) .none kV25 dc25 pm25 an25 cd25 ct25), sl25⟩)
    (c25 : PySem.W.codeIn K cd25 "_law_pages" = true)
    (k25 : PySem.W.keepIn K (.ref f25) = true)
    (a26 : PySem.W.nsIn K mainGlobals "_law_names" = some (some (.ref f26)))
    (l26 : K.lookup f26 = some ⟨oc26, od26, .func (PySem.W.fnOf "_law_names" "_law_names" (defArgs sNames) (defBody sNames) (defScope sNames) .none kV26 dc26 pm26 an26 cd26 ct26), sl26⟩)
    (c26 : PySem.W.codeIn K cd26 "_law_names" = true)
    (k26 : PySem.W.keepIn K (.ref f26) = true)
    (a27 : PySem.W.nsIn K mainGlobals "_law_shelf_refused" = some (some (.ref f27)))
    (l27 : K.lookup f27 = some ⟨oc27, od27, .func (PySem.W.fnOf "_law_shelf_refused" "_law_shelf_refused" (defArgs sShR) (defBody sShR) (defScope sShR) .none kV27 dc27 pm27 an27 cd27 ct27), sl27⟩)
    (c27 : PySem.W.codeIn K cd27 "_law_shelf_refused" = true)
    (k27 : PySem.W.keepIn K (.ref f27) = true)
    (a28 : PySem.W.nsIn K mainGlobals "_law_refused" = some (some (.ref f28)))
    (l28 : K.lookup f28 = some ⟨oc28, od28, .func (PySem.W.fnOf "_law_refused" "_law_refused" (defArgs sRefd) (defBody sRefd) (defScope sRefd) .none kV28 dc28 pm28 an28 cd28 ct28), sl28⟩)
    (c28 : PySem.W.codeIn K cd28 "_law_refused" = true)
    (k28 : PySem.W.keepIn K (.ref f28) = true)
    (a29 : PySem.W.nsIn K mainGlobals "_law_no_image" = some (some (.ref f29)))
    (l29 : K.lookup f29 = some ⟨oc29, od29, .func (PySem.W.fnOf "_law_no_image" "_law_no_image" (defArgs sNoI) (defBody sNoI) (defScope sNoI) .none kV29 dc29 pm29 an29 cd29 ct29), sl29⟩)
    (c29 : PySem.W.codeIn K cd29 "_law_no_image" = true)
    (k29 : PySem.W.keepIn K (.ref f29) = true)
    (a30 : PySem.W.nsIn K mainGlobals "_law_good" = some (some (.ref f30)))
    (l30 : K.lookup f30 = some ⟨oc30, od30, .func (PySem.W.fnOf "_law_good" "_law_good" (defArgs sGoo) (defBody sGoo) (defScope sGoo) .none kV30 dc30 pm30 an30 cd30 ct30), sl30⟩)
    (c30 : PySem.W.codeIn K cd30 "_law_good" = true)
    (k30 : PySem.W.keepIn K (.ref f30) = true)
    (a31 : PySem.W.nsIn K mainGlobals "law" = some (some (.ref f31)))
    (l31 : K.lookup f31 = some ⟨oc31, od31, .func (PySem.W.fnOf "law" "law" (defArgs sLaw) (defBody sLaw) (defScope sLaw) .none kV31 dc31 pm31 an31 cd31 ct31), sl31⟩)
    (c31 : PySem.W.codeIn K cd31 "law" = true)
    (k31 : PySem.W.keepIn K (.ref f31) = true)
    (v0 : PySem.W.nsIn K mainGlobals "WORDS" = some (some (.int 281474976710656 tk0)))
    (v1 : PySem.W.nsIn K mainGlobals "CELLS" = some (some (.int 8 tk1)))
    (v2 : PySem.W.nsIn K mainGlobals "MOST_PAGES" = some (some (.int 24 tk2)))
    (v3 : PySem.W.nsIn K mainGlobals "SEATS" = some (some (.int 12 tk3)))
    (z_isinstance : PySem.W.nsIn K mainGlobals "isinstance" = some none)
    (z_int : PySem.W.nsIn K mainGlobals "int" = some none)
    (z_bool : PySem.W.nsIn K mainGlobals "bool" = some none)
    (z_list : PySem.W.nsIn K mainGlobals "list" = some none)
    (z_len : PySem.W.nsIn K mainGlobals "len" = some none)
    (z_all : PySem.W.nsIn K mainGlobals "all" = some none)
    (z_range : PySem.W.nsIn K mainGlobals "range" = some none)
    (z_tuple : PySem.W.nsIn K mainGlobals "tuple" = some none)
    (z_ValueError : PySem.W.nsIn K mainGlobals "ValueError" = some none)
    (xi_NP : L2.excIn K xNP = true)
    (xi_NL : L2.excIn K xNL = true)
    (xi_NW : L2.excIn K xNW = true)
    (xi_NI : L2.excIn K xNI = true)
    (xi_NS : L2.excIn K xNS = true)
    (nh : PySem.W.findIn K (.ref xC) "held" = some none)
    (nmo : PySem.W.findIn K (.ref xSC) "most" = some none)
    (nse : PySem.W.findIn K (.ref xSC) "seats" = some none)
    (nme : PySem.W.findIn K (.ref xPL) "memory" = some none)
    (nba : PySem.W.findIn K (.ref xPL) "base" = some none)
    (nra : PySem.W.findIn K (.ref xPL) "rack" = some none)
    (nan : PySem.W.findIn K (.ref xPL) "answers" = some none)
    (aw1 : PySem.W.typeIn K (.ref xWC) = some (.type "type"))
    (aw2 : PySem.W.mroIn K xWC (.type "object") = some true)
    (aw3 : PySem.W.subIn K (.ref xPL) (.ref xWC) = some true)
    (as1 : PySem.W.typeIn K (.ref xST) = some (.type "type"))
    (as2 : PySem.W.mroIn K xST (.type "object") = some true)
    (as3 : PySem.W.subIn K (.ref xPL) (.ref xST) = some true)
    (kNI_e1 : PySem.W.findIn K (.ref xNI) "__getattribute__" = some (some (.builtin "BaseException.__getattribute__")))
    (kNI_e2 : PySem.W.findIn K (.ref xNI) "__getattr__" = some none)
    (kNI_e3 : PySem.W.findIn K (.ref xNI) "__class__" = some (some (.builtin "object.__class__")))
    (kNI_e4 : PySem.W.specialIn K (.builtin "object.__class__") "__get__" = some (some (.builtin "getset_descriptor.__get__")))
    (kNI_e5 : PySem.W.takesIn K (.builtin "object.__class__") = some true)
    (kNI_e6 : PySem.W.mroIn K xNI (.type "object") = some true)
    (kNI_e7 : PySem.W.mroIn K xNI (.type "BaseException") = some true)
    (kNI_t1 : PySem.W.typeIn K (.ref xNI) = some (.type "type"))
    (kNI_t3 : PySem.W.subIn K (.ref xNI) (.ref xNI) = some true)
    (kNI_t4 : PySem.W.subIn K (.ref xNI) (.type "ValueError") = some true)
    (kNI_ex : PySem.W.exmOne K (.ref xNI) (.ref xHE) = some true)
    (u_NI_NS : PySem.W.kin_not K xNI xNS = true)
    (u_NI_NP : PySem.W.kin_not K xNI xNP = true)
    (u_NI_NW : PySem.W.kin_not K xNI xNW = true)
    (u_NI_FA : PySem.W.kin_not K xNI xFA = true)
    (kNS_e1 : PySem.W.findIn K (.ref xNS) "__getattribute__" = some (some (.builtin "BaseException.__getattribute__")))
    (kNS_e2 : PySem.W.findIn K (.ref xNS) "__getattr__" = some none)
    (kNS_e3 : PySem.W.findIn K (.ref xNS) "__class__" = some (some (.builtin "object.__class__")))
    (kNS_e4 : PySem.W.specialIn K (.builtin "object.__class__") "__get__" = some (some (.builtin "getset_descriptor.__get__")))
    (kNS_e5 : PySem.W.takesIn K (.builtin "object.__class__") = some true)
    (kNS_e6 : PySem.W.mroIn K xNS (.type "object") = some true)
    (kNS_e7 : PySem.W.mroIn K xNS (.type "BaseException") = some true)
    (kNS_t1 : PySem.W.typeIn K (.ref xNS) = some (.type "type"))
    (kNS_t3 : PySem.W.subIn K (.ref xNS) (.ref xNS) = some true)
    (kNS_t4 : PySem.W.subIn K (.ref xNS) (.type "ValueError") = some true)
    (kNS_ex : PySem.W.exmOne K (.ref xNS) (.ref xHE) = some true)
    (u_NS_NI : PySem.W.kin_not K xNS xNI = true)
    (u_NS_NP : PySem.W.kin_not K xNS xNP = true)
    (u_NS_NW : PySem.W.kin_not K xNS xNW = true)
    (u_NS_FA : PySem.W.kin_not K xNS xFA = true)
    (i3 : PySem.W.isFn K (.ref f3) = true)
    (i4 : PySem.W.isFn K (.ref f4) = true)
    (i5 : PySem.W.isFn K (.ref f5) = true)
    (i8 : PySem.W.isFn K (.ref f8) = true)
    (i9 : PySem.W.isFn K (.ref f9) = true)
    (i10 : PySem.W.isFn K (.ref f10) = true)
    (i11 : PySem.W.isFn K (.ref f11) = true)
    (i12 : PySem.W.isFn K (.ref f12) = true)
    (i13 : PySem.W.isFn K (.ref f13) = true)
    (i14 : PySem.W.isFn K (.ref f14) = true)
    (i15 : PySem.W.isFn K (.ref f15) = true)
    (i16 : PySem.W.isFn K (.ref f16) = true)
    (i17 : PySem.W.isFn K (.ref f17) = true)
    (i19 : PySem.W.isFn K (.ref f19) = true)
    (pg_C : PySem.W.plainGet K xC Str.empty = true)
    (hd_C : PySem.W.hasDictIn K xC = true)
    (po_C : PySem.W.plainOver K xC = true)
    (sa_C : PySem.W.findIn K (.ref xC) "__setattr__" = some (some (.builtin "object.__setattr__")))
    (pg_PL : PySem.W.plainGet K xPL Str.empty = true)
    (hd_PL : PySem.W.hasDictIn K xPL = true)
    (po_PL : PySem.W.plainOver K xPL = true)
    (sa_PL : PySem.W.findIn K (.ref xPL) "__setattr__" = some (some (.builtin "object.__setattr__")))
    (pg_SC : PySem.W.plainGet K xSC Str.empty = true)
    (hd_SC : PySem.W.hasDictIn K xSC = true)
    (po_SC : PySem.W.plainOver K xSC = true)
    (sa_SC : PySem.W.findIn K (.ref xSC) "__setattr__" = some (some (.builtin "object.__setattr__")))
    (mk_C : PySem.W.makesIn K xC = true)
    (kc_C : PySem.W.keepIn K (.ref xC) = true)
    (mk_PL : PySem.W.makesIn K xPL = true)
    (kc_PL : PySem.W.keepIn K (.ref xPL) = true)
    (mk_SC : PySem.W.makesIn K xSC = true)
    (kc_SC : PySem.W.keepIn K (.ref xSC) = true)
    (sp_WC : PySem.W.specialIn K (.ref xWC) "__getattribute__" = some (some (.builtin "type.__getattribute__")))
    (rd_WC : PySem.W.readsIn K xWC (.type "type") = true)
    : ∃ fd : FuncData, (∀ (s : Shared) (v : Value), BindsTo s fd ⟨[v], []⟩ [("_law_script", v)]) ∧ ∀ base : Heap, K.In base → base.Ns mainGlobals mg → FnOk l.prog w K mg base CX0 11 fa fd ["_law_script"] (spLaw K) := by
  have e := hfa.symm.trans (PySem.W.mg_of X G a31)
  cases e
  have F0 := fun_mk (st := sWhole) l0 c0 k0
  have D0 : Dn K mg "is_whole" sWhole ["thing"] f0 _ := ⟨F0, PySem.W.mg_of X G a0, F0.binds (ps := ["thing"]) fun _ _ _ _ _ _ us hl => match us, hl with | [_], _ => rfl⟩
  have F1 := fun_mk (st := sBelow) l1 c1 k1
  have D1 : Dn K mg "is_below" sBelow ["thing", "bound"] f1 _ := ⟨F1, PySem.W.mg_of X G a1, F1.binds (ps := ["thing", "bound"]) fun _ _ _ _ _ _ us hl => match us, hl with | [_, _], _ => rfl⟩
  have F2 := fun_mk (st := sWord) l2 c2 k2
  have D2 : Dn K mg "is_word" sWord ["thing"] f2 _ := ⟨F2, PySem.W.mg_of X G a2, F2.binds (ps := ["thing"]) fun _ _ _ _ _ _ us hl => match us, hl with | [_], _ => rfl⟩
  have F3 := fun_mk (st := sSize) l3 c3 k3
  have B3 := F3.binds (ps := ["self"]) fun _ _ _ _ _ _ us hl => match us, hl with | [_], _ => rfl
  have F4 := fun_mk (st := sHas) l4 c4 k4
  have B4 := F4.binds (ps := ["self", "page"]) fun _ _ _ _ _ _ us hl => match us, hl with | [_, _], _ => rfl
  have F5 := fun_mk (st := sWordAt) l5 c5 k5
  have B5 := F5.binds (ps := ["self", "page", "cell"]) fun _ _ _ _ _ _ us hl => match us, hl with | [_, _, _], _ => rfl
  have F6 := fun_mk (st := sEight) l6 c6 k6
  have D6 : Dn K mg "is_eight_words" sEight ["thing"] f6 _ := ⟨F6, PySem.W.mg_of X G a6, F6.binds (ps := ["thing"]) fun _ _ _ _ _ _ us hl => match us, hl with | [_], _ => rfl⟩
  have F7 := fun_mk (st := sImage) l7 c7 k7
  have D7 : Dn K mg "check_image" sImage ["pages"] f7 _ := ⟨F7, PySem.W.mg_of X G a7, F7.binds (ps := ["pages"]) fun _ _ _ _ _ _ us hl => match us, hl with | [_], _ => rfl⟩
  have F8 := fun_mk (st := sInit) l8 c8 k8
  have B8 := F8.binds (ps := ["self", "pages"]) fun _ _ _ _ _ _ us hl => match us, hl with | [_, _], _ => rfl
  have F9 := fun_mk (st := sSInit) l9 c9 k9
  have B9 := F9.binds (ps := ["self", "most"]) fun _ _ _ _ _ _ us hl => match us, hl with | [_, _], _ => rfl
  have F10 := fun_mk (st := sSTold) l10 c10 k10
  have B10 := F10.binds (ps := ["self"]) fun _ _ _ _ _ _ us hl => match us, hl with | [_], _ => rfl
  have F11 := fun_mk (st := sPSize) l11 c11 k11
  have B11 := F11.binds (ps := ["self"]) fun _ _ _ _ _ _ us hl => match us, hl with | [_], _ => rfl
  have F12 := fun_mk (st := sPHas) l12 c12 k12
  have B12 := F12.binds (ps := ["self", "page"]) fun _ _ _ _ _ _ us hl => match us, hl with | [_, _], _ => rfl
  have F13 := fun_mk (st := sPWordAt) l13 c13 k13
  have B13 := F13.binds (ps := ["self", "page", "cell"]) fun _ _ _ _ _ _ us hl => match us, hl with | [_, _, _], _ => rfl
  have F14 := fun_mk (st := sRoot) l14 c14 k14
  have B14 := F14.binds (ps := ["self"]) fun _ _ _ _ _ _ us hl => match us, hl with | [_], _ => rfl
  have F15 := fun_mk (st := sShelf) l15 c15 k15
  have B15 := F15.binds (ps := ["self"]) fun _ _ _ _ _ _ us hl => match us, hl with | [_], _ => rfl
  have F16 := fun_mk (st := sWords) l16 c16 k16
  have B16 := F16.binds (ps := ["self", "page"]) fun _ _ _ _ _ _ us hl => match us, hl with | [_, _], _ => rfl
  have F17 := fun_mk (st := sWPages) l17 c17 k17
  have B17 := F17.binds (ps := ["self"]) fun _ _ _ _ _ _ us hl => match us, hl with | [_], _ => rfl
  have F18 := fun_mk (st := sWInit) l18 c18 k18
  have B18 := F18.binds (ps := ["self", "most"]) fun _ _ _ _ _ _ us hl => match us, hl with | [_, _], _ => rfl
  have F19 := fun_mk (st := sPInit) l19 c19 k19
  have B19 := F19.binds (ps := ["self", "pages", "most", "words"]) fun _ _ _ _ _ _ us hl => match us, hl with | [_, _, _, _], _ => rfl
  have F20 := fun_mk (st := sCell) l20 c20 k20
  have D20 : Dn K mg "_law_cell_at" sCell ["_law_script", "_law_k"] f20 _ := ⟨F20, PySem.W.mg_of X G a20, F20.binds (ps := ["_law_script", "_law_k"]) fun _ _ _ _ _ _ us hl => match us, hl with | [_, _], _ => rfl⟩
  have F21 := fun_mk (st := sLWhole) l21 c21 k21
  have D21 : Dn K mg "_law_whole" sLWhole ["_law_found"] f21 _ := ⟨F21, PySem.W.mg_of X G a21, F21.binds (ps := ["_law_found"]) fun _ _ _ _ _ _ us hl => match us, hl with | [_], _ => rfl⟩
  have F22 := fun_mk (st := sRow) l22 c22 k22
  have D22 : Dn K mg "_law_row_by" sRow ["_law_mixed", "_law_many"] f22 _ := ⟨F22, PySem.W.mg_of X G a22, F22.binds (ps := ["_law_mixed", "_law_many"]) fun _ _ _ _ _ _ us hl => match us, hl with | [_, _], _ => rfl⟩
  have F23 := fun_mk (st := sCopy) l23 c23 k23
  have D23 : Dn K mg "_law_copy" sCopy ["_law_pages_here"] f23 _ := ⟨F23, PySem.W.mg_of X G a23, F23.binds (ps := ["_law_pages_here"]) fun _ _ _ _ _ _ us hl => match us, hl with | [_], _ => rfl⟩
  have F24 := fun_mk (st := sIsI) l24 c24 k24
  have D24 : Dn K mg "_law_is_image" sIsI ["_law_found", "_law_due"] f24 _ := ⟨F24, PySem.W.mg_of X G a24, F24.binds (ps := ["_law_found", "_law_due"]) fun _ _ _ _ _ _ us hl => match us, hl with | [_, _], _ => rfl⟩
  have F25 := fun_mk (st := sPgs) l25 c25 k25
  have D25 : Dn K mg "_law_pages" sPgs ["_law_script"] f25 _ := ⟨F25, PySem.W.mg_of X G a25, F25.binds (ps := ["_law_script"]) fun _ _ _ _ _ _ us hl => match us, hl with | [_], _ => rfl⟩
  have F26 := fun_mk (st := sNames) l26 c26 k26
  have D26 : Dn K mg "_law_names" sNames ["_law_e"] f26 _ := ⟨F26, PySem.W.mg_of X G a26, F26.binds (ps := ["_law_e"]) fun _ _ _ _ _ _ us hl => match us, hl with | [_], _ => rfl⟩
  have F27 := fun_mk (st := sShR) l27 c27 k27
  have D27 : Dn K mg "_law_shelf_refused" sShR ["_law_most"] f27 _ := ⟨F27, PySem.W.mg_of X G a27, F27.binds (ps := ["_law_most"]) fun _ _ _ _ _ _ us hl => match us, hl with | [_], _ => rfl⟩
  have F28 := fun_mk (st := sRefd) l28 c28 k28
  have D28 : Dn K mg "_law_refused" sRefd ["_law_pages_here", "_law_most"] f28 _ := ⟨F28, PySem.W.mg_of X G a28, F28.binds (ps := ["_law_pages_here", "_law_most"]) fun _ _ _ _ _ _ us hl => match us, hl with | [_, _], _ => rfl⟩
  have F29 := fun_mk (st := sNoI) l29 c29 k29
  have D29 : Dn K mg "_law_no_image" sNoI ["_law_pages_here", "_law_cell"] f29 _ := ⟨F29, PySem.W.mg_of X G a29, F29.binds (ps := ["_law_pages_here", "_law_cell"]) fun _ _ _ _ _ _ us hl => match us, hl with | [_, _], _ => rfl⟩
  have F30 := fun_mk (st := sGoo) l30 c30 k30
  have D30 : Dn K mg "_law_good" sGoo ["_law_pages_here", "_law_most"] f30 _ := ⟨F30, PySem.W.mg_of X G a30, F30.binds (ps := ["_law_pages_here", "_law_most"]) fun _ _ _ _ _ _ us hl => match us, hl with | [_, _], _ => rfl⟩
  have F31 := fun_mk (st := sLaw) l31 c31 k31
  have D31 : Dn K mg "law" sLaw ["_law_script"] fa _ := ⟨F31, PySem.W.mg_of X G a31, F31.binds (ps := ["_law_script"]) fun _ _ _ _ _ _ us hl => match us, hl with | [_], _ => rfl⟩
  have T : Txt K mg := ⟨PySem.W.mg_none_of X G z_isinstance, PySem.W.mg_none_of X G z_int, PySem.W.mg_none_of X G z_bool, PySem.W.mg_none_of X G z_list, PySem.W.mg_none_of X G z_len, PySem.W.mg_none_of X G z_all, PySem.W.mg_none_of X G z_range⟩
  have S0 : Sto K mg xC xNP xNL xNW xNI := ⟨⟨pg_C, hd_C, po_C, sa_C⟩, nh, ⟨tk0, PySem.W.mg_of X G v0⟩, ⟨tk1, PySem.W.mg_of X G v1⟩, ⟨tk2, PySem.W.mg_of X G v2⟩, PySem.W.mg_of X G n_NP, xi_NP, PySem.W.mg_of X G n_NL, xi_NL, PySem.W.mg_of X G n_NW, xi_NW, PySem.W.mg_of X G n_NI, xi_NI⟩
  have SS : Shf K mg xSC := ⟨⟨pg_SC, hd_SC, po_SC, sa_SC⟩, nmo, nse, ⟨tk3, PySem.W.mg_of X G v3⟩⟩
  have PC : Plc K xPL := ⟨⟨pg_PL, hd_PL, po_PL, sa_PL⟩, nme, nba, nra, nan⟩
  have NSf : ShN K mg xNS := ⟨xi_NS, PySem.W.mg_of X G n_NS⟩
  have Y : Zt mg := ⟨PySem.W.mg_none_of X G z_tuple⟩
  have IS : Abv K mg xPL xWC xST := ⟨aw1, aw2, aw3, as1, as2, as3, PySem.W.mg_of X G n_WC, PySem.W.mg_of X G n_ST⟩
  have ek0 : EX.Cls K xNI := ⟨kNI_e1, kNI_e2, kNI_e3, kNI_e4, kNI_e5, kNI_e6, kNI_e7⟩
  have X0 : Kd K mg xHE xNI true false xNI xNS xNP xNW xFA := ⟨PySem.W.mg_of X G n_NI, PySem.W.mg_of X G n_NS, PySem.W.mg_of X G n_NP, PySem.W.mg_of X G n_NW, PySem.W.mg_of X G n_FA, ⟨ek0, .inr (.inl ⟨_, rfl, rfl, kNI_t1, kNI_e6, kNI_t3⟩)⟩, ⟨ek0, .inl ⟨_, rfl, rfl, u_NI_NS⟩⟩, ⟨ek0, .inl ⟨_, rfl, rfl, u_NI_NP⟩⟩, ⟨ek0, .inl ⟨_, rfl, rfl, u_NI_NW⟩⟩, ⟨ek0, .inl ⟨_, rfl, rfl, u_NI_FA⟩⟩, ⟨ek0, .inr (.inr ⟨_, rfl, rfl, by kernel_rfl, kNI_t4⟩)⟩, PySem.W.mg_none_of X G z_ValueError, kNI_ex, PySem.W.mg_of X G n_HE⟩
  have ek1 : EX.Cls K xNS := ⟨kNS_e1, kNS_e2, kNS_e3, kNS_e4, kNS_e5, kNS_e6, kNS_e7⟩
  have X1 : Kd K mg xHE xNS false true xNI xNS xNP xNW xFA := ⟨PySem.W.mg_of X G n_NI, PySem.W.mg_of X G n_NS, PySem.W.mg_of X G n_NP, PySem.W.mg_of X G n_NW, PySem.W.mg_of X G n_FA, ⟨ek1, .inl ⟨_, rfl, rfl, u_NS_NI⟩⟩, ⟨ek1, .inr (.inl ⟨_, rfl, rfl, kNS_t1, kNS_e6, kNS_t3⟩)⟩, ⟨ek1, .inl ⟨_, rfl, rfl, u_NS_NP⟩⟩, ⟨ek1, .inl ⟨_, rfl, rfl, u_NS_NW⟩⟩, ⟨ek1, .inl ⟨_, rfl, rfl, u_NS_FA⟩⟩, ⟨ek1, .inr (.inr ⟨_, rfl, rfl, by kernel_rfl, kNS_t4⟩)⟩, PySem.W.mg_none_of X G z_ValueError, kNS_ex, PySem.W.mg_of X G n_HE⟩
  have M3_C : Me K xC "size" "Memory.size" sSize ["self"] f3 _ := ⟨F3, ⟨a3, i3, k3⟩, B3⟩
  have M4_C : Me K xC "has" "Memory.has" sHas ["self", "page"] f4 _ := ⟨F4, ⟨a4, i4, k4⟩, B4⟩
  have M5_C : Me K xC "word_at" "Memory.word_at" sWordAt ["self", "page", "cell"] f5 _ := ⟨F5, ⟨a5, i5, k5⟩, B5⟩
  have M10_SC : Me K xSC "told" "Shelf.told" sSTold ["self"] f10 _ := ⟨F10, ⟨a10, i10, k10⟩, B10⟩
  have M11_PL : Me K xPL "size" "Plain.size" sPSize ["self"] f11 _ := ⟨F11, ⟨a11, i11, k11⟩, B11⟩
  have M12_PL : Me K xPL "has" "Plain.has" sPHas ["self", "page"] f12 _ := ⟨F12, ⟨a12, i12, k12⟩, B12⟩
  have M13_PL : Me K xPL "word_at" "Plain.word_at" sPWordAt ["self", "page", "cell"] f13 _ := ⟨F13, ⟨a13, i13, k13⟩, B13⟩
  have M14_PL : Me K xPL "root" "Ways.root" sRoot ["self"] f14 _ := ⟨F14, ⟨a14, i14, k14⟩, B14⟩
  have M15_PL : Me K xPL "shelf" "Ways.shelf" sShelf ["self"] f15 _ := ⟨F15, ⟨a15, i15, k15⟩, B15⟩
  have M16_PL : Me K xPL "words_of" "Store.words_of" sWords ["self", "page"] f16 _ := ⟨F16, ⟨a16, i16, k16⟩, B16⟩
  have M17_PL : Me K xPL "pages" "Ways.pages" sWPages ["self"] f17 _ := ⟨F17, ⟨a17, i17, k17⟩, B17⟩
  refine ⟨PySem.W.fnOf "law" "law" (defArgs sLaw) (defBody sLaw) (defScope sLaw) .none kV31 dc31 pm31 an31 cd31 ct31, fun s v => .of_eq rfl, fun base _ _ => ?_⟩
  have g0_whole : FnOk l.prog w K mg base CX0 1 f0 _ ["thing"] spWhole := ok_whole F0 T
  have g1_below : FnOk l.prog w K mg base CX0 2 f1 _ ["thing", "bound"] spBelow := ok_below F1 D0 T
  have g2_word : FnOk l.prog w K mg base CX0 3 f2 _ ["thing"] spWord := ok_word F2 D1 g1_below S0
  have g3_size : FnOk l.prog w K mg base CX0 1 f3 _ ["self"] (spSize xC) := ok_size F3 S0 T
  have g4_has : FnOk l.prog w K mg base CX0 3 f4 _ ["self", "page"] (spHas xC) := ok_has F4 D1 g1_below M3_C g3_size S0
  have g5_wordat : FnOk l.prog w K mg base CX0 1 f5 _ ["self", "page", "cell"] (spWordAt xC) := ok_wordat F5 S0
  have g6_eight : FnOk l.prog w K mg base CX0 4 f6 _ ["thing"] spEight := ok_eight F6 D2 g2_word S0 T
  have g7_image : FnOk l.prog w K mg base (CXr l.prog w) 5 f7 _ ["pages"] spImage := ok_image F7 D6 g6_eight S0 T
  have g8_init : FnOk l.prog w K mg base (CXr l.prog w) 6 f8 _ ["self", "pages"] (spInit xC) := ok_init F8 D7 g7_image S0 T
  have g9_sinit : FnOk l.prog w K mg base CX0 2 f9 _ ["self", "most"] (spSInit xSC) := ok_sinit F9 D0 g0_whole SS
  have g10_stold : FnOk l.prog w K mg base CX0 1 f10 _ ["self"] (spSTold xSC) := ok_stold F10 SS
  have g11_psz : FnOk l.prog w K mg base CX0 2 f11 _ ["self"] (spPSize xC xSC xPL) := ok_psz F11 M3_C g3_size S0 PC
  have g12_phas : FnOk l.prog w K mg base CX0 4 f12 _ ["self", "page"] (spPHas xC xSC xPL) := ok_phas F12 M4_C g4_has S0 PC
  have g13_pwat : FnOk l.prog w K mg base CX0 2 f13 _ ["self", "page", "cell"] (spPWordAt xC xSC xPL) := ok_pwat F13 M5_C g5_wordat S0 PC
  have g14_root : FnOk l.prog w K mg base CX0 1 f14 _ ["self"] (spRoot xC xSC xPL) := ok_root F14 PC
  have g15_shelf : FnOk l.prog w K mg base CX0 2 f15 _ ["self"] (spShelf xC xSC xPL) := ok_shelf F15 M10_SC g10_stold PC SS
  have g16_words : FnOk l.prog w K mg base CX0 3 f16 _ ["self", "page"] (spWords xC xSC xPL) := ok_words F16 M13_PL g13_pwat S0 PC T
  have g17_wpages : FnOk l.prog w K mg base CX0 5 f17 _ ["self"] (spWPages xC xSC xPL) := ok_wpages F17 M11_PL g11_psz M12_PL g12_phas M16_PL g16_words PC T
  have g18_winit : FnOk l.prog w K mg base CX0 4 f18 _ ["self", "most"] (spWInit xSC xPL) := ok_winit F18 ⟨mk_SC, a9, i9, kc_SC⟩ (PySem.W.mg_of X G n_SC) B9 g9_sinit PC
  have g19_plinit : FnOk l.prog w K mg base CX0 8 f19 _ ["self", "pages", "most", "words"] (spPInit xC xSC xPL) := ok_plinit F19 ⟨mk_C, a8, i8, kc_C⟩ (PySem.W.mg_of X G n_C) B8 g8_init ⟨sp_WC, rd_WC, a18, k18⟩ (PySem.W.mg_of X G n_WC) B18 g18_winit PC T
  have g6_eightN : FnOk l.prog w K mg base CX0 4 f6 _ ["thing"] spEightN := ok_eightN F6 D2 g2_word S0 T
  have g6_o21 : FnOk l.prog w K mg base CX0 4 f6 _ ["thing"] spEightB := FnOk.or g6_eight g6_eightN
  have g7_imageN : FnOk l.prog w K mg base (CXr l.prog w) 5 f7 _ ["pages"] (spImageN xNI) := ok_imageN F7 D6 g6_o21 S0 T
  have g9_sinitN : FnOk l.prog w K mg base (CXr l.prog w) 2 f9 _ ["self", "most"] (spSInitN xSC xNS) := ok_sinitN F9 D0 g0_whole SS NSf
  have g8_minitN : FnOk l.prog w K mg base (CXr l.prog w) 6 f8 _ ["self", "pages"] (spMInitN xC xNI) := ok_minitN F8 D7 g7_imageN
  have g18_winitN : FnOk l.prog w K mg base (CXr l.prog w) 4 f18 _ ["self", "most"] (spWInitN xPL xNS) := ok_winitN F18 ⟨mk_SC, a9, i9, kc_SC⟩ (PySem.W.mg_of X G n_SC) B9 g9_sinitN PC
  have g19_plinitI : FnOk l.prog w K mg base (CXr l.prog w) 8 f19 _ ["self", "pages", "most", "words"] (spPInitI xPL xNI) := ok_plinitI F19 ⟨mk_C, a8, i8, kc_C⟩ (PySem.W.mg_of X G n_C) B8 g8_minitN
  have g19_plinitS : FnOk l.prog w K mg base (CXr l.prog w) 8 f19 _ ["self", "pages", "most", "words"] (spPInitS xPL xNS) := ok_plinitS F19 ⟨mk_C, a8, i8, kc_C⟩ (PySem.W.mg_of X G n_C) B8 g8_init ⟨sp_WC, rd_WC, a18, k18⟩ (PySem.W.mg_of X G n_WC) B18 g18_winitN PC
  have g19_o28 : FnOk l.prog w K mg base (CXr l.prog w) 8 f19 _ ["self", "pages", "most", "words"] (spPInitN xPL xNI xNS) := FnOk.or g19_plinitI g19_plinitS
  have g20_cell : FnOk l.prog w K mg base CX0 1 f20 _ ["_law_script", "_law_k"] (spCell K) := ok_cell F20 T
  have g21_lwhole : FnOk l.prog w K mg base CX0 1 f21 _ ["_law_found"] spWhole := ok_lwhole F21 T
  have g22_row : FnOk l.prog w K mg base CX0 1 f22 _ ["_law_mixed", "_law_many"] spRow := ok_row F22
  have g23_copy : FnOk l.prog w K mg base CX0 1 f23 _ ["_law_pages_here"] spCopy := ok_copy F23 T
  have g24_isi : FnOk l.prog w K mg base CX0 2 f24 _ ["_law_found", "_law_due"] spIsI := ok_isi F24 D21 g21_lwhole T
  have g25_pages : FnOk l.prog w K mg base CX0 2 f25 _ ["_law_script"] (spPgs K) := ok_pages F25 D20 g20_cell D22 g22_row T
  have g26_names0 : FnOkQ l.prog w K mg base 1 f26 _ ["_law_e"] (spNames xNI ssI) := ok_names0 F26 T X0
  have g26_names1 : FnOkQ l.prog w K mg base 1 f26 _ ["_law_e"] (spNames xNS ssS) := ok_names1 F26 T X1
  have g26_o37 : FnOkQ l.prog w K mg base 1 f26 _ ["_law_e"] (spNames2 xNI xNS) := FnOkQ.or g26_names0 g26_names1
  have g27_shr : FnOk l.prog w K mg base CX0 4 f27 _ ["_law_most"] spShR := ok_shr F27 ⟨mk_SC, a9, i9, kc_SC⟩ (PySem.W.mg_of X G n_SC) B9 g9_sinitN D26 g26_o37 X1
  have g28_refd : FnOk l.prog w K mg base CX0 10 f28 _ ["_law_pages_here", "_law_most"] spRefd := ok_refd F28 ⟨mk_PL, a19, i19, kc_PL⟩ (PySem.W.mg_of X G n_PL) B19 g19_o28 D26 g26_o37 X0 X1
  have g29_noi : FnOk l.prog w K mg base CX0 1 f29 _ ["_law_pages_here", "_law_cell"] spNoI := ok_noi F29 T Y
  have g30_goo : FnOk l.prog w K mg base CX0 10 f30 _ ["_law_pages_here", "_law_most"] spGoo := ok_goo F30 D23 g23_copy D21 g21_lwhole D24 g24_isi M11_PL g11_psz M14_PL g14_root M15_PL g15_shelf M17_PL g17_wpages ⟨mk_PL, a19, i19, kc_PL⟩ (PySem.W.mg_of X G n_PL) B19 g19_plinit PC IS T
  exact ok_law F31 D20 g20_cell D25 g25_pages D29 g29_noi D27 g27_shr D28 g28_refd D30 g30_goo T
theorem walk {l : PySem.W.OpenLaw} {q : Program} {loose : List Str} {XP : (Str → Option Value) → Heap → Prop} {YP : World → Heap → Prop} {d : DefRec} {K : Params → PySem.W.Frag} (hn : l.most = some 63) (hdf : d.params.defaults = [])
    (hY : ∀ (w : World) (h : Heap), YP w h → (K w.params).In h)
    (F : ∀ (w : World) (mg : Str → Option Value) (fa : Addr) (h : Heap), (K w.params).In h → h.Ns mainGlobals mg → mg d.name = some (.ref fa) →
      ∃ fd : FuncData, (∀ (s : Shared) (u : Value), BindsTo s fd ⟨[u], []⟩ [("_law_script", u)]) ∧ ∀ base : Heap, (K w.params).In base → base.Ns mainGlobals mg → FnOk l.prog w (K w.params) mg base CX0 11 fa fd ["_law_script"] (spLaw (K w.params))) :
    PySem.W.WalkO q loose XP YP l.row.toRowW d [] (fun f vs => PySem.call f vs) :=
  L2.walk_of (n := 63) (k := 11) (x := "_law_script") (CX := fun _ => CX0) (sp := fun w => spLaw (K w.params)) hn (by decide) hdf ⟨rfl, by decide, by decide⟩ hY F (fun _ _ a ns hl _ hS => ⟨a, ns, rfl, hS, hl, fun _ => rfl⟩) fun _ _ _ _ _ z => z
end K23
open PySem PySem.W PyProof.Rows
set_option maxRecDepth 100000 in
set_option maxHeartbeats 0 in
theorem PySem.Challenge.cw_shadowpages_k23_refused_makings_holds : PySem.Challenge.rw_shadowpages_k23_refused_makings.Holds := by
  w_on; o_law
  refine holds_open (q := K23.vw) (loose := []) (Xt := fun s => xlAt K23.vw [] s && recOk [] s) (XP := XL K23.vw []) (Yf := Hook.obs (kHook K23.KF K23.asF K23.hF)) (Ya := Hook.val (kHook K23.KF K23.asF K23.hF)) (YP := Hook.says (kHook K23.KF K23.asF K23.hF)) (N := 9750) ?hl (Hook.of (kHook K23.KF K23.asF K23.hF)) (Hook.keeps (kHook K23.KF K23.asF K23.hF)) (fun s e => xl_of s (Bool.and_eq_true_iff.mp e).1) XL.keeps (by rfl) (by rfl) (by rfl) (fun s e => recFacts_of (Bool.and_eq_true_iff.mp e).2) (by rfl) (by first | assumption | decide +kernel) (by decide +kernel) ⟨rfl, rfl, rfl, rfl, rfl, by decide +kernel⟩ ?hw ?hc
  case hl => exact K23.hl
  case hw => w_witness2
  k_fill
  refine K23.walk (l := PySem.Challenge.rw_shadowpages_k23_refused_makings) rfl rfl (fun w h Y => PySem.W.kIn_of Y) ?F
  case F =>
    intro w mg fa h KX G hmg
    refine' K23.all_mk KX G hmg ?n_C ?n_SC ?n_PL ?n_WC ?n_ST ?n_NP ?n_NL ?n_NW ?n_NI ?n_NS ?n_FA ?n_HE ?a0 ?l0 ?c0 ?k0 ?a1 ?l1 ?c1 ?k1 ?a2 ?l2 ?c2 ?k2 ?a3 ?l3 ?c3 ?k3 ?a4 ?l4 ?c4 ?k4 ?a5 ?l5 ?c5 ?k5 ?a6 ?l6 ?c6 ?k6 ?a7 ?l7 ?c7 ?k7 ?a8 ?l8 ?c8 ?k8 ?a9 ?l9 ?c9 ?k9 ?a10 ?l10 ?c10 ?k10 ?a11 ?l11 ?c11 ?k11 ?a12 ?l12 ?c12 ?k12 ?a13 ?l13 ?c13 ?k13 ?a14 ?l14 ?c14 ?k14 ?a15 ?l15 ?c15 ?k15 ?a16 ?l16 ?c16 ?k16 ?a17 ?l17 ?c17 ?k17 ?a18 ?l18 ?c18 ?k18 ?a19 ?l19 ?c19 ?k19 ?a20 ?l20 ?c20 ?k20 ?a21 ?l21 ?c21 ?k21 ?a22 ?l22 ?c22 ?k22 ?a23 ?l23 ?c23 ?k23 ?a24 ?l24 ?c24 ?k24 ?a25 ?l25 ?c25 ?k25 ?a26 ?l26 ?c26 ?k26 ?a27 ?l27 ?c27 ?k27 ?a28 ?l28 ?c28 ?k28 ?a29 ?l29 ?c29 ?k29 ?a30 ?l30 ?c30 ?k30 ?a31 ?l31 ?c31 ?k31 ?v0 ?v1 ?v2 ?v3 ?z_isinstance ?z_int ?z_bool ?z_list ?z_len ?z_all ?z_range ?z_tuple ?z_ValueError ?xi_NP ?xi_NL ?xi_NW ?xi_NI ?xi_NS ?nh ?nmo ?nse ?nme ?nba ?nra ?nan ?aw1 ?aw2 ?aw3 ?as1 ?as2 ?as3 ?kNI_e1 ?kNI_e2 ?kNI_e3 ?kNI_e4 ?kNI_e5 ?kNI_e6 ?kNI_e7 ?kNI_t1 ?kNI_t3 ?kNI_t4 ?kNI_ex ?u_NI_NS ?u_NI_NP ?u_NI_NW ?u_NI_FA ?kNS_e1 ?kNS_e2 ?kNS_e3 ?kNS_e4 ?kNS_e5 ?kNS_e6 ?kNS_e7 ?kNS_t1 ?kNS_t3 ?kNS_t4 ?kNS_ex ?u_NS_NI ?u_NS_NP ?u_NS_NW ?u_NS_FA ?i3 ?i4 ?i5 ?i8 ?i9 ?i10 ?i11 ?i12 ?i13 ?i14 ?i15 ?i16 ?i17 ?i19 ?pg_C ?hd_C ?po_C ?sa_C ?pg_PL ?hd_PL ?po_PL ?sa_PL ?pg_SC ?hd_SC ?po_SC ?sa_SC ?mk_C ?kc_C ?mk_PL ?kc_PL ?mk_SC ?kc_SC ?sp_WC ?rd_WC
    (case n_C => k_is)
    (case n_SC => k_is)
    (case n_PL => k_is)
    (case n_WC => k_is)
    (case n_ST => k_is)
    (case n_NP => k_is)
    (case n_NL => k_is)
    (case n_NW => k_is)
    (case n_NI => k_is)
    (case n_NS => k_is)
    (case n_FA => k_is)
    (case n_HE => k_is)
    (case a0 => k_is)
    (case l0 => k_is)
    (case c0 => k_is)
    (case k0 => k_is)
    (case a1 => k_is)
    (case l1 => k_is)
    (case c1 => k_is)
    (case k1 => k_is)
    (case a2 => k_is)
    (case l2 => k_is)
    (case c2 => k_is)
    (case k2 => k_is)
    (case a3 => k_is)
    (case l3 => k_is)
    (case c3 => k_is)
    (case k3 => k_is)
    (case a4 => k_is)
    (case l4 => k_is)
    (case c4 => k_is)
    (case k4 => k_is)
    (case a5 => k_is)
    (case l5 => k_is)
    (case c5 => k_is)
    (case k5 => k_is)
    (case a6 => k_is)
    (case l6 => k_is)
    (case c6 => k_is)
    (case k6 => k_is)
    (case a7 => k_is)
    (case l7 => k_is)
    (case c7 => k_is)
    (case k7 => k_is)
    (case a8 => k_is)
    (case l8 => k_is)
    (case c8 => k_is)
    (case k8 => k_is)
    (case a9 => k_is)
    (case l9 => k_is)
    (case c9 => k_is)
    (case k9 => k_is)
    (case a10 => k_is)
    (case l10 => k_is)
    (case c10 => k_is)
    (case k10 => k_is)
    (case a11 => k_is)
    (case l11 => k_is)
    (case c11 => k_is)
    (case k11 => k_is)
    (case a12 => k_is)
    (case l12 => k_is)
    (case c12 => k_is)
    (case k12 => k_is)
    (case a13 => k_is)
    (case l13 => k_is)
    (case c13 => k_is)
    (case k13 => k_is)
    (case a14 => k_is)
    (case l14 => k_is)
    (case c14 => k_is)
    (case k14 => k_is)
    (case a15 => k_is)
    (case l15 => k_is)
    (case c15 => k_is)
    (case k15 => k_is)
    (case a16 => k_is)
    (case l16 => k_is)
    (case c16 => k_is)
    (case k16 => k_is)
    (case a17 => k_is)
    (case l17 => k_is)
    (case c17 => k_is)
    (case k17 => k_is)
    (case a18 => k_is)
    (case l18 => k_is)
    (case c18 => k_is)
    (case k18 => k_is)
    (case a19 => k_is)
    (case l19 => k_is)
    (case c19 => k_is)
    (case k19 => k_is)
    (case a20 => k_is)
    (case l20 => k_is)
    (case c20 => k_is)
    (case k20 => k_is)
    (case a21 => k_is)
    (case l21 => k_is)
    (case c21 => k_is)
    (case k21 => k_is)
    (case a22 => k_is)
    (case l22 => k_is)
    (case c22 => k_is)
    (case k22 => k_is)
    (case a23 => k_is)
    (case l23 => k_is)
    (case c23 => k_is)
    (case k23 => k_is)
    (case a24 => k_is)
    (case l24 => k_is)
    (case c24 => k_is)
    (case k24 => k_is)
    (case a25 => k_is)
    (case l25 => k_is)
    (case c25 => k_is)
    (case k25 => k_is)
    (case a26 => k_is)
    (case l26 => k_is)
    (case c26 => k_is)
    (case k26 => k_is)
    (case a27 => k_is)
    (case l27 => k_is)
    (case c27 => k_is)
    (case k27 => k_is)
    (case a28 => k_is)
    (case l28 => k_is)
    (case c28 => k_is)
    (case k28 => k_is)
    (case a29 => k_is)
    (case l29 => k_is)
    (case c29 => k_is)
    (case k29 => k_is)
    (case a30 => k_is)
    (case l30 => k_is)
    (case c30 => k_is)
    (case k30 => k_is)
    (case a31 => k_is)
    (case l31 => k_is)
    (case c31 => k_is)
    (case k31 => k_is)
    (case v0 => k_is)
    (case v1 => k_is)
    (case v2 => k_is)
    (case v3 => k_is)
    (case z_isinstance => k_is)
    (case z_int => k_is)
    (case z_bool => k_is)
    (case z_list => k_is)
    (case z_len => k_is)
    (case z_all => k_is)
    (case z_range => k_is)
    (case z_tuple => k_is)
    (case z_ValueError => k_is)
    (case xi_NP => kernel_rfl)
    (case xi_NL => kernel_rfl)
    (case xi_NW => kernel_rfl)
    (case xi_NI => kernel_rfl)
    (case xi_NS => kernel_rfl)
    (case nh => k_is)
    (case nmo => k_is)
    (case nse => k_is)
    (case nme => k_is)
    (case nba => k_is)
    (case nra => k_is)
    (case nan => k_is)
    (case aw1 => k_is)
    (case aw2 => k_is)
    (case aw3 => k_is)
    (case as1 => k_is)
    (case as2 => k_is)
    (case as3 => k_is)
    (case kNI_e1 => k_is)
    (case kNI_e2 => k_is)
    (case kNI_e3 => k_is)
    (case kNI_e4 => k_is)
    (case kNI_e5 => k_is)
    (case kNI_e6 => k_is)
    (case kNI_e7 => k_is)
    (case kNI_t1 => k_is)
    (case kNI_t3 => k_is)
    (case kNI_t4 => k_is)
    (case kNI_ex => kernel_rfl)
    (case u_NI_NS => kin_no)
    (case u_NI_NP => kin_no)
    (case u_NI_NW => kin_no)
    (case u_NI_FA => kin_no)
    (case kNS_e1 => k_is)
    (case kNS_e2 => k_is)
    (case kNS_e3 => k_is)
    (case kNS_e4 => k_is)
    (case kNS_e5 => k_is)
    (case kNS_e6 => k_is)
    (case kNS_e7 => k_is)
    (case kNS_t1 => k_is)
    (case kNS_t3 => k_is)
    (case kNS_t4 => k_is)
    (case kNS_ex => kernel_rfl)
    (case u_NS_NI => kin_no)
    (case u_NS_NP => kin_no)
    (case u_NS_NW => kin_no)
    (case u_NS_FA => kin_no)
    (case i3 => k_is)
    (case i4 => k_is)
    (case i5 => k_is)
    (case i8 => k_is)
    (case i9 => k_is)
    (case i10 => k_is)
    (case i11 => k_is)
    (case i12 => k_is)
    (case i13 => k_is)
    (case i14 => k_is)
    (case i15 => k_is)
    (case i16 => k_is)
    (case i17 => k_is)
    (case i19 => k_is)
    (case pg_C => k_is)
    (case hd_C => k_is)
    (case po_C => k_is)
    (case sa_C => k_is)
    (case pg_PL => k_is)
    (case hd_PL => k_is)
    (case po_PL => k_is)
    (case sa_PL => k_is)
    (case pg_SC => k_is)
    (case hd_SC => k_is)
    (case po_SC => k_is)
    (case sa_SC => k_is)
    (case mk_C => k_is)
    (case kc_C => k_is)
    (case mk_PL => k_is)
    (case kc_PL => k_is)
    (case mk_SC => k_is)
    (case kc_SC => k_is)
    (case sp_WC => k_is)
    (case rd_WC => k_is)

end
