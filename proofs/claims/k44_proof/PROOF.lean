import PyProof.Rows.All
import Wide.All
import OpenK.AllK
import Wide.FinOn
import Lean
import PyProof.EqAt
import PyProof.EqKinds
import PyProof.TupleCall
import PySem.Challenge.RW_shadowpages_k44_parts_lead
section
set_option Elab.async false
set_option linter.all false
set_option maxRecDepth 100000
set_option maxHeartbeats 4000000
namespace L2
open PySem
def inClass (s : Stmt) (j : Nat) : Stmt := match s with
  | .ClassDef _ _ _ body _ _ _ _ _ _ _ => body.getD j (.Pass ⟨0, 0, 0, 0⟩)
  | _ => .Pass ⟨0, 0, 0, 0⟩
def defArgs (s : Stmt) : Arguments := match s with
  | .FunctionDef _ a _ _ _ _ _ _ _ _ => a
  | _ => { posonlyargs := [], args := [], vararg := none, kwonlyargs := [], kw_defaults := [], kwarg := none, defaults := [] }
def defBody (s : Stmt) : List Stmt := match s with
  | .FunctionDef _ _ b _ _ _ _ _ _ _ => b
  | _ => []
def defScope (s : Stmt) : Scope := match s with
  | .FunctionDef _ _ _ _ _ _ sc _ _ _ => sc
  | _ => { kind := .function, names := [], isGenerator := false, isCoroutine := false }

end L2

end
section
set_option Elab.async false
set_option linter.all false
set_option maxRecDepth 100000
set_option maxHeartbeats 4000000
namespace HT1
open PySem PySem.W PyProof.Rows

def topRunT (tb : String → Option Builtin) (p : Program) (w : World) (n₀ : Nat) (ann : Option Value) : Nat → SharedT → Thread → Option SharedT
  | 0, _, _ => none
  | n + 1, s, t => match through t with
    | true => some s
    | false => match stepOk n₀ ann t with
      | false => none
      | true => match stepT (denote tb) p w s t with
        | some (s', t') => topRunT tb p w n₀ ann n s' t'
        | none => none
theorem topRun_of {tb : String → Option Builtin} {p : Program} {w : World} {n₀ : Nat} {ann : Option Value} : ∀ {n : Nat} {s s' : SharedT} {t : Thread}, topRunT tb p w n₀ ann n s t = some s' → topRun tb p w n₀ ann n s.abs t = some s'.abs
  | 0, _, _, _, h => by cases h
  | n + 1, s, s', t, h => by
    unfold topRunT at h
    unfold topRun
    cases ht : through t with
    | true => rw [ht] at h; cases h; rfl
    | false =>
      rw [ht] at h
      cases hk : stepOk n₀ ann t with
      | false => rw [hk] at h; cases h
      | true =>
        rw [hk] at h
        cases hs : stepT (denote tb) p w s t with
        | none => rw [hs] at h; cases h
        | some r => obtain ⟨s₂, t₂⟩ := r; rw [hs] at h; rw [stepT_spec hs]; exact topRun_of h

def ofL : List Obj → Nat → BT → BT
  | [], _, t => t
  | o :: l, n, t => ofL l (n + 1) (t.ins n o)
noncomputable def bootT (P : Params) : BT := ofL (boot_heap P).objs.toList 0 .nil
def bootN : Nat := 11
noncomputable def bootS (w : World) (os : OsState) : SharedT := ⟨bootT w.params, bootN, (boot_heap w.params).life, Array.mk [], boot_drawn, boot_toks, os⟩

theorem boot_size (w : World) : ((boot_heap w.params).isNs mainGlobals && (Array.mk [] : Array GenState).size == 0, (boot_heap w.params).objs.size, (boot_heap w.params).nsMap mainGlobals "__annotations__") = (true, 11, some (.ref 6)) := by kernel_rfl

theorem boot_abs (w : World) (os : OsState) : (bootS w os).abs = ⟨boot_heap w.params, Array.mk [], boot_drawn, boot_toks, os⟩ := by kernel_rfl

noncomputable def lookT {α : Type} (p q : Program) (loose : List Str) (Xt : Shared → Bool) (Yf : Shared → α) (N : Nat) (g0 : Bool) (w : World) (os : OsState) :=
  (topRunT treeTable p w 11 (some (.ref 6)) N (bootS w os) (topStub p)).map fun s =>
    ((staticsOk (importedModules p.main.body) (boot_heap w.params) s.abs.heap && namesBound p s.abs.heap && gensDone s.abs && laidKept (boot_heap w.params) s.abs.heap),
      openSeen q loose (importedModules p.main.body) Xt g0 s.abs, Yf s.abs)

theorem left_one {p q : Program} {loose : List Str} {Xt : Shared → Bool} {α : Type} {Yf : Shared → α} {Ya : World → α} {N : Nat} {g0 : Bool}
    (e : opening p = plainProg p.main.scope.names) (hN : Nat.ble 600 N = true) (f : ∀ s, fenceModules? p s = some s)
    (looks : ∀ w : World, (fun os => lookT p q loose Xt Yf N g0 w os) = fun _ => some (true, openGood q loose, Ya w)) : LeftO p q loose Xt Yf Ya N g0 := fun w => by
  obtain ⟨⟨h, gs, d, k, os⟩, eo, e'⟩ := Option.map_eq_some_iff.mp (boot_open e hN f w)
  obtain ⟨rfl, rfl, rfl, rfl⟩ : h = boot_heap w.params ∧ gs = Array.mk [] ∧ d = boot_drawn ∧ k = boot_toks := by simpa using e'
  obtain ⟨z1, z2, z3⟩ : _ ∧ _ ∧ _ := by simpa only [Prod.mk.injEq] using boot_size w
  obtain ⟨s1, r1, l⟩ := Option.map_eq_some_iff.mp (congrFun (looks w) os)
  obtain ⟨l1, l2, l3⟩ : _ ∧ _ ∧ _ := by simpa only [Prod.mk.injEq] using l
  have r := topRun_of r1
  rw [boot_abs] at r
  have t : topFrom treeTable p w N ⟨boot_heap w.params, Array.mk [], boot_drawn, boot_toks, os⟩ = some s1.abs := by
    unfold topFrom
    dsimp only
    rw [z1, z2, z3, r]
    show (match staticsOk (importedModules p.main.body) (boot_heap w.params) s1.abs.heap && namesBound p s1.abs.heap && gensDone s1.abs && laidKept (boot_heap w.params) s1.abs.heap with | true => _ | false => _) = _
    rw [l1]
  unfold openEnds
  rw [eo]
  show (topFrom treeTable p w N _).map _ = _
  rw [t]
  exact congrArg some (Prod.ext l2 l3)
end HT1
lay_quick HT1.lookT PySem.W.xlAt PySem.W.recOk PySem.W.openGood

end
section
set_option Elab.async false
set_option linter.all false
set_option maxRecDepth 100000
set_option maxHeartbeats 4000000
open PySem PySem.W PyProof.Rows
namespace K44
open PySem L2
def top (i : Nat) : Stmt := PySem.Challenge.pw_shadowpages_k44_parts_lead.main.body.getD i (.Pass ⟨0, 0, 0, 0⟩)
def KF (P : Params) : PySem.W.Frag :=
  (nat_lit 2, ⟨.none, none, (.dict #[] 0), #[]⟩) ::
  (nat_lit 3, ⟨(.type "dict"), none, (.dict #[⟨(PySem.PyData.keyHash P "__name__"), (.str "__name__" 165), (.str "law_shadowpages_k44_parts_lead" 910)⟩, ⟨(PySem.PyData.keyHash P "__doc__"), (.str "__doc__" 166), .none⟩, ⟨(PySem.PyData.keyHash P "__package__"), (.str "__package__" 167), .none⟩, ⟨(PySem.PyData.keyHash P "__loader__"), (.str "__loader__" 168), (.builtin "__main__.__loader__#opaque")⟩, ⟨(PySem.PyData.keyHash P "__spec__"), (.str "__spec__" 169), .none⟩, ⟨(PySem.PyData.keyHash P "__annotations__"), (.str "__annotations__" 170), (.ref 6)⟩, ⟨(PySem.PyData.keyHash P "__builtins__"), (.str "__builtins__" 171), (.ref 4)⟩, ⟨(PySem.PyData.keyHash P "__file__"), (.str "__file__" 173), (.str "/claim/cut.py" 172)⟩, ⟨(PySem.PyData.keyHash P "__cached__"), (.str "__cached__" 174), .none⟩, ⟨(PySem.PyData.keyHash P "_wall"), (.str "_wall" 193), (.ref 21)⟩, ⟨(PySem.PyData.keyHash P "WORDS"), (.str "WORDS" 195), (.int 281474976710656 194)⟩, ⟨(PySem.PyData.keyHash P "CELLS"), (.str "CELLS" 197), (.int 8 196)⟩, ⟨(PySem.PyData.keyHash P "MOST_PAGES"), (.str "MOST_PAGES" 199), (.int 24 198)⟩, ⟨(PySem.PyData.keyHash P "FRAMES"), (.str "FRAMES" 201), (.int 200 200)⟩, ⟨(PySem.PyData.keyHash P "HouseError"), (.str "HouseError" 221), (.ref 31)⟩, ⟨(PySem.PyData.keyHash P "NoWord"), (.str "NoWord" 237), (.ref 44)⟩, ⟨(PySem.PyData.keyHash P "NoRow"), (.str "NoRow" 253), (.ref 56)⟩, ⟨(PySem.PyData.keyHash P "NoPlace"), (.str "NoPlace" 269), (.ref 68)⟩, ⟨(PySem.PyData.keyHash P "NoPage"), (.str "NoPage" 285), (.ref 80)⟩, ⟨(PySem.PyData.keyHash P "NoImage"), (.str "NoImage" 301), (.ref 92)⟩, ⟨(PySem.PyData.keyHash P "NoShelf"), (.str "NoShelf" 317), (.ref 104)⟩, ⟨(PySem.PyData.keyHash P "NoFrame"), (.str "NoFrame" 333), (.ref 116)⟩, ⟨(PySem.PyData.keyHash P "NoRoom"), (.str "NoRoom" 349), (.ref 128)⟩, ⟨(PySem.PyData.keyHash P "NoBound"), (.str "NoBound" 365), (.ref 140)⟩, ⟨(PySem.PyData.keyHash P "NoName"), (.str "NoName" 381), (.ref 152)⟩, ⟨(PySem.PyData.keyHash P "NoWay"), (.str "NoWay" 397), (.ref 164)⟩, ⟨(PySem.PyData.keyHash P "Busy"), (.str "Busy" 413), (.ref 176)⟩, ⟨(PySem.PyData.keyHash P "Over"), (.str "Over" 429), (.ref 188)⟩, ⟨(PySem.PyData.keyHash P "NoOrder"), (.str "NoOrder" 445), (.ref 200)⟩, ⟨(PySem.PyData.keyHash P "NoProgram"), (.str "NoProgram" 470), (.ref 219)⟩, ⟨(PySem.PyData.keyHash P "NoText"), (.str "NoText" 495), (.ref 238)⟩, ⟨(PySem.PyData.keyHash P "Fault"), (.str "Fault" 524), (.ref 257)⟩, ⟨(PySem.PyData.keyHash P "is_whole"), (.str "is_whole" 533), (.ref 266)⟩, ⟨(PySem.PyData.keyHash P "is_below"), (.str "is_below" 541), (.ref 273)⟩, ⟨(PySem.PyData.keyHash P "is_word"), (.str "is_word" 548), (.ref 280)⟩, ⟨(PySem.PyData.keyHash P "is_eight_words"), (.str "is_eight_words" 556), (.ref 285)⟩, ⟨(PySem.PyData.keyHash P "check_image"), (.str "check_image" 564), (.ref 292)⟩, ⟨(PySem.PyData.keyHash P "check_word"), (.str "check_word" 571), (.ref 299)⟩, ⟨(PySem.PyData.keyHash P "Store"), (.str "Store" 667), (.ref 370)⟩, ⟨(PySem.PyData.keyHash P "Parts"), (.str "Parts" 778), (.ref 457)⟩, ⟨(PySem.PyData.keyHash P "Frames"), (.str "Frames" 909), (.ref 567)⟩, ⟨(PySem.PyData.keyHash P "_law_cell_at"), (.str "_law_cell_at" 919), (.ref 576)⟩, ⟨(PySem.PyData.keyHash P "_law_whole"), (.str "_law_whole" 926), (.ref 583)⟩, ⟨(PySem.PyData.keyHash P "_law_kinds"), (.str "_law_kinds" 934), (.ref 590)⟩, ⟨(PySem.PyData.keyHash P "_law_do"), (.str "_law_do" 944), (.ref 597)⟩, ⟨(PySem.PyData.keyHash P "_law_refused"), (.str "_law_refused" 957), (.ref 604)⟩, ⟨(PySem.PyData.keyHash P "_law_image"), (.str "_law_image" 968), (.ref 611)⟩, ⟨(PySem.PyData.keyHash P "_law_least"), (.str "_law_least" 976), (.ref 618)⟩, ⟨(PySem.PyData.keyHash P "_law_count"), (.str "_law_count" 984), (.ref 625)⟩, ⟨(PySem.PyData.keyHash P "_law_free"), (.str "_law_free" 990), (.ref 630)⟩, ⟨(PySem.PyData.keyHash P "_law_some"), (.str "_law_some" 996), (.ref 635)⟩, ⟨(PySem.PyData.keyHash P "_law_frame"), (.str "_law_frame" 1004), (.ref 642)⟩, ⟨(PySem.PyData.keyHash P "_law_shows"), (.str "_law_shows" 1020), (.ref 649)⟩, ⟨(PySem.PyData.keyHash P "_law_alone"), (.str "_law_alone" 1032), (.ref 656)⟩, ⟨(PySem.PyData.keyHash P "_law_none"), (.str "_law_none" 1043), (.ref 663)⟩, ⟨(PySem.PyData.keyHash P "_law_deed"), (.str "_law_deed" 1059), (.ref 670)⟩, ⟨(PySem.PyData.keyHash P "law"), (.str "law" 1077), (.ref 677)⟩] 57), #[]⟩) ::
  (nat_lit 15, ⟨(.type "tuple"), none, (.seq #[] 0), #[]⟩) ::
  (nat_lit 17, ⟨(.type "tuple"), none, (.seq #[(.str "k" 190)] 0), #[]⟩) ::
  (nat_lit 18, ⟨(.type "tuple"), none, (.seq #[] 0), #[]⟩) ::
  (nat_lit 20, ⟨(.type "code"), none, (.fields #[(.str "_wall" 187), (.str "_wall" 188), (.str "/claim/cut.py" 189), (.int 1 0), (.int 1 0), (.int 0 0), (.int 0 0), (.int 3 0), (.ref 15), (.bool true), (.int 181 0), (.ref 16), .none, (.ref 17), (.ref 18), (.ref 19), (.int 191 0), (.int 1 0), (.str "/claim/cut.py" 192)]), #[]⟩) ::
  (nat_lit 21, ⟨(.type "function"), none, (.func ⟨"_wall", "_wall", defArgs (top 0), .stmts (defBody (top 0)), defScope (top 0), 3, [], .none, .none, .none, (.str "__main__" 164), none, (.ref 20), .none, 0⟩), #[]⟩) ::
  (nat_lit 22, ⟨(.type "tuple"), none, (.seq #[(.type "ValueError")] 0), #[]⟩) ::
  (nat_lit 29, ⟨(.type "tuple"), none, (.seq #[] 0), #[]⟩) ::
  (nat_lit 30, ⟨(.type "dict"), none, (.dict #[⟨(PySem.PyData.keyHash P "__module__"), (.str "__module__" 211), (.str "shadowpages.errors" 202)⟩, ⟨(PySem.PyData.keyHash P "__firstlineno__"), (.str "__firstlineno__" 215), (.int 9 214)⟩, ⟨(PySem.PyData.keyHash P "__static_attributes__"), (.str "__static_attributes__" 216), (.ref 29)⟩, ⟨(PySem.PyData.keyHash P "__weakref__"), (.str "__weakref__" 218), (.ref 32)⟩, ⟨(PySem.PyData.keyHash P "__doc__"), (.str "__doc__" 219), .none⟩] 3), #[]⟩) ::
  (nat_lit 31, ⟨(.type "type"), none, (.cls ⟨"HouseError", [(.type "ValueError")], [(.ref 31), (.type "ValueError"), (.type "Exception"), (.type "BaseException"), (.type "object")], 30, "HouseError", true, [], [(.ref 44), (.ref 56), (.ref 68), (.ref 80), (.ref 92), (.ref 104), (.ref 116), (.ref 128), (.ref 140), (.ref 152), (.ref 164), (.ref 176), (.ref 188), (.ref 200), (.ref 219), (.ref 238), (.ref 257)], false, none, false⟩), #[(some (.ref 22)), none, (some (.str "HouseError" 204)), (some (.str "HouseError" 212)), (some (.builtin "ValueError.__new__")), (some (.bool true))]⟩) ::
  (nat_lit 32, ⟨(.type "getset_descriptor"), none, (.fields #[(.str "__weakref__" 217), (.ref 31), (.builtin "ExceptionGroup.__weakref__"), .none]), #[]⟩) ::
  (nat_lit 35, ⟨(.type "tuple"), none, (.seq #[(.ref 31)] 0), #[]⟩) ::
  (nat_lit 42, ⟨(.type "tuple"), none, (.seq #[] 0), #[]⟩) ::
  (nat_lit 43, ⟨(.type "dict"), none, (.dict #[⟨(PySem.PyData.keyHash P "__module__"), (.str "__module__" 229), (.str "shadowpages.errors" 202)⟩, ⟨(PySem.PyData.keyHash P "__firstlineno__"), (.str "__firstlineno__" 233), (.int 11 232)⟩, ⟨(PySem.PyData.keyHash P "__static_attributes__"), (.str "__static_attributes__" 234), (.ref 42)⟩, ⟨(PySem.PyData.keyHash P "__doc__"), (.str "__doc__" 235), .none⟩] 2), #[]⟩) ::
  (nat_lit 44, ⟨(.type "type"), none, (.cls ⟨"NoWord", [(.ref 31)], [(.ref 44), (.ref 31), (.type "ValueError"), (.type "Exception"), (.type "BaseException"), (.type "object")], 43, "NoWord", true, [], [], false, none, false⟩), #[(some (.ref 35)), none, (some (.str "NoWord" 222)), (some (.str "NoWord" 230)), (some (.builtin "ValueError.__new__")), (some (.bool true))]⟩) ::
  (nat_lit 47, ⟨(.type "tuple"), none, (.seq #[(.ref 31)] 0), #[]⟩) ::
  (nat_lit 54, ⟨(.type "tuple"), none, (.seq #[] 0), #[]⟩) ::
  (nat_lit 55, ⟨(.type "dict"), none, (.dict #[⟨(PySem.PyData.keyHash P "__module__"), (.str "__module__" 245), (.str "shadowpages.errors" 202)⟩, ⟨(PySem.PyData.keyHash P "__firstlineno__"), (.str "__firstlineno__" 249), (.int 13 248)⟩, ⟨(PySem.PyData.keyHash P "__static_attributes__"), (.str "__static_attributes__" 250), (.ref 54)⟩, ⟨(PySem.PyData.keyHash P "__doc__"), (.str "__doc__" 251), .none⟩] 2), #[]⟩) ::
  (nat_lit 56, ⟨(.type "type"), none, (.cls ⟨"NoRow", [(.ref 31)], [(.ref 56), (.ref 31), (.type "ValueError"), (.type "Exception"), (.type "BaseException"), (.type "object")], 55, "NoRow", true, [], [], false, none, false⟩), #[(some (.ref 47)), none, (some (.str "NoRow" 238)), (some (.str "NoRow" 246)), (some (.builtin "ValueError.__new__")), (some (.bool true))]⟩) ::
  (nat_lit 59, ⟨(.type "tuple"), none, (.seq #[(.ref 31)] 0), #[]⟩) ::
  (nat_lit 66, ⟨(.type "tuple"), none, (.seq #[] 0), #[]⟩) ::
  (nat_lit 67, ⟨(.type "dict"), none, (.dict #[⟨(PySem.PyData.keyHash P "__module__"), (.str "__module__" 261), (.str "shadowpages.errors" 202)⟩, ⟨(PySem.PyData.keyHash P "__firstlineno__"), (.str "__firstlineno__" 265), (.int 15 264)⟩, ⟨(PySem.PyData.keyHash P "__static_attributes__"), (.str "__static_attributes__" 266), (.ref 66)⟩, ⟨(PySem.PyData.keyHash P "__doc__"), (.str "__doc__" 267), .none⟩] 2), #[]⟩) ::
  (nat_lit 68, ⟨(.type "type"), none, (.cls ⟨"NoPlace", [(.ref 31)], [(.ref 68), (.ref 31), (.type "ValueError"), (.type "Exception"), (.type "BaseException"), (.type "object")], 67, "NoPlace", true, [], [], false, none, false⟩), #[(some (.ref 59)), none, (some (.str "NoPlace" 254)), (some (.str "NoPlace" 262)), (some (.builtin "ValueError.__new__")), (some (.bool true))]⟩) ::
  (nat_lit 71, ⟨(.type "tuple"), none, (.seq #[(.ref 31)] 0), #[]⟩) ::
  (nat_lit 78, ⟨(.type "tuple"), none, (.seq #[] 0), #[]⟩) ::
  (nat_lit 79, ⟨(.type "dict"), none, (.dict #[⟨(PySem.PyData.keyHash P "__module__"), (.str "__module__" 277), (.str "shadowpages.errors" 202)⟩, ⟨(PySem.PyData.keyHash P "__firstlineno__"), (.str "__firstlineno__" 281), (.int 17 280)⟩, ⟨(PySem.PyData.keyHash P "__static_attributes__"), (.str "__static_attributes__" 282), (.ref 78)⟩, ⟨(PySem.PyData.keyHash P "__doc__"), (.str "__doc__" 283), .none⟩] 2), #[]⟩) ::
  (nat_lit 80, ⟨(.type "type"), none, (.cls ⟨"NoPage", [(.ref 31)], [(.ref 80), (.ref 31), (.type "ValueError"), (.type "Exception"), (.type "BaseException"), (.type "object")], 79, "NoPage", true, [], [], false, none, false⟩), #[(some (.ref 71)), none, (some (.str "NoPage" 270)), (some (.str "NoPage" 278)), (some (.builtin "ValueError.__new__")), (some (.bool true))]⟩) ::
  (nat_lit 83, ⟨(.type "tuple"), none, (.seq #[(.ref 31)] 0), #[]⟩) ::
  (nat_lit 90, ⟨(.type "tuple"), none, (.seq #[] 0), #[]⟩) ::
  (nat_lit 91, ⟨(.type "dict"), none, (.dict #[⟨(PySem.PyData.keyHash P "__module__"), (.str "__module__" 293), (.str "shadowpages.errors" 202)⟩, ⟨(PySem.PyData.keyHash P "__firstlineno__"), (.str "__firstlineno__" 297), (.int 19 296)⟩, ⟨(PySem.PyData.keyHash P "__static_attributes__"), (.str "__static_attributes__" 298), (.ref 90)⟩, ⟨(PySem.PyData.keyHash P "__doc__"), (.str "__doc__" 299), .none⟩] 2), #[]⟩) ::
  (nat_lit 92, ⟨(.type "type"), none, (.cls ⟨"NoImage", [(.ref 31)], [(.ref 92), (.ref 31), (.type "ValueError"), (.type "Exception"), (.type "BaseException"), (.type "object")], 91, "NoImage", true, [], [], false, none, false⟩), #[(some (.ref 83)), none, (some (.str "NoImage" 286)), (some (.str "NoImage" 294)), (some (.builtin "ValueError.__new__")), (some (.bool true))]⟩) ::
  (nat_lit 95, ⟨(.type "tuple"), none, (.seq #[(.ref 31)] 0), #[]⟩) ::
  (nat_lit 102, ⟨(.type "tuple"), none, (.seq #[] 0), #[]⟩) ::
  (nat_lit 103, ⟨(.type "dict"), none, (.dict #[⟨(PySem.PyData.keyHash P "__module__"), (.str "__module__" 309), (.str "shadowpages.errors" 202)⟩, ⟨(PySem.PyData.keyHash P "__firstlineno__"), (.str "__firstlineno__" 313), (.int 21 312)⟩, ⟨(PySem.PyData.keyHash P "__static_attributes__"), (.str "__static_attributes__" 314), (.ref 102)⟩, ⟨(PySem.PyData.keyHash P "__doc__"), (.str "__doc__" 315), .none⟩] 2), #[]⟩) ::
  (nat_lit 104, ⟨(.type "type"), none, (.cls ⟨"NoShelf", [(.ref 31)], [(.ref 104), (.ref 31), (.type "ValueError"), (.type "Exception"), (.type "BaseException"), (.type "object")], 103, "NoShelf", true, [], [], false, none, false⟩), #[(some (.ref 95)), none, (some (.str "NoShelf" 302)), (some (.str "NoShelf" 310)), (some (.builtin "ValueError.__new__")), (some (.bool true))]⟩) ::
  (nat_lit 107, ⟨(.type "tuple"), none, (.seq #[(.ref 31)] 0), #[]⟩) ::
  (nat_lit 114, ⟨(.type "tuple"), none, (.seq #[] 0), #[]⟩) ::
  (nat_lit 115, ⟨(.type "dict"), none, (.dict #[⟨(PySem.PyData.keyHash P "__module__"), (.str "__module__" 325), (.str "shadowpages.errors" 202)⟩, ⟨(PySem.PyData.keyHash P "__firstlineno__"), (.str "__firstlineno__" 329), (.int 23 328)⟩, ⟨(PySem.PyData.keyHash P "__static_attributes__"), (.str "__static_attributes__" 330), (.ref 114)⟩, ⟨(PySem.PyData.keyHash P "__doc__"), (.str "__doc__" 331), .none⟩] 2), #[]⟩) ::
  (nat_lit 116, ⟨(.type "type"), none, (.cls ⟨"NoFrame", [(.ref 31)], [(.ref 116), (.ref 31), (.type "ValueError"), (.type "Exception"), (.type "BaseException"), (.type "object")], 115, "NoFrame", true, [], [], false, none, false⟩), #[(some (.ref 107)), none, (some (.str "NoFrame" 318)), (some (.str "NoFrame" 326)), (some (.builtin "ValueError.__new__")), (some (.bool true))]⟩) ::
  (nat_lit 119, ⟨(.type "tuple"), none, (.seq #[(.ref 31)] 0), #[]⟩) ::
  (nat_lit 126, ⟨(.type "tuple"), none, (.seq #[] 0), #[]⟩) ::
  (nat_lit 127, ⟨(.type "dict"), none, (.dict #[⟨(PySem.PyData.keyHash P "__module__"), (.str "__module__" 341), (.str "shadowpages.errors" 202)⟩, ⟨(PySem.PyData.keyHash P "__firstlineno__"), (.str "__firstlineno__" 345), (.int 25 344)⟩, ⟨(PySem.PyData.keyHash P "__static_attributes__"), (.str "__static_attributes__" 346), (.ref 126)⟩, ⟨(PySem.PyData.keyHash P "__doc__"), (.str "__doc__" 347), .none⟩] 2), #[]⟩) ::
  (nat_lit 128, ⟨(.type "type"), none, (.cls ⟨"NoRoom", [(.ref 31)], [(.ref 128), (.ref 31), (.type "ValueError"), (.type "Exception"), (.type "BaseException"), (.type "object")], 127, "NoRoom", true, [], [], false, none, false⟩), #[(some (.ref 119)), none, (some (.str "NoRoom" 334)), (some (.str "NoRoom" 342)), (some (.builtin "ValueError.__new__")), (some (.bool true))]⟩) ::
  (nat_lit 131, ⟨(.type "tuple"), none, (.seq #[(.ref 31)] 0), #[]⟩) ::
  (nat_lit 138, ⟨(.type "tuple"), none, (.seq #[] 0), #[]⟩) ::
  (nat_lit 139, ⟨(.type "dict"), none, (.dict #[⟨(PySem.PyData.keyHash P "__module__"), (.str "__module__" 357), (.str "shadowpages.errors" 202)⟩, ⟨(PySem.PyData.keyHash P "__firstlineno__"), (.str "__firstlineno__" 361), (.int 27 360)⟩, ⟨(PySem.PyData.keyHash P "__static_attributes__"), (.str "__static_attributes__" 362), (.ref 138)⟩, ⟨(PySem.PyData.keyHash P "__doc__"), (.str "__doc__" 363), .none⟩] 2), #[]⟩) ::
  (nat_lit 140, ⟨(.type "type"), none, (.cls ⟨"NoBound", [(.ref 31)], [(.ref 140), (.ref 31), (.type "ValueError"), (.type "Exception"), (.type "BaseException"), (.type "object")], 139, "NoBound", true, [], [], false, none, false⟩), #[(some (.ref 131)), none, (some (.str "NoBound" 350)), (some (.str "NoBound" 358)), (some (.builtin "ValueError.__new__")), (some (.bool true))]⟩) ::
  (nat_lit 143, ⟨(.type "tuple"), none, (.seq #[(.ref 31)] 0), #[]⟩) ::
  (nat_lit 150, ⟨(.type "tuple"), none, (.seq #[] 0), #[]⟩) ::
  (nat_lit 151, ⟨(.type "dict"), none, (.dict #[⟨(PySem.PyData.keyHash P "__module__"), (.str "__module__" 373), (.str "shadowpages.errors" 202)⟩, ⟨(PySem.PyData.keyHash P "__firstlineno__"), (.str "__firstlineno__" 377), (.int 29 376)⟩, ⟨(PySem.PyData.keyHash P "__static_attributes__"), (.str "__static_attributes__" 378), (.ref 150)⟩, ⟨(PySem.PyData.keyHash P "__doc__"), (.str "__doc__" 379), .none⟩] 2), #[]⟩) ::
  (nat_lit 152, ⟨(.type "type"), none, (.cls ⟨"NoName", [(.ref 31)], [(.ref 152), (.ref 31), (.type "ValueError"), (.type "Exception"), (.type "BaseException"), (.type "object")], 151, "NoName", true, [], [], false, none, false⟩), #[(some (.ref 143)), none, (some (.str "NoName" 366)), (some (.str "NoName" 374)), (some (.builtin "ValueError.__new__")), (some (.bool true))]⟩) ::
  (nat_lit 155, ⟨(.type "tuple"), none, (.seq #[(.ref 31)] 0), #[]⟩) ::
  (nat_lit 162, ⟨(.type "tuple"), none, (.seq #[] 0), #[]⟩) ::
  (nat_lit 163, ⟨(.type "dict"), none, (.dict #[⟨(PySem.PyData.keyHash P "__module__"), (.str "__module__" 389), (.str "shadowpages.errors" 202)⟩, ⟨(PySem.PyData.keyHash P "__firstlineno__"), (.str "__firstlineno__" 393), (.int 31 392)⟩, ⟨(PySem.PyData.keyHash P "__static_attributes__"), (.str "__static_attributes__" 394), (.ref 162)⟩, ⟨(PySem.PyData.keyHash P "__doc__"), (.str "__doc__" 395), .none⟩] 2), #[]⟩) ::
  (nat_lit 164, ⟨(.type "type"), none, (.cls ⟨"NoWay", [(.ref 31)], [(.ref 164), (.ref 31), (.type "ValueError"), (.type "Exception"), (.type "BaseException"), (.type "object")], 163, "NoWay", true, [], [], false, none, false⟩), #[(some (.ref 155)), none, (some (.str "NoWay" 382)), (some (.str "NoWay" 390)), (some (.builtin "ValueError.__new__")), (some (.bool true))]⟩) ::
  (nat_lit 167, ⟨(.type "tuple"), none, (.seq #[(.ref 31)] 0), #[]⟩) ::
  (nat_lit 174, ⟨(.type "tuple"), none, (.seq #[] 0), #[]⟩) ::
  (nat_lit 175, ⟨(.type "dict"), none, (.dict #[⟨(PySem.PyData.keyHash P "__module__"), (.str "__module__" 405), (.str "shadowpages.errors" 202)⟩, ⟨(PySem.PyData.keyHash P "__firstlineno__"), (.str "__firstlineno__" 409), (.int 33 408)⟩, ⟨(PySem.PyData.keyHash P "__static_attributes__"), (.str "__static_attributes__" 410), (.ref 174)⟩, ⟨(PySem.PyData.keyHash P "__doc__"), (.str "__doc__" 411), .none⟩] 2), #[]⟩) ::
  (nat_lit 176, ⟨(.type "type"), none, (.cls ⟨"Busy", [(.ref 31)], [(.ref 176), (.ref 31), (.type "ValueError"), (.type "Exception"), (.type "BaseException"), (.type "object")], 175, "Busy", true, [], [], false, none, false⟩), #[(some (.ref 167)), none, (some (.str "Busy" 398)), (some (.str "Busy" 406)), (some (.builtin "ValueError.__new__")), (some (.bool true))]⟩) ::
  (nat_lit 179, ⟨(.type "tuple"), none, (.seq #[(.ref 31)] 0), #[]⟩) ::
  (nat_lit 186, ⟨(.type "tuple"), none, (.seq #[] 0), #[]⟩) ::
  (nat_lit 187, ⟨(.type "dict"), none, (.dict #[⟨(PySem.PyData.keyHash P "__module__"), (.str "__module__" 421), (.str "shadowpages.errors" 202)⟩, ⟨(PySem.PyData.keyHash P "__firstlineno__"), (.str "__firstlineno__" 425), (.int 35 424)⟩, ⟨(PySem.PyData.keyHash P "__static_attributes__"), (.str "__static_attributes__" 426), (.ref 186)⟩, ⟨(PySem.PyData.keyHash P "__doc__"), (.str "__doc__" 427), .none⟩] 2), #[]⟩) ::
  (nat_lit 188, ⟨(.type "type"), none, (.cls ⟨"Over", [(.ref 31)], [(.ref 188), (.ref 31), (.type "ValueError"), (.type "Exception"), (.type "BaseException"), (.type "object")], 187, "Over", true, [], [], false, none, false⟩), #[(some (.ref 179)), none, (some (.str "Over" 414)), (some (.str "Over" 422)), (some (.builtin "ValueError.__new__")), (some (.bool true))]⟩) ::
  (nat_lit 191, ⟨(.type "tuple"), none, (.seq #[(.ref 31)] 0), #[]⟩) ::
  (nat_lit 198, ⟨(.type "tuple"), none, (.seq #[] 0), #[]⟩) ::
  (nat_lit 199, ⟨(.type "dict"), none, (.dict #[⟨(PySem.PyData.keyHash P "__module__"), (.str "__module__" 437), (.str "shadowpages.errors" 202)⟩, ⟨(PySem.PyData.keyHash P "__firstlineno__"), (.str "__firstlineno__" 441), (.int 37 440)⟩, ⟨(PySem.PyData.keyHash P "__static_attributes__"), (.str "__static_attributes__" 442), (.ref 198)⟩, ⟨(PySem.PyData.keyHash P "__doc__"), (.str "__doc__" 443), .none⟩] 2), #[]⟩) ::
  (nat_lit 200, ⟨(.type "type"), none, (.cls ⟨"NoOrder", [(.ref 31)], [(.ref 200), (.ref 31), (.type "ValueError"), (.type "Exception"), (.type "BaseException"), (.type "object")], 199, "NoOrder", true, [], [], false, none, false⟩), #[(some (.ref 191)), none, (some (.str "NoOrder" 430)), (some (.str "NoOrder" 438)), (some (.builtin "ValueError.__new__")), (some (.bool true))]⟩) ::
  (nat_lit 203, ⟨(.type "tuple"), none, (.seq #[(.ref 31)] 0), #[]⟩) ::
  (nat_lit 210, ⟨(.type "tuple"), none, (.seq #[] 0), #[]⟩) ::
  (nat_lit 212, ⟨(.type "tuple"), none, (.seq #[(.str "self" 461), (.str "place" 462)] 0), #[]⟩) ::
  (nat_lit 213, ⟨(.type "tuple"), none, (.seq #[] 0), #[]⟩) ::
  (nat_lit 215, ⟨(.type "code"), none, (.fields #[(.str "__init__" 458), (.str "NoProgram.__init__" 459), (.str "/claim/cut.py" 460), (.int 41 0), (.int 2 0), (.int 0 0), (.int 0 0), (.int 3 0), (.ref 210), (.bool true), (.int 181 0), (.ref 211), .none, (.ref 212), (.ref 213), (.ref 214), (.int 463 0), (.int 41 0), (.str "/claim/cut.py" 464)]), #[]⟩) ::
  (nat_lit 216, ⟨(.type "function"), none, (.func ⟨"__init__", "NoProgram.__init__", defArgs (inClass (top 21) 0), .stmts (defBody (inClass (top 21) 0)), defScope (inClass (top 21) 0), 3, [], .none, .none, .none, (.str "shadowpages.errors" 202), none, (.ref 215), .none, 0⟩), #[]⟩) ::
  (nat_lit 217, ⟨(.type "tuple"), none, (.seq #[(.str "place" 466)] 0), #[]⟩) ::
  (nat_lit 218, ⟨(.type "dict"), none, (.dict #[⟨(PySem.PyData.keyHash P "__module__"), (.str "__module__" 453), (.str "shadowpages.errors" 202)⟩, ⟨(PySem.PyData.keyHash P "__firstlineno__"), (.str "__firstlineno__" 457), (.int 39 456)⟩, ⟨(PySem.PyData.keyHash P "__init__"), (.str "__init__" 465), (.ref 216)⟩, ⟨(PySem.PyData.keyHash P "__static_attributes__"), (.str "__static_attributes__" 467), (.ref 217)⟩, ⟨(PySem.PyData.keyHash P "__doc__"), (.str "__doc__" 468), .none⟩] 2), #[]⟩) ::
  (nat_lit 219, ⟨(.type "type"), none, (.cls ⟨"NoProgram", [(.ref 31)], [(.ref 219), (.ref 31), (.type "ValueError"), (.type "Exception"), (.type "BaseException"), (.type "object")], 218, "NoProgram", true, [], [], false, none, false⟩), #[(some (.ref 203)), none, (some (.str "NoProgram" 446)), (some (.str "NoProgram" 454)), (some (.builtin "ValueError.__new__")), (some (.bool true))]⟩) ::
  (nat_lit 222, ⟨(.type "tuple"), none, (.seq #[(.ref 31)] 0), #[]⟩) ::
  (nat_lit 229, ⟨(.type "tuple"), none, (.seq #[] 0), #[]⟩) ::
  (nat_lit 231, ⟨(.type "tuple"), none, (.seq #[(.str "self" 486), (.str "place" 487)] 0), #[]⟩) ::
  (nat_lit 232, ⟨(.type "tuple"), none, (.seq #[] 0), #[]⟩) ::
  (nat_lit 234, ⟨(.type "code"), none, (.fields #[(.str "__init__" 483), (.str "NoText.__init__" 484), (.str "/claim/cut.py" 485), (.int 45 0), (.int 2 0), (.int 0 0), (.int 0 0), (.int 3 0), (.ref 229), (.bool true), (.int 181 0), (.ref 230), .none, (.ref 231), (.ref 232), (.ref 233), (.int 488 0), (.int 45 0), (.str "/claim/cut.py" 489)]), #[]⟩) ::
  (nat_lit 235, ⟨(.type "function"), none, (.func ⟨"__init__", "NoText.__init__", defArgs (inClass (top 22) 0), .stmts (defBody (inClass (top 22) 0)), defScope (inClass (top 22) 0), 3, [], .none, .none, .none, (.str "shadowpages.errors" 202), none, (.ref 234), .none, 0⟩), #[]⟩) ::
  (nat_lit 236, ⟨(.type "tuple"), none, (.seq #[(.str "place" 491)] 0), #[]⟩) ::
  (nat_lit 237, ⟨(.type "dict"), none, (.dict #[⟨(PySem.PyData.keyHash P "__module__"), (.str "__module__" 478), (.str "shadowpages.errors" 202)⟩, ⟨(PySem.PyData.keyHash P "__firstlineno__"), (.str "__firstlineno__" 482), (.int 43 481)⟩, ⟨(PySem.PyData.keyHash P "__init__"), (.str "__init__" 490), (.ref 235)⟩, ⟨(PySem.PyData.keyHash P "__static_attributes__"), (.str "__static_attributes__" 492), (.ref 236)⟩, ⟨(PySem.PyData.keyHash P "__doc__"), (.str "__doc__" 493), .none⟩] 2), #[]⟩) ::
  (nat_lit 238, ⟨(.type "type"), none, (.cls ⟨"NoText", [(.ref 31)], [(.ref 238), (.ref 31), (.type "ValueError"), (.type "Exception"), (.type "BaseException"), (.type "object")], 237, "NoText", true, [], [], false, none, false⟩), #[(some (.ref 222)), none, (some (.str "NoText" 471)), (some (.str "NoText" 479)), (some (.builtin "ValueError.__new__")), (some (.bool true))]⟩) ::
  (nat_lit 241, ⟨(.type "tuple"), none, (.seq #[(.ref 31)] 0), #[]⟩) ::
  (nat_lit 248, ⟨(.type "tuple"), none, (.seq #[] 0), #[]⟩) ::
  (nat_lit 250, ⟨(.type "tuple"), none, (.seq #[(.str "self" 511), (.str "kind" 512), (.str "place" 513), (.str "level" 514)] 0), #[]⟩) ::
  (nat_lit 251, ⟨(.type "tuple"), none, (.seq #[] 0), #[]⟩) ::
  (nat_lit 253, ⟨(.type "code"), none, (.fields #[(.str "__init__" 508), (.str "Fault.__init__" 509), (.str "/claim/cut.py" 510), (.int 49 0), (.int 4 0), (.int 0 0), (.int 0 0), (.int 3 0), (.ref 248), (.bool true), (.int 181 0), (.ref 249), .none, (.ref 250), (.ref 251), (.ref 252), (.int 515 0), (.int 49 0), (.str "/claim/cut.py" 516)]), #[]⟩) ::
  (nat_lit 254, ⟨(.type "function"), none, (.func ⟨"__init__", "Fault.__init__", defArgs (inClass (top 23) 0), .stmts (defBody (inClass (top 23) 0)), defScope (inClass (top 23) 0), 3, [], .none, .none, .none, (.str "shadowpages.errors" 202), none, (.ref 253), .none, 0⟩), #[]⟩) ::
  (nat_lit 255, ⟨(.type "tuple"), none, (.seq #[(.str "kind" 518), (.str "level" 519), (.str "place" 520)] 0), #[]⟩) ::
  (nat_lit 256, ⟨(.type "dict"), none, (.dict #[⟨(PySem.PyData.keyHash P "__module__"), (.str "__module__" 503), (.str "shadowpages.errors" 202)⟩, ⟨(PySem.PyData.keyHash P "__firstlineno__"), (.str "__firstlineno__" 507), (.int 47 506)⟩, ⟨(PySem.PyData.keyHash P "__init__"), (.str "__init__" 517), (.ref 254)⟩, ⟨(PySem.PyData.keyHash P "__static_attributes__"), (.str "__static_attributes__" 521), (.ref 255)⟩, ⟨(PySem.PyData.keyHash P "__doc__"), (.str "__doc__" 522), .none⟩] 2), #[]⟩) ::
  (nat_lit 257, ⟨(.type "type"), none, (.cls ⟨"Fault", [(.ref 31)], [(.ref 257), (.ref 31), (.type "ValueError"), (.type "Exception"), (.type "BaseException"), (.type "object")], 256, "Fault", true, [], [], false, none, false⟩), #[(some (.ref 241)), none, (some (.str "Fault" 496)), (some (.str "Fault" 504)), (some (.builtin "ValueError.__new__")), (some (.bool true))]⟩) ::
  (nat_lit 260, ⟨(.type "tuple"), none, (.seq #[] 0), #[]⟩) ::
  (nat_lit 262, ⟨(.type "tuple"), none, (.seq #[(.str "thing" 530)] 0), #[]⟩) ::
  (nat_lit 263, ⟨(.type "tuple"), none, (.seq #[] 0), #[]⟩) ::
  (nat_lit 265, ⟨(.type "code"), none, (.fields #[(.str "is_whole" 527), (.str "is_whole" 528), (.str "/claim/cut.py" 529), (.int 54 0), (.int 1 0), (.int 0 0), (.int 0 0), (.int 3 0), (.ref 260), (.bool true), (.int 181 0), (.ref 261), .none, (.ref 262), (.ref 263), (.ref 264), (.int 531 0), (.int 54 0), (.str "/claim/cut.py" 532)]), #[]⟩) ::
  (nat_lit 266, ⟨(.type "function"), none, (.func ⟨"is_whole", "is_whole", defArgs (top 25), .stmts (defBody (top 25)), defScope (top 25), 3, [], .none, .none, .none, (.str "shadowpages.words" 525), none, (.ref 265), .none, 0⟩), #[]⟩) ::
  (nat_lit 267, ⟨(.type "tuple"), none, (.seq #[] 0), #[]⟩) ::
  (nat_lit 269, ⟨(.type "tuple"), none, (.seq #[(.str "thing" 537), (.str "bound" 538)] 0), #[]⟩) ::
  (nat_lit 270, ⟨(.type "tuple"), none, (.seq #[] 0), #[]⟩) ::
  (nat_lit 272, ⟨(.type "code"), none, (.fields #[(.str "is_below" 534), (.str "is_below" 535), (.str "/claim/cut.py" 536), (.int 56 0), (.int 2 0), (.int 0 0), (.int 0 0), (.int 3 0), (.ref 267), (.bool true), (.int 181 0), (.ref 268), .none, (.ref 269), (.ref 270), (.ref 271), (.int 539 0), (.int 56 0), (.str "/claim/cut.py" 540)]), #[]⟩) ::
  (nat_lit 273, ⟨(.type "function"), none, (.func ⟨"is_below", "is_below", defArgs (top 26), .stmts (defBody (top 26)), defScope (top 26), 3, [], .none, .none, .none, (.str "shadowpages.words" 525), none, (.ref 272), .none, 0⟩), #[]⟩) ::
  (nat_lit 274, ⟨(.type "tuple"), none, (.seq #[] 0), #[]⟩) ::
  (nat_lit 276, ⟨(.type "tuple"), none, (.seq #[(.str "thing" 545)] 0), #[]⟩) ::
  (nat_lit 277, ⟨(.type "tuple"), none, (.seq #[] 0), #[]⟩) ::
  (nat_lit 279, ⟨(.type "code"), none, (.fields #[(.str "is_word" 542), (.str "is_word" 543), (.str "/claim/cut.py" 544), (.int 58 0), (.int 1 0), (.int 0 0), (.int 0 0), (.int 3 0), (.ref 274), (.bool true), (.int 181 0), (.ref 275), .none, (.ref 276), (.ref 277), (.ref 278), (.int 546 0), (.int 58 0), (.str "/claim/cut.py" 547)]), #[]⟩) ::
  (nat_lit 280, ⟨(.type "function"), none, (.func ⟨"is_word", "is_word", defArgs (top 27), .stmts (defBody (top 27)), defScope (top 27), 3, [], .none, .none, .none, (.str "shadowpages.words" 525), none, (.ref 279), .none, 0⟩), #[]⟩) ::
  (nat_lit 281, ⟨(.type "tuple"), none, (.seq #[] 0), #[]⟩) ::
  (nat_lit 284, ⟨(.type "code"), none, (.fields #[(.str "is_eight_words" 551), (.str "is_eight_words" 552), (.str "/claim/cut.py" 553), (.int 61 0), (.int 1 0), (.int 0 0), (.int 0 0), (.int 3 0), (.ref 281), (.bool true), (.int 181 0), (.ref 282), .none, .none, .none, (.ref 283), (.int 554 0), (.int 61 0), (.str "/claim/cut.py" 555)]), #[]⟩) ::
  (nat_lit 285, ⟨(.type "function"), none, (.func ⟨"is_eight_words", "is_eight_words", defArgs (top 29), .stmts (defBody (top 29)), defScope (top 29), 3, [], .none, .none, .none, (.str "shadowpages.store" 549), none, (.ref 284), .none, 0⟩), #[]⟩) ::
  (nat_lit 286, ⟨(.type "tuple"), none, (.seq #[] 0), #[]⟩) ::
  (nat_lit 288, ⟨(.type "tuple"), none, (.seq #[(.str "pages" 560), (.str "page" 561)] 0), #[]⟩) ::
  (nat_lit 289, ⟨(.type "tuple"), none, (.seq #[] 0), #[]⟩) ::
  (nat_lit 291, ⟨(.type "code"), none, (.fields #[(.str "check_image" 557), (.str "check_image" 558), (.str "/claim/cut.py" 559), (.int 63 0), (.int 1 0), (.int 0 0), (.int 0 0), (.int 3 0), (.ref 286), (.bool true), (.int 181 0), (.ref 287), .none, (.ref 288), (.ref 289), (.ref 290), (.int 562 0), (.int 63 0), (.str "/claim/cut.py" 563)]), #[]⟩) ::
  (nat_lit 292, ⟨(.type "function"), none, (.func ⟨"check_image", "check_image", defArgs (top 30), .stmts (defBody (top 30)), defScope (top 30), 3, [], .none, .none, .none, (.str "shadowpages.store" 549), none, (.ref 291), .none, 0⟩), #[]⟩) ::
  (nat_lit 293, ⟨(.type "tuple"), none, (.seq #[] 0), #[]⟩) ::
  (nat_lit 295, ⟨(.type "tuple"), none, (.seq #[(.str "word" 568)] 0), #[]⟩) ::
  (nat_lit 296, ⟨(.type "tuple"), none, (.seq #[] 0), #[]⟩) ::
  (nat_lit 298, ⟨(.type "code"), none, (.fields #[(.str "check_word" 565), (.str "check_word" 566), (.str "/claim/cut.py" 567), (.int 69 0), (.int 1 0), (.int 0 0), (.int 0 0), (.int 3 0), (.ref 293), (.bool true), (.int 181 0), (.ref 294), .none, (.ref 295), (.ref 296), (.ref 297), (.int 569 0), (.int 69 0), (.str "/claim/cut.py" 570)]), #[]⟩) ::
  (nat_lit 299, ⟨(.type "function"), none, (.func ⟨"check_word", "check_word", defArgs (top 31), .stmts (defBody (top 31)), defScope (top 31), 3, [], .none, .none, .none, (.str "shadowpages.store" 549), none, (.ref 298), .none, 0⟩), #[]⟩) ::
  (nat_lit 307, ⟨(.type "tuple"), none, (.seq #[] 0), #[]⟩) ::
  (nat_lit 309, ⟨(.type "tuple"), none, (.seq #[(.str "self" 587)] 0), #[]⟩) ::
  (nat_lit 310, ⟨(.type "tuple"), none, (.seq #[] 0), #[]⟩) ::
  (nat_lit 312, ⟨(.type "code"), none, (.fields #[(.str "size" 584), (.str "Store.size" 585), (.str "/claim/cut.py" 586), (.int 74 0), (.int 1 0), (.int 0 0), (.int 0 0), (.int 3 0), (.ref 307), (.bool true), (.int 181 0), (.ref 308), .none, (.ref 309), (.ref 310), (.ref 311), (.int 588 0), (.int 74 0), (.str "/claim/cut.py" 589)]), #[]⟩) ::
  (nat_lit 313, ⟨(.type "function"), none, (.func ⟨"size", "Store.size", defArgs (inClass (top 32) 0), .stmts (defBody (inClass (top 32) 0)), defScope (inClass (top 32) 0), 3, [], .none, .none, .none, (.str "shadowpages.store" 549), none, (.ref 312), .none, 0⟩), #[]⟩) ::
  (nat_lit 314, ⟨(.type "tuple"), none, (.seq #[] 0), #[]⟩) ::
  (nat_lit 316, ⟨(.type "tuple"), none, (.seq #[(.str "self" 594), (.str "page" 595)] 0), #[]⟩) ::
  (nat_lit 317, ⟨(.type "tuple"), none, (.seq #[] 0), #[]⟩) ::
  (nat_lit 319, ⟨(.type "code"), none, (.fields #[(.str "has" 591), (.str "Store.has" 592), (.str "/claim/cut.py" 593), (.int 77 0), (.int 2 0), (.int 0 0), (.int 0 0), (.int 3 0), (.ref 314), (.bool true), (.int 181 0), (.ref 315), .none, (.ref 316), (.ref 317), (.ref 318), (.int 596 0), (.int 77 0), (.str "/claim/cut.py" 597)]), #[]⟩) ::
  (nat_lit 320, ⟨(.type "function"), none, (.func ⟨"has", "Store.has", defArgs (inClass (top 32) 1), .stmts (defBody (inClass (top 32) 1)), defScope (inClass (top 32) 1), 3, [], .none, .none, .none, (.str "shadowpages.store" 549), none, (.ref 319), .none, 0⟩), #[]⟩) ::
  (nat_lit 321, ⟨(.type "tuple"), none, (.seq #[] 0), #[]⟩) ::
  (nat_lit 323, ⟨(.type "tuple"), none, (.seq #[(.str "self" 602), (.str "page" 603), (.str "cell" 604)] 0), #[]⟩) ::
  (nat_lit 324, ⟨(.type "tuple"), none, (.seq #[] 0), #[]⟩) ::
  (nat_lit 326, ⟨(.type "code"), none, (.fields #[(.str "word_at" 599), (.str "Store.word_at" 600), (.str "/claim/cut.py" 601), (.int 80 0), (.int 3 0), (.int 0 0), (.int 0 0), (.int 3 0), (.ref 321), (.bool true), (.int 181 0), (.ref 322), .none, (.ref 323), (.ref 324), (.ref 325), (.int 605 0), (.int 80 0), (.str "/claim/cut.py" 606)]), #[]⟩) ::
  (nat_lit 327, ⟨(.type "function"), none, (.func ⟨"word_at", "Store.word_at", defArgs (inClass (top 32) 2), .stmts (defBody (inClass (top 32) 2)), defScope (inClass (top 32) 2), 3, [], .none, .none, .none, (.str "shadowpages.store" 549), none, (.ref 326), .none, 0⟩), #[]⟩) ::
  (nat_lit 328, ⟨(.type "tuple"), none, (.seq #[] 0), #[]⟩) ::
  (nat_lit 330, ⟨(.type "tuple"), none, (.seq #[(.str "self" 611), (.str "page" 612), (.str "cell" 613), (.str "word" 614)] 0), #[]⟩) ::
  (nat_lit 331, ⟨(.type "tuple"), none, (.seq #[] 0), #[]⟩) ::
  (nat_lit 333, ⟨(.type "code"), none, (.fields #[(.str "put_word" 608), (.str "Store.put_word" 609), (.str "/claim/cut.py" 610), (.int 83 0), (.int 4 0), (.int 0 0), (.int 0 0), (.int 3 0), (.ref 328), (.bool true), (.int 181 0), (.ref 329), .none, (.ref 330), (.ref 331), (.ref 332), (.int 615 0), (.int 83 0), (.str "/claim/cut.py" 616)]), #[]⟩) ::
  (nat_lit 334, ⟨(.type "function"), none, (.func ⟨"put_word", "Store.put_word", defArgs (inClass (top 32) 3), .stmts (defBody (inClass (top 32) 3)), defScope (inClass (top 32) 3), 3, [], .none, .none, .none, (.str "shadowpages.store" 549), none, (.ref 333), .none, 0⟩), #[]⟩) ::
  (nat_lit 335, ⟨(.type "tuple"), none, (.seq #[] 0), #[]⟩) ::
  (nat_lit 337, ⟨(.type "tuple"), none, (.seq #[(.str "self" 621), (.str "page" 622), (.str "cell" 623)] 0), #[]⟩) ::
  (nat_lit 338, ⟨(.type "tuple"), none, (.seq #[] 0), #[]⟩) ::
  (nat_lit 340, ⟨(.type "code"), none, (.fields #[(.str "read" 618), (.str "Store.read" 619), (.str "/claim/cut.py" 620), (.int 86 0), (.int 3 0), (.int 0 0), (.int 0 0), (.int 3 0), (.ref 335), (.bool true), (.int 181 0), (.ref 336), .none, (.ref 337), (.ref 338), (.ref 339), (.int 624 0), (.int 86 0), (.str "/claim/cut.py" 625)]), #[]⟩) ::
  (nat_lit 341, ⟨(.type "function"), none, (.func ⟨"read", "Store.read", defArgs (inClass (top 32) 4), .stmts (defBody (inClass (top 32) 4)), defScope (inClass (top 32) 4), 3, [], .none, .none, .none, (.str "shadowpages.store" 549), none, (.ref 340), .none, 0⟩), #[]⟩) ::
  (nat_lit 342, ⟨(.type "tuple"), none, (.seq #[] 0), #[]⟩) ::
  (nat_lit 344, ⟨(.type "tuple"), none, (.seq #[(.str "self" 630), (.str "page" 631), (.str "cell" 632), (.str "word" 633)] 0), #[]⟩) ::
  (nat_lit 345, ⟨(.type "tuple"), none, (.seq #[] 0), #[]⟩) ::
  (nat_lit 347, ⟨(.type "code"), none, (.fields #[(.str "write" 627), (.str "Store.write" 628), (.str "/claim/cut.py" 629), (.int 90 0), (.int 4 0), (.int 0 0), (.int 0 0), (.int 3 0), (.ref 342), (.bool true), (.int 181 0), (.ref 343), .none, (.ref 344), (.ref 345), (.ref 346), (.int 634 0), (.int 90 0), (.str "/claim/cut.py" 635)]), #[]⟩) ::
  (nat_lit 348, ⟨(.type "function"), none, (.func ⟨"write", "Store.write", defArgs (inClass (top 32) 5), .stmts (defBody (inClass (top 32) 5)), defScope (inClass (top 32) 5), 3, [], .none, .none, .none, (.str "shadowpages.store" 549), none, (.ref 347), .none, 0⟩), #[]⟩) ::
  (nat_lit 349, ⟨(.type "tuple"), none, (.seq #[] 0), #[]⟩) ::
  (nat_lit 352, ⟨(.type "code"), none, (.fields #[(.str "words_of" 637), (.str "Store.words_of" 638), (.str "/claim/cut.py" 639), (.int 95 0), (.int 2 0), (.int 0 0), (.int 0 0), (.int 3 0), (.ref 349), (.bool true), (.int 181 0), (.ref 350), .none, .none, .none, (.ref 351), (.int 640 0), (.int 95 0), (.str "/claim/cut.py" 641)]), #[]⟩) ::
  (nat_lit 353, ⟨(.type "function"), none, (.func ⟨"words_of", "Store.words_of", defArgs (inClass (top 32) 6), .stmts (defBody (inClass (top 32) 6)), defScope (inClass (top 32) 6), 3, [], .none, .none, .none, (.str "shadowpages.store" 549), none, (.ref 352), .none, 0⟩), #[]⟩) ::
  (nat_lit 354, ⟨(.type "tuple"), none, (.seq #[] 0), #[]⟩) ::
  (nat_lit 356, ⟨(.type "tuple"), none, (.seq #[(.str "self" 646), (.str "page" 647), (.str "cell" 648)] 0), #[]⟩) ::
  (nat_lit 357, ⟨(.type "tuple"), none, (.seq #[] 0), #[]⟩) ::
  (nat_lit 359, ⟨(.type "code"), none, (.fields #[(.str "check_spot" 643), (.str "Store.check_spot" 644), (.str "/claim/cut.py" 645), (.int 98 0), (.int 3 0), (.int 0 0), (.int 0 0), (.int 3 0), (.ref 354), (.bool true), (.int 181 0), (.ref 355), .none, (.ref 356), (.ref 357), (.ref 358), (.int 649 0), (.int 98 0), (.str "/claim/cut.py" 650)]), #[]⟩) ::
  (nat_lit 360, ⟨(.type "function"), none, (.func ⟨"check_spot", "Store.check_spot", defArgs (inClass (top 32) 7), .stmts (defBody (inClass (top 32) 7)), defScope (inClass (top 32) 7), 3, [], .none, .none, .none, (.str "shadowpages.store" 549), none, (.ref 359), .none, 0⟩), #[]⟩) ::
  (nat_lit 361, ⟨(.type "tuple"), none, (.seq #[] 0), #[]⟩) ::
  (nat_lit 363, ⟨(.type "tuple"), none, (.seq #[(.str "self" 655), (.str "page" 656)] 0), #[]⟩) ::
  (nat_lit 364, ⟨(.type "tuple"), none, (.seq #[] 0), #[]⟩) ::
  (nat_lit 366, ⟨(.type "code"), none, (.fields #[(.str "check_page" 652), (.str "Store.check_page" 653), (.str "/claim/cut.py" 654), (.int 103 0), (.int 2 0), (.int 0 0), (.int 0 0), (.int 3 0), (.ref 361), (.bool true), (.int 181 0), (.ref 362), .none, (.ref 363), (.ref 364), (.ref 365), (.int 657 0), (.int 103 0), (.str "/claim/cut.py" 658)]), #[]⟩) ::
  (nat_lit 367, ⟨(.type "function"), none, (.func ⟨"check_page", "Store.check_page", defArgs (inClass (top 32) 8), .stmts (defBody (inClass (top 32) 8)), defScope (inClass (top 32) 8), 3, [], .none, .none, .none, (.str "shadowpages.store" 549), none, (.ref 366), .none, 0⟩), #[]⟩) ::
  (nat_lit 368, ⟨(.type "tuple"), none, (.seq #[] 0), #[]⟩) ::
  (nat_lit 369, ⟨(.type "dict"), none, (.dict #[⟨(PySem.PyData.keyHash P "__module__"), (.str "__module__" 579), (.str "shadowpages.store" 549)⟩, ⟨(PySem.PyData.keyHash P "__firstlineno__"), (.str "__firstlineno__" 583), (.int 72 582)⟩, ⟨(PySem.PyData.keyHash P "size"), (.str "size" 590), (.ref 313)⟩, ⟨(PySem.PyData.keyHash P "has"), (.str "has" 598), (.ref 320)⟩, ⟨(PySem.PyData.keyHash P "word_at"), (.str "word_at" 607), (.ref 327)⟩, ⟨(PySem.PyData.keyHash P "put_word"), (.str "put_word" 617), (.ref 334)⟩, ⟨(PySem.PyData.keyHash P "read"), (.str "read" 626), (.ref 341)⟩, ⟨(PySem.PyData.keyHash P "write"), (.str "write" 636), (.ref 348)⟩, ⟨(PySem.PyData.keyHash P "words_of"), (.str "words_of" 642), (.ref 353)⟩, ⟨(PySem.PyData.keyHash P "check_spot"), (.str "check_spot" 651), (.ref 360)⟩, ⟨(PySem.PyData.keyHash P "check_page"), (.str "check_page" 659), (.ref 367)⟩, ⟨(PySem.PyData.keyHash P "__static_attributes__"), (.str "__static_attributes__" 660), (.ref 368)⟩, ⟨(PySem.PyData.keyHash P "__dict__"), (.str "__dict__" 662), (.ref 371)⟩, ⟨(PySem.PyData.keyHash P "__weakref__"), (.str "__weakref__" 664), (.ref 372)⟩, ⟨(PySem.PyData.keyHash P "__doc__"), (.str "__doc__" 665), .none⟩] 4), #[]⟩) ::
  (nat_lit 370, ⟨(.type "type"), none, (.cls ⟨"Store", [(.type "object")], [(.ref 370), (.type "object")], 369, "Store", true, [], [(.ref 567)], false, none, false⟩), #[none, none, (some (.str "Store" 572)), (some (.str "Store" 580)), (some (.builtin "object.__new__")), (some (.bool true))]⟩) ::
  (nat_lit 371, ⟨(.type "getset_descriptor"), none, (.fields #[(.str "__dict__" 661), (.ref 370), (.builtin "function.__dict__"), (.builtin "function.__dict__#set")]), #[]⟩) ::
  (nat_lit 372, ⟨(.type "getset_descriptor"), none, (.fields #[(.str "__weakref__" 663), (.ref 370), (.builtin "ExceptionGroup.__weakref__"), .none]), #[]⟩) ::
  (nat_lit 382, ⟨(.type "tuple"), none, (.seq #[] 0), #[]⟩) ::
  (nat_lit 385, ⟨(.type "code"), none, (.fields #[(.str "__init__" 682), (.str "Parts.__init__" 683), (.str "/claim/cut.py" 684), (.int 109 0), (.int 3 0), (.int 0 0), (.int 0 0), (.int 3 0), (.ref 382), (.bool true), (.int 181 0), (.ref 383), .none, .none, .none, (.ref 384), (.int 685 0), (.int 109 0), (.str "/claim/cut.py" 686)]), #[]⟩) ::
  (nat_lit 386, ⟨(.type "function"), none, (.func ⟨"__init__", "Parts.__init__", defArgs (inClass (top 34) 0), .stmts (defBody (inClass (top 34) 0)), defScope (inClass (top 34) 0), 3, [], .none, .none, .none, (.str "shadowpages.parts" 668), none, (.ref 385), .none, 0⟩), #[]⟩) ::
  (nat_lit 387, ⟨(.type "tuple"), none, (.seq #[] 0), #[]⟩) ::
  (nat_lit 389, ⟨(.type "tuple"), none, (.seq #[(.str "self" 691), (.str "words" 692), (.str "frame" 693), (.str "cell" 694)] 0), #[]⟩) ::
  (nat_lit 390, ⟨(.type "tuple"), none, (.seq #[] 0), #[]⟩) ::
  (nat_lit 392, ⟨(.type "code"), none, (.fields #[(.str "filled" 688), (.str "Parts.filled" 689), (.str "/claim/cut.py" 690), (.int 114 0), (.int 2 0), (.int 0 0), (.int 0 0), (.int 3 0), (.ref 387), (.bool true), (.int 181 0), (.ref 388), .none, (.ref 389), (.ref 390), (.ref 391), (.int 695 0), (.int 114 0), (.str "/claim/cut.py" 696)]), #[]⟩) ::
  (nat_lit 393, ⟨(.type "function"), none, (.func ⟨"filled", "Parts.filled", defArgs (inClass (top 34) 1), .stmts (defBody (inClass (top 34) 1)), defScope (inClass (top 34) 1), 3, [], .none, .none, .none, (.str "shadowpages.parts" 668), none, (.ref 392), .none, 0⟩), #[]⟩) ::
  (nat_lit 394, ⟨(.type "tuple"), none, (.seq #[] 0), #[]⟩) ::
  (nat_lit 396, ⟨(.type "tuple"), none, (.seq #[(.str "self" 701)] 0), #[]⟩) ::
  (nat_lit 397, ⟨(.type "tuple"), none, (.seq #[] 0), #[]⟩) ::
  (nat_lit 399, ⟨(.type "code"), none, (.fields #[(.str "size" 698), (.str "Parts.size" 699), (.str "/claim/cut.py" 700), (.int 120 0), (.int 1 0), (.int 0 0), (.int 0 0), (.int 3 0), (.ref 394), (.bool true), (.int 181 0), (.ref 395), .none, (.ref 396), (.ref 397), (.ref 398), (.int 702 0), (.int 120 0), (.str "/claim/cut.py" 703)]), #[]⟩) ::
  (nat_lit 400, ⟨(.type "function"), none, (.func ⟨"size", "Parts.size", defArgs (inClass (top 34) 2), .stmts (defBody (inClass (top 34) 2)), defScope (inClass (top 34) 2), 3, [], .none, .none, .none, (.str "shadowpages.parts" 668), none, (.ref 399), .none, 0⟩), #[]⟩) ::
  (nat_lit 401, ⟨(.type "tuple"), none, (.seq #[] 0), #[]⟩) ::
  (nat_lit 403, ⟨(.type "tuple"), none, (.seq #[(.str "self" 708), (.str "page" 709)] 0), #[]⟩) ::
  (nat_lit 404, ⟨(.type "tuple"), none, (.seq #[] 0), #[]⟩) ::
  (nat_lit 406, ⟨(.type "code"), none, (.fields #[(.str "frame" 705), (.str "Parts.frame" 706), (.str "/claim/cut.py" 707), (.int 123 0), (.int 2 0), (.int 0 0), (.int 0 0), (.int 3 0), (.ref 401), (.bool true), (.int 181 0), (.ref 402), .none, (.ref 403), (.ref 404), (.ref 405), (.int 710 0), (.int 123 0), (.str "/claim/cut.py" 711)]), #[]⟩) ::
  (nat_lit 407, ⟨(.type "function"), none, (.func ⟨"frame", "Parts.frame", defArgs (inClass (top 34) 3), .stmts (defBody (inClass (top 34) 3)), defScope (inClass (top 34) 3), 3, [], .none, .none, .none, (.str "shadowpages.parts" 668), none, (.ref 406), .none, 0⟩), #[]⟩) ::
  (nat_lit 408, ⟨(.type "tuple"), none, (.seq #[] 0), #[]⟩) ::
  (nat_lit 410, ⟨(.type "tuple"), none, (.seq #[(.str "self" 716), (.str "page" 717)] 0), #[]⟩) ::
  (nat_lit 411, ⟨(.type "tuple"), none, (.seq #[] 0), #[]⟩) ::
  (nat_lit 413, ⟨(.type "code"), none, (.fields #[(.str "check_there" 713), (.str "Parts.check_there" 714), (.str "/claim/cut.py" 715), (.int 126 0), (.int 2 0), (.int 0 0), (.int 0 0), (.int 3 0), (.ref 408), (.bool true), (.int 181 0), (.ref 409), .none, (.ref 410), (.ref 411), (.ref 412), (.int 718 0), (.int 126 0), (.str "/claim/cut.py" 719)]), #[]⟩) ::
  (nat_lit 414, ⟨(.type "function"), none, (.func ⟨"check_there", "Parts.check_there", defArgs (inClass (top 34) 4), .stmts (defBody (inClass (top 34) 4)), defScope (inClass (top 34) 4), 3, [], .none, .none, .none, (.str "shadowpages.parts" 668), none, (.ref 413), .none, 0⟩), #[]⟩) ::
  (nat_lit 415, ⟨(.type "tuple"), none, (.seq #[] 0), #[]⟩) ::
  (nat_lit 417, ⟨(.type "tuple"), none, (.seq #[(.str "self" 724), (.str "page" 725), (.str "shared" 726)] 0), #[]⟩) ::
  (nat_lit 418, ⟨(.type "tuple"), none, (.seq #[] 0), #[]⟩) ::
  (nat_lit 420, ⟨(.type "code"), none, (.fields #[(.str "alone" 721), (.str "Parts.alone" 722), (.str "/claim/cut.py" 723), (.int 130 0), (.int 2 0), (.int 0 0), (.int 0 0), (.int 3 0), (.ref 415), (.bool true), (.int 181 0), (.ref 416), .none, (.ref 417), (.ref 418), (.ref 419), (.int 727 0), (.int 130 0), (.str "/claim/cut.py" 728)]), #[]⟩) ::
  (nat_lit 421, ⟨(.type "function"), none, (.func ⟨"alone", "Parts.alone", defArgs (inClass (top 34) 5), .stmts (defBody (inClass (top 34) 5)), defScope (inClass (top 34) 5), 3, [], .none, .none, .none, (.str "shadowpages.parts" 668), none, (.ref 420), .none, 0⟩), #[]⟩) ::
  (nat_lit 422, ⟨(.type "tuple"), none, (.seq #[] 0), #[]⟩) ::
  (nat_lit 424, ⟨(.type "tuple"), none, (.seq #[(.str "self" 733), (.str "page" 734), (.str "frame" 735), (.str "ahead" 736)] 0), #[]⟩) ::
  (nat_lit 425, ⟨(.type "tuple"), none, (.seq #[] 0), #[]⟩) ::
  (nat_lit 427, ⟨(.type "code"), none, (.fields #[(.str "lead" 730), (.str "Parts.lead" 731), (.str "/claim/cut.py" 732), (.int 139 0), (.int 3 0), (.int 0 0), (.int 0 0), (.int 3 0), (.ref 422), (.bool true), (.int 181 0), (.ref 423), .none, (.ref 424), (.ref 425), (.ref 426), (.int 737 0), (.int 139 0), (.str "/claim/cut.py" 738)]), #[]⟩) ::
  (nat_lit 428, ⟨(.type "function"), none, (.func ⟨"lead", "Parts.lead", defArgs (inClass (top 34) 6), .stmts (defBody (inClass (top 34) 6)), defScope (inClass (top 34) 6), 3, [], .none, .none, .none, (.str "shadowpages.parts" 668), none, (.ref 427), .none, 0⟩), #[]⟩) ::
  (nat_lit 429, ⟨(.type "tuple"), none, (.seq #[] 0), #[]⟩) ::
  (nat_lit 431, ⟨(.type "tuple"), none, (.seq #[(.str "self" 743), (.str "page" 744)] 0), #[]⟩) ::
  (nat_lit 432, ⟨(.type "tuple"), none, (.seq #[] 0), #[]⟩) ::
  (nat_lit 434, ⟨(.type "code"), none, (.fields #[(.str "give" 740), (.str "Parts.give" 741), (.str "/claim/cut.py" 742), (.int 148 0), (.int 2 0), (.int 0 0), (.int 0 0), (.int 3 0), (.ref 429), (.bool true), (.int 181 0), (.ref 430), .none, (.ref 431), (.ref 432), (.ref 433), (.int 745 0), (.int 148 0), (.str "/claim/cut.py" 746)]), #[]⟩) ::
  (nat_lit 435, ⟨(.type "function"), none, (.func ⟨"give", "Parts.give", defArgs (inClass (top 34) 7), .stmts (defBody (inClass (top 34) 7)), defScope (inClass (top 34) 7), 3, [], .none, .none, .none, (.str "shadowpages.parts" 668), none, (.ref 434), .none, 0⟩), #[]⟩) ::
  (nat_lit 436, ⟨(.type "tuple"), none, (.seq #[] 0), #[]⟩) ::
  (nat_lit 438, ⟨(.type "tuple"), none, (.seq #[(.str "self" 751), (.str "page" 752)] 0), #[]⟩) ::
  (nat_lit 439, ⟨(.type "tuple"), none, (.seq #[] 0), #[]⟩) ::
  (nat_lit 441, ⟨(.type "code"), none, (.fields #[(.str "fresh" 748), (.str "Parts.fresh" 749), (.str "/claim/cut.py" 750), (.int 153 0), (.int 2 0), (.int 0 0), (.int 0 0), (.int 3 0), (.ref 436), (.bool true), (.int 181 0), (.ref 437), .none, (.ref 438), (.ref 439), (.ref 440), (.int 753 0), (.int 153 0), (.str "/claim/cut.py" 754)]), #[]⟩) ::
  (nat_lit 442, ⟨(.type "function"), none, (.func ⟨"fresh", "Parts.fresh", defArgs (inClass (top 34) 8), .stmts (defBody (inClass (top 34) 8)), defScope (inClass (top 34) 8), 3, [], .none, .none, .none, (.str "shadowpages.parts" 668), none, (.ref 441), .none, 0⟩), #[]⟩) ::
  (nat_lit 443, ⟨(.type "tuple"), none, (.seq #[] 0), #[]⟩) ::
  (nat_lit 445, ⟨(.type "tuple"), none, (.seq #[(.str "self" 759)] 0), #[]⟩) ::
  (nat_lit 446, ⟨(.type "tuple"), none, (.seq #[] 0), #[]⟩) ::
  (nat_lit 448, ⟨(.type "code"), none, (.fields #[(.str "told" 756), (.str "Parts.told" 757), (.str "/claim/cut.py" 758), (.int 158 0), (.int 1 0), (.int 0 0), (.int 0 0), (.int 3 0), (.ref 443), (.bool true), (.int 181 0), (.ref 444), .none, (.ref 445), (.ref 446), (.ref 447), (.int 760 0), (.int 158 0), (.str "/claim/cut.py" 761)]), #[]⟩) ::
  (nat_lit 449, ⟨(.type "function"), none, (.func ⟨"told", "Parts.told", defArgs (inClass (top 34) 9), .stmts (defBody (inClass (top 34) 9)), defScope (inClass (top 34) 9), 3, [], .none, .none, .none, (.str "shadowpages.parts" 668), none, (.ref 448), .none, 0⟩), #[]⟩) ::
  (nat_lit 450, ⟨(.type "tuple"), none, (.seq #[] 0), #[]⟩) ::
  (nat_lit 453, ⟨(.type "code"), none, (.fields #[(.str "pages" 763), (.str "Parts.pages" 764), (.str "/claim/cut.py" 765), (.int 161 0), (.int 1 0), (.int 0 0), (.int 0 0), (.int 3 0), (.ref 450), (.bool true), (.int 181 0), (.ref 451), .none, .none, .none, (.ref 452), (.int 766 0), (.int 161 0), (.str "/claim/cut.py" 767)]), #[]⟩) ::
  (nat_lit 454, ⟨(.type "function"), none, (.func ⟨"pages", "Parts.pages", defArgs (inClass (top 34) 10), .stmts (defBody (inClass (top 34) 10)), defScope (inClass (top 34) 10), 3, [], .none, .none, .none, (.str "shadowpages.parts" 668), none, (.ref 453), .none, 0⟩), #[]⟩) ::
  (nat_lit 455, ⟨(.type "tuple"), none, (.seq #[(.str "floor" 769), (.str "goals" 770)] 0), #[]⟩) ::
  (nat_lit 456, ⟨(.type "dict"), none, (.dict #[⟨(PySem.PyData.keyHash P "__module__"), (.str "__module__" 677), (.str "shadowpages.parts" 668)⟩, ⟨(PySem.PyData.keyHash P "__firstlineno__"), (.str "__firstlineno__" 681), (.int 107 680)⟩, ⟨(PySem.PyData.keyHash P "__init__"), (.str "__init__" 687), (.ref 386)⟩, ⟨(PySem.PyData.keyHash P "filled"), (.str "filled" 697), (.ref 393)⟩, ⟨(PySem.PyData.keyHash P "size"), (.str "size" 704), (.ref 400)⟩, ⟨(PySem.PyData.keyHash P "frame"), (.str "frame" 712), (.ref 407)⟩, ⟨(PySem.PyData.keyHash P "check_there"), (.str "check_there" 720), (.ref 414)⟩, ⟨(PySem.PyData.keyHash P "alone"), (.str "alone" 729), (.ref 421)⟩, ⟨(PySem.PyData.keyHash P "lead"), (.str "lead" 739), (.ref 428)⟩, ⟨(PySem.PyData.keyHash P "give"), (.str "give" 747), (.ref 435)⟩, ⟨(PySem.PyData.keyHash P "fresh"), (.str "fresh" 755), (.ref 442)⟩, ⟨(PySem.PyData.keyHash P "told"), (.str "told" 762), (.ref 449)⟩, ⟨(PySem.PyData.keyHash P "pages"), (.str "pages" 768), (.ref 454)⟩, ⟨(PySem.PyData.keyHash P "__static_attributes__"), (.str "__static_attributes__" 771), (.ref 455)⟩, ⟨(PySem.PyData.keyHash P "__dict__"), (.str "__dict__" 773), (.ref 458)⟩, ⟨(PySem.PyData.keyHash P "__weakref__"), (.str "__weakref__" 775), (.ref 459)⟩, ⟨(PySem.PyData.keyHash P "__doc__"), (.str "__doc__" 776), .none⟩] 4), #[]⟩) ::
  (nat_lit 457, ⟨(.type "type"), none, (.cls ⟨"Parts", [(.type "object")], [(.ref 457), (.type "object")], 456, "Parts", true, [], [], false, none, false⟩), #[none, none, (some (.str "Parts" 670)), (some (.str "Parts" 678)), (some (.builtin "object.__new__")), (some (.bool true))]⟩) ::
  (nat_lit 458, ⟨(.type "getset_descriptor"), none, (.fields #[(.str "__dict__" 772), (.ref 457), (.builtin "function.__dict__"), (.builtin "function.__dict__#set")]), #[]⟩) ::
  (nat_lit 459, ⟨(.type "getset_descriptor"), none, (.fields #[(.str "__weakref__" 774), (.ref 457), (.builtin "ExceptionGroup.__weakref__"), .none]), #[]⟩) ::
  (nat_lit 462, ⟨(.type "tuple"), none, (.seq #[(.ref 370)] 0), #[]⟩) ::
  (nat_lit 469, ⟨(.type "tuple"), none, (.seq #[] 0), #[]⟩) ::
  (nat_lit 472, ⟨(.type "code"), none, (.fields #[(.str "__init__" 793), (.str "Frames.__init__" 794), (.str "/claim/cut.py" 795), (.int 166 0), (.int 2 0), (.int 0 0), (.int 0 0), (.int 3 0), (.ref 469), (.bool true), (.int 181 0), (.ref 470), .none, .none, .none, (.ref 471), (.int 796 0), (.int 166 0), (.str "/claim/cut.py" 797)]), #[]⟩) ::
  (nat_lit 473, ⟨(.type "function"), none, (.func ⟨"__init__", "Frames.__init__", defArgs (inClass (top 36) 0), .stmts (defBody (inClass (top 36) 0)), defScope (inClass (top 36) 0), 3, [], .none, .none, .none, (.str "shadowpages.frames" 779), none, (.ref 472), .none, 0⟩), #[]⟩) ::
  (nat_lit 474, ⟨(.type "tuple"), none, (.seq #[] 0), #[]⟩) ::
  (nat_lit 476, ⟨(.type "tuple"), none, (.seq #[(.str "self" 802)] 0), #[]⟩) ::
  (nat_lit 477, ⟨(.type "tuple"), none, (.seq #[] 0), #[]⟩) ::
  (nat_lit 479, ⟨(.type "code"), none, (.fields #[(.str "size" 799), (.str "Frames.size" 800), (.str "/claim/cut.py" 801), (.int 173 0), (.int 1 0), (.int 0 0), (.int 0 0), (.int 3 0), (.ref 474), (.bool true), (.int 181 0), (.ref 475), .none, (.ref 476), (.ref 477), (.ref 478), (.int 803 0), (.int 173 0), (.str "/claim/cut.py" 804)]), #[]⟩) ::
  (nat_lit 480, ⟨(.type "function"), none, (.func ⟨"size", "Frames.size", defArgs (inClass (top 36) 1), .stmts (defBody (inClass (top 36) 1)), defScope (inClass (top 36) 1), 3, [], .none, .none, .none, (.str "shadowpages.frames" 779), none, (.ref 479), .none, 0⟩), #[]⟩) ::
  (nat_lit 481, ⟨(.type "tuple"), none, (.seq #[] 0), #[]⟩) ::
  (nat_lit 483, ⟨(.type "tuple"), none, (.seq #[(.str "self" 809), (.str "page" 810)] 0), #[]⟩) ::
  (nat_lit 484, ⟨(.type "tuple"), none, (.seq #[] 0), #[]⟩) ::
  (nat_lit 486, ⟨(.type "code"), none, (.fields #[(.str "has" 806), (.str "Frames.has" 807), (.str "/claim/cut.py" 808), (.int 176 0), (.int 2 0), (.int 0 0), (.int 0 0), (.int 3 0), (.ref 481), (.bool true), (.int 181 0), (.ref 482), .none, (.ref 483), (.ref 484), (.ref 485), (.int 811 0), (.int 176 0), (.str "/claim/cut.py" 812)]), #[]⟩) ::
  (nat_lit 487, ⟨(.type "function"), none, (.func ⟨"has", "Frames.has", defArgs (inClass (top 36) 2), .stmts (defBody (inClass (top 36) 2)), defScope (inClass (top 36) 2), 3, [], .none, .none, .none, (.str "shadowpages.frames" 779), none, (.ref 486), .none, 0⟩), #[]⟩) ::
  (nat_lit 488, ⟨(.type "tuple"), none, (.seq #[] 0), #[]⟩) ::
  (nat_lit 490, ⟨(.type "tuple"), none, (.seq #[(.str "self" 817), (.str "page" 818), (.str "cell" 819)] 0), #[]⟩) ::
  (nat_lit 491, ⟨(.type "tuple"), none, (.seq #[] 0), #[]⟩) ::
  (nat_lit 493, ⟨(.type "code"), none, (.fields #[(.str "word_at" 814), (.str "Frames.word_at" 815), (.str "/claim/cut.py" 816), (.int 179 0), (.int 3 0), (.int 0 0), (.int 0 0), (.int 3 0), (.ref 488), (.bool true), (.int 181 0), (.ref 489), .none, (.ref 490), (.ref 491), (.ref 492), (.int 820 0), (.int 179 0), (.str "/claim/cut.py" 821)]), #[]⟩) ::
  (nat_lit 494, ⟨(.type "function"), none, (.func ⟨"word_at", "Frames.word_at", defArgs (inClass (top 36) 3), .stmts (defBody (inClass (top 36) 3)), defScope (inClass (top 36) 3), 3, [], .none, .none, .none, (.str "shadowpages.frames" 779), none, (.ref 493), .none, 0⟩), #[]⟩) ::
  (nat_lit 495, ⟨(.type "tuple"), none, (.seq #[] 0), #[]⟩) ::
  (nat_lit 497, ⟨(.type "tuple"), none, (.seq #[(.str "self" 826), (.str "page" 827), (.str "cell" 828), (.str "word" 829)] 0), #[]⟩) ::
  (nat_lit 498, ⟨(.type "tuple"), none, (.seq #[] 0), #[]⟩) ::
  (nat_lit 500, ⟨(.type "code"), none, (.fields #[(.str "put_word" 823), (.str "Frames.put_word" 824), (.str "/claim/cut.py" 825), (.int 182 0), (.int 4 0), (.int 0 0), (.int 0 0), (.int 3 0), (.ref 495), (.bool true), (.int 181 0), (.ref 496), .none, (.ref 497), (.ref 498), (.ref 499), (.int 830 0), (.int 182 0), (.str "/claim/cut.py" 831)]), #[]⟩) ::
  (nat_lit 501, ⟨(.type "function"), none, (.func ⟨"put_word", "Frames.put_word", defArgs (inClass (top 36) 4), .stmts (defBody (inClass (top 36) 4)), defScope (inClass (top 36) 4), 3, [], .none, .none, .none, (.str "shadowpages.frames" 779), none, (.ref 500), .none, 0⟩), #[]⟩) ::
  (nat_lit 502, ⟨(.type "tuple"), none, (.seq #[] 0), #[]⟩) ::
  (nat_lit 504, ⟨(.type "tuple"), none, (.seq #[(.str "self" 836), (.str "frame" 837)] 0), #[]⟩) ::
  (nat_lit 505, ⟨(.type "tuple"), none, (.seq #[] 0), #[]⟩) ::
  (nat_lit 507, ⟨(.type "code"), none, (.fields #[(.str "take" 833), (.str "Frames.take" 834), (.str "/claim/cut.py" 835), (.int 185 0), (.int 1 0), (.int 0 0), (.int 0 0), (.int 3 0), (.ref 502), (.bool true), (.int 181 0), (.ref 503), .none, (.ref 504), (.ref 505), (.ref 506), (.int 838 0), (.int 185 0), (.str "/claim/cut.py" 839)]), #[]⟩) ::
  (nat_lit 508, ⟨(.type "function"), none, (.func ⟨"take", "Frames.take", defArgs (inClass (top 36) 5), .stmts (defBody (inClass (top 36) 5)), defScope (inClass (top 36) 5), 3, [], .none, .none, .none, (.str "shadowpages.frames" 779), none, (.ref 507), .none, 0⟩), #[]⟩) ::
  (nat_lit 509, ⟨(.type "tuple"), none, (.seq #[] 0), #[]⟩) ::
  (nat_lit 511, ⟨(.type "tuple"), none, (.seq #[(.str "self" 844), (.str "frame" 845)] 0), #[]⟩) ::
  (nat_lit 512, ⟨(.type "tuple"), none, (.seq #[] 0), #[]⟩) ::
  (nat_lit 514, ⟨(.type "code"), none, (.fields #[(.str "share" 841), (.str "Frames.share" 842), (.str "/claim/cut.py" 843), (.int 193 0), (.int 2 0), (.int 0 0), (.int 0 0), (.int 3 0), (.ref 509), (.bool true), (.int 181 0), (.ref 510), .none, (.ref 511), (.ref 512), (.ref 513), (.int 846 0), (.int 193 0), (.str "/claim/cut.py" 847)]), #[]⟩) ::
  (nat_lit 515, ⟨(.type "function"), none, (.func ⟨"share", "Frames.share", defArgs (inClass (top 36) 6), .stmts (defBody (inClass (top 36) 6)), defScope (inClass (top 36) 6), 3, [], .none, .none, .none, (.str "shadowpages.frames" 779), none, (.ref 514), .none, 0⟩), #[]⟩) ::
  (nat_lit 516, ⟨(.type "tuple"), none, (.seq #[] 0), #[]⟩) ::
  (nat_lit 518, ⟨(.type "tuple"), none, (.seq #[(.str "self" 852), (.str "frame" 853)] 0), #[]⟩) ::
  (nat_lit 519, ⟨(.type "tuple"), none, (.seq #[] 0), #[]⟩) ::
  (nat_lit 521, ⟨(.type "code"), none, (.fields #[(.str "drop" 849), (.str "Frames.drop" 850), (.str "/claim/cut.py" 851), (.int 197 0), (.int 2 0), (.int 0 0), (.int 0 0), (.int 3 0), (.ref 516), (.bool true), (.int 181 0), (.ref 517), .none, (.ref 518), (.ref 519), (.ref 520), (.int 854 0), (.int 197 0), (.str "/claim/cut.py" 855)]), #[]⟩) ::
  (nat_lit 522, ⟨(.type "function"), none, (.func ⟨"drop", "Frames.drop", defArgs (inClass (top 36) 7), .stmts (defBody (inClass (top 36) 7)), defScope (inClass (top 36) 7), 3, [], .none, .none, .none, (.str "shadowpages.frames" 779), none, (.ref 521), .none, 0⟩), #[]⟩) ::
  (nat_lit 523, ⟨(.type "tuple"), none, (.seq #[] 0), #[]⟩) ::
  (nat_lit 525, ⟨(.type "tuple"), none, (.seq #[(.str "self" 860), (.str "frame" 861)] 0), #[]⟩) ::
  (nat_lit 526, ⟨(.type "tuple"), none, (.seq #[] 0), #[]⟩) ::
  (nat_lit 528, ⟨(.type "code"), none, (.fields #[(.str "check_taken" 857), (.str "Frames.check_taken" 858), (.str "/claim/cut.py" 859), (.int 201 0), (.int 2 0), (.int 0 0), (.int 0 0), (.int 3 0), (.ref 523), (.bool true), (.int 181 0), (.ref 524), .none, (.ref 525), (.ref 526), (.ref 527), (.int 862 0), (.int 201 0), (.str "/claim/cut.py" 863)]), #[]⟩) ::
  (nat_lit 529, ⟨(.type "function"), none, (.func ⟨"check_taken", "Frames.check_taken", defArgs (inClass (top 36) 8), .stmts (defBody (inClass (top 36) 8)), defScope (inClass (top 36) 8), 3, [], .none, .none, .none, (.str "shadowpages.frames" 779), none, (.ref 528), .none, 0⟩), #[]⟩) ::
  (nat_lit 530, ⟨(.type "tuple"), none, (.seq #[] 0), #[]⟩) ::
  (nat_lit 532, ⟨(.type "tuple"), none, (.seq #[(.str "self" 868), (.str "frame" 869)] 0), #[]⟩) ::
  (nat_lit 533, ⟨(.type "tuple"), none, (.seq #[] 0), #[]⟩) ::
  (nat_lit 535, ⟨(.type "code"), none, (.fields #[(.str "owners" 865), (.str "Frames.owners" 866), (.str "/claim/cut.py" 867), (.int 205 0), (.int 2 0), (.int 0 0), (.int 0 0), (.int 3 0), (.ref 530), (.bool true), (.int 181 0), (.ref 531), .none, (.ref 532), (.ref 533), (.ref 534), (.int 870 0), (.int 205 0), (.str "/claim/cut.py" 871)]), #[]⟩) ::
  (nat_lit 536, ⟨(.type "function"), none, (.func ⟨"owners", "Frames.owners", defArgs (inClass (top 36) 9), .stmts (defBody (inClass (top 36) 9)), defScope (inClass (top 36) 9), 3, [], .none, .none, .none, (.str "shadowpages.frames" 779), none, (.ref 535), .none, 0⟩), #[]⟩) ::
  (nat_lit 537, ⟨(.type "tuple"), none, (.seq #[] 0), #[]⟩) ::
  (nat_lit 539, ⟨(.type "tuple"), none, (.seq #[(.str "self" 876)] 0), #[]⟩) ::
  (nat_lit 540, ⟨(.type "tuple"), none, (.seq #[] 0), #[]⟩) ::
  (nat_lit 542, ⟨(.type "code"), none, (.fields #[(.str "free" 873), (.str "Frames.free" 874), (.str "/claim/cut.py" 875), (.int 208 0), (.int 1 0), (.int 0 0), (.int 0 0), (.int 3 0), (.ref 537), (.bool true), (.int 181 0), (.ref 538), .none, (.ref 539), (.ref 540), (.ref 541), (.int 877 0), (.int 208 0), (.str "/claim/cut.py" 878)]), #[]⟩) ::
  (nat_lit 543, ⟨(.type "function"), none, (.func ⟨"free", "Frames.free", defArgs (inClass (top 36) 10), .stmts (defBody (inClass (top 36) 10)), defScope (inClass (top 36) 10), 3, [], .none, .none, .none, (.str "shadowpages.frames" 779), none, (.ref 542), .none, 0⟩), #[]⟩) ::
  (nat_lit 544, ⟨(.type "tuple"), none, (.seq #[] 0), #[]⟩) ::
  (nat_lit 546, ⟨(.type "tuple"), none, (.seq #[(.str "self" 883), (.str "count" 884)] 0), #[]⟩) ::
  (nat_lit 547, ⟨(.type "tuple"), none, (.seq #[] 0), #[]⟩) ::
  (nat_lit 549, ⟨(.type "code"), none, (.fields #[(.str "ask" 880), (.str "Frames.ask" 881), (.str "/claim/cut.py" 882), (.int 211 0), (.int 2 0), (.int 0 0), (.int 0 0), (.int 3 0), (.ref 544), (.bool true), (.int 181 0), (.ref 545), .none, (.ref 546), (.ref 547), (.ref 548), (.int 885 0), (.int 211 0), (.str "/claim/cut.py" 886)]), #[]⟩) ::
  (nat_lit 550, ⟨(.type "function"), none, (.func ⟨"ask", "Frames.ask", defArgs (inClass (top 36) 11), .stmts (defBody (inClass (top 36) 11)), defScope (inClass (top 36) 11), 3, [], .none, .none, .none, (.str "shadowpages.frames" 779), none, (.ref 549), .none, 0⟩), #[]⟩) ::
  (nat_lit 551, ⟨(.type "tuple"), none, (.seq #[] 0), #[]⟩) ::
  (nat_lit 553, ⟨(.type "tuple"), none, (.seq #[(.str "self" 891), (.str "count" 892)] 0), #[]⟩) ::
  (nat_lit 554, ⟨(.type "tuple"), none, (.seq #[] 0), #[]⟩) ::
  (nat_lit 556, ⟨(.type "code"), none, (.fields #[(.str "back" 888), (.str "Frames.back" 889), (.str "/claim/cut.py" 890), (.int 214 0), (.int 2 0), (.int 0 0), (.int 0 0), (.int 3 0), (.ref 551), (.bool true), (.int 181 0), (.ref 552), .none, (.ref 553), (.ref 554), (.ref 555), (.int 893 0), (.int 214 0), (.str "/claim/cut.py" 894)]), #[]⟩) ::
  (nat_lit 557, ⟨(.type "function"), none, (.func ⟨"back", "Frames.back", defArgs (inClass (top 36) 12), .stmts (defBody (inClass (top 36) 12)), defScope (inClass (top 36) 12), 3, [], .none, .none, .none, (.str "shadowpages.frames" 779), none, (.ref 556), .none, 0⟩), #[]⟩) ::
  (nat_lit 558, ⟨(.type "tuple"), none, (.seq #[] 0), #[]⟩) ::
  (nat_lit 560, ⟨(.type "tuple"), none, (.seq #[(.str "self" 899)] 0), #[]⟩) ::
  (nat_lit 561, ⟨(.type "tuple"), none, (.seq #[] 0), #[]⟩) ::
  (nat_lit 563, ⟨(.type "code"), none, (.fields #[(.str "promised" 896), (.str "Frames.promised" 897), (.str "/claim/cut.py" 898), (.int 217 0), (.int 1 0), (.int 0 0), (.int 0 0), (.int 3 0), (.ref 558), (.bool true), (.int 181 0), (.ref 559), .none, (.ref 560), (.ref 561), (.ref 562), (.int 900 0), (.int 217 0), (.str "/claim/cut.py" 901)]), #[]⟩) ::
  (nat_lit 564, ⟨(.type "function"), none, (.func ⟨"promised", "Frames.promised", defArgs (inClass (top 36) 13), .stmts (defBody (inClass (top 36) 13)), defScope (inClass (top 36) 13), 3, [], .none, .none, .none, (.str "shadowpages.frames" 779), none, (.ref 563), .none, 0⟩), #[]⟩) ::
  (nat_lit 565, ⟨(.type "tuple"), none, (.seq #[(.str "holders" 903), (.str "pledged" 904), (.str "sheets" 905)] 0), #[]⟩) ::
  (nat_lit 566, ⟨(.type "dict"), none, (.dict #[⟨(PySem.PyData.keyHash P "__module__"), (.str "__module__" 788), (.str "shadowpages.frames" 779)⟩, ⟨(PySem.PyData.keyHash P "__firstlineno__"), (.str "__firstlineno__" 792), (.int 164 791)⟩, ⟨(PySem.PyData.keyHash P "__init__"), (.str "__init__" 798), (.ref 473)⟩, ⟨(PySem.PyData.keyHash P "size"), (.str "size" 805), (.ref 480)⟩, ⟨(PySem.PyData.keyHash P "has"), (.str "has" 813), (.ref 487)⟩, ⟨(PySem.PyData.keyHash P "word_at"), (.str "word_at" 822), (.ref 494)⟩, ⟨(PySem.PyData.keyHash P "put_word"), (.str "put_word" 832), (.ref 501)⟩, ⟨(PySem.PyData.keyHash P "take"), (.str "take" 840), (.ref 508)⟩, ⟨(PySem.PyData.keyHash P "share"), (.str "share" 848), (.ref 515)⟩, ⟨(PySem.PyData.keyHash P "drop"), (.str "drop" 856), (.ref 522)⟩, ⟨(PySem.PyData.keyHash P "check_taken"), (.str "check_taken" 864), (.ref 529)⟩, ⟨(PySem.PyData.keyHash P "owners"), (.str "owners" 872), (.ref 536)⟩, ⟨(PySem.PyData.keyHash P "free"), (.str "free" 879), (.ref 543)⟩, ⟨(PySem.PyData.keyHash P "ask"), (.str "ask" 887), (.ref 550)⟩, ⟨(PySem.PyData.keyHash P "back"), (.str "back" 895), (.ref 557)⟩, ⟨(PySem.PyData.keyHash P "promised"), (.str "promised" 902), (.ref 564)⟩, ⟨(PySem.PyData.keyHash P "__static_attributes__"), (.str "__static_attributes__" 906), (.ref 565)⟩, ⟨(PySem.PyData.keyHash P "__doc__"), (.str "__doc__" 907), .none⟩] 2), #[]⟩) ::
  (nat_lit 567, ⟨(.type "type"), none, (.cls ⟨"Frames", [(.ref 370)], [(.ref 567), (.ref 370), (.type "object")], 566, "Frames", true, [], [], false, none, false⟩), #[(some (.ref 462)), none, (some (.str "Frames" 781)), (some (.str "Frames" 789)), (some (.builtin "object.__new__")), (some (.bool true))]⟩) ::
  (nat_lit 570, ⟨(.type "tuple"), none, (.seq #[] 0), #[]⟩) ::
  (nat_lit 572, ⟨(.type "tuple"), none, (.seq #[(.str "_law_script" 915), (.str "_law_k" 916)] 0), #[]⟩) ::
  (nat_lit 573, ⟨(.type "tuple"), none, (.seq #[] 0), #[]⟩) ::
  (nat_lit 575, ⟨(.type "code"), none, (.fields #[(.str "_law_cell_at" 912), (.str "_law_cell_at" 913), (.str "/claim/cut.py" 914), (.int 220 0), (.int 2 0), (.int 0 0), (.int 0 0), (.int 3 0), (.ref 570), (.bool true), (.int 181 0), (.ref 571), .none, (.ref 572), (.ref 573), (.ref 574), (.int 917 0), (.int 220 0), (.str "/claim/cut.py" 918)]), #[]⟩) ::
  (nat_lit 576, ⟨(.type "function"), none, (.func ⟨"_law_cell_at", "_law_cell_at", defArgs (top 38), .stmts (defBody (top 38)), defScope (top 38), 3, [], .none, .none, .none, (.str "law_shadowpages_k44_parts_lead" 910), none, (.ref 575), .none, 0⟩), #[]⟩) ::
  (nat_lit 577, ⟨(.type "tuple"), none, (.seq #[] 0), #[]⟩) ::
  (nat_lit 579, ⟨(.type "tuple"), none, (.seq #[(.str "_law_found" 923)] 0), #[]⟩) ::
  (nat_lit 580, ⟨(.type "tuple"), none, (.seq #[] 0), #[]⟩) ::
  (nat_lit 582, ⟨(.type "code"), none, (.fields #[(.str "_law_whole" 920), (.str "_law_whole" 921), (.str "/claim/cut.py" 922), (.int 224 0), (.int 1 0), (.int 0 0), (.int 0 0), (.int 3 0), (.ref 577), (.bool true), (.int 181 0), (.ref 578), .none, (.ref 579), (.ref 580), (.ref 581), (.int 924 0), (.int 224 0), (.str "/claim/cut.py" 925)]), #[]⟩) ::
  (nat_lit 583, ⟨(.type "function"), none, (.func ⟨"_law_whole", "_law_whole", defArgs (top 39), .stmts (defBody (top 39)), defScope (top 39), 3, [], .none, .none, .none, (.str "law_shadowpages_k44_parts_lead" 910), none, (.ref 582), .none, 0⟩), #[]⟩) ::
  (nat_lit 584, ⟨(.type "tuple"), none, (.seq #[] 0), #[]⟩) ::
  (nat_lit 586, ⟨(.type "tuple"), none, (.seq #[(.str "_law_e" 930), (.str "_law_some_here" 931)] 0), #[]⟩) ::
  (nat_lit 587, ⟨(.type "tuple"), none, (.seq #[] 0), #[]⟩) ::
  (nat_lit 589, ⟨(.type "code"), none, (.fields #[(.str "_law_kinds" 927), (.str "_law_kinds" 928), (.str "/claim/cut.py" 929), (.int 226 0), (.int 1 0), (.int 0 0), (.int 0 0), (.int 3 0), (.ref 584), (.bool true), (.int 181 0), (.ref 585), .none, (.ref 586), (.ref 587), (.ref 588), (.int 932 0), (.int 226 0), (.str "/claim/cut.py" 933)]), #[]⟩) ::
  (nat_lit 590, ⟨(.type "function"), none, (.func ⟨"_law_kinds", "_law_kinds", defArgs (top 40), .stmts (defBody (top 40)), defScope (top 40), 3, [], .none, .none, .none, (.str "law_shadowpages_k44_parts_lead" 910), none, (.ref 589), .none, 0⟩), #[]⟩) ::
  (nat_lit 591, ⟨(.type "tuple"), none, (.seq #[] 0), #[]⟩) ::
  (nat_lit 593, ⟨(.type "tuple"), none, (.seq #[(.str "_law_part" 938), (.str "_law_word" 939), (.str "_law_page" 940), (.str "_law_frame_here" 941)] 0), #[]⟩) ::
  (nat_lit 594, ⟨(.type "tuple"), none, (.seq #[] 0), #[]⟩) ::
  (nat_lit 596, ⟨(.type "code"), none, (.fields #[(.str "_law_do" 935), (.str "_law_do" 936), (.str "/claim/cut.py" 937), (.int 232 0), (.int 4 0), (.int 0 0), (.int 0 0), (.int 3 0), (.ref 591), (.bool true), (.int 181 0), (.ref 592), .none, (.ref 593), (.ref 594), (.ref 595), (.int 942 0), (.int 232 0), (.str "/claim/cut.py" 943)]), #[]⟩) ::
  (nat_lit 597, ⟨(.type "function"), none, (.func ⟨"_law_do", "_law_do", defArgs (top 41), .stmts (defBody (top 41)), defScope (top 41), 3, [], .none, .none, .none, (.str "law_shadowpages_k44_parts_lead" 910), none, (.ref 596), .none, 0⟩), #[]⟩) ::
  (nat_lit 598, ⟨(.type "tuple"), none, (.seq #[] 0), #[]⟩) ::
  (nat_lit 600, ⟨(.type "tuple"), none, (.seq #[(.str "_law_part" 948), (.str "_law_word" 949), (.str "_law_page" 950), (.str "_law_frame_here" 951), (.str "_law_due" 952), (.str "_law_kinds_here" 953), (.str "_law_e" 954)] 0), #[]⟩) ::
  (nat_lit 601, ⟨(.type "tuple"), none, (.seq #[] 0), #[]⟩) ::
  (nat_lit 603, ⟨(.type "code"), none, (.fields #[(.str "_law_refused" 945), (.str "_law_refused" 946), (.str "/claim/cut.py" 947), (.int 240 0), (.int 5 0), (.int 0 0), (.int 0 0), (.int 3 0), (.ref 598), (.bool true), (.int 181 0), (.ref 599), .none, (.ref 600), (.ref 601), (.ref 602), (.int 955 0), (.int 240 0), (.str "/claim/cut.py" 956)]), #[]⟩) ::
  (nat_lit 604, ⟨(.type "function"), none, (.func ⟨"_law_refused", "_law_refused", defArgs (top 42), .stmts (defBody (top 42)), defScope (top 42), 3, [], .none, .none, .none, (.str "law_shadowpages_k44_parts_lead" 910), none, (.ref 603), .none, 0⟩), #[]⟩) ::
  (nat_lit 605, ⟨(.type "tuple"), none, (.seq #[] 0), #[]⟩) ::
  (nat_lit 607, ⟨(.type "tuple"), none, (.seq #[(.str "_law_cell" 961), (.str "_law_size" 962), (.str "_law_pages" 963), (.str "_law_k" 964), (.str "_law_number" 965)] 0), #[]⟩) ::
  (nat_lit 608, ⟨(.type "tuple"), none, (.seq #[] 0), #[]⟩) ::
  (nat_lit 610, ⟨(.type "code"), none, (.fields #[(.str "_law_image" 958), (.str "_law_image" 959), (.str "/claim/cut.py" 960), (.int 247 0), (.int 2 0), (.int 0 0), (.int 0 0), (.int 3 0), (.ref 605), (.bool true), (.int 181 0), (.ref 606), .none, (.ref 607), (.ref 608), (.ref 609), (.int 966 0), (.int 247 0), (.str "/claim/cut.py" 967)]), #[]⟩) ::
  (nat_lit 611, ⟨(.type "function"), none, (.func ⟨"_law_image", "_law_image", defArgs (top 43), .stmts (defBody (top 43)), defScope (top 43), 3, [], .none, .none, .none, (.str "law_shadowpages_k44_parts_lead" 910), none, (.ref 610), .none, 0⟩), #[]⟩) ::
  (nat_lit 612, ⟨(.type "tuple"), none, (.seq #[] 0), #[]⟩) ::
  (nat_lit 614, ⟨(.type "tuple"), none, (.seq #[(.str "_law_rows" 972), (.str "_law_frame_here" 973)] 0), #[]⟩) ::
  (nat_lit 615, ⟨(.type "tuple"), none, (.seq #[] 0), #[]⟩) ::
  (nat_lit 617, ⟨(.type "code"), none, (.fields #[(.str "_law_least" 969), (.str "_law_least" 970), (.str "/claim/cut.py" 971), (.int 256 0), (.int 1 0), (.int 0 0), (.int 0 0), (.int 3 0), (.ref 612), (.bool true), (.int 181 0), (.ref 613), .none, (.ref 614), (.ref 615), (.ref 616), (.int 974 0), (.int 256 0), (.str "/claim/cut.py" 975)]), #[]⟩) ::
  (nat_lit 618, ⟨(.type "function"), none, (.func ⟨"_law_least", "_law_least", defArgs (top 44), .stmts (defBody (top 44)), defScope (top 44), 3, [], .none, .none, .none, (.str "law_shadowpages_k44_parts_lead" 910), none, (.ref 617), .none, 0⟩), #[]⟩) ::
  (nat_lit 619, ⟨(.type "tuple"), none, (.seq #[] 0), #[]⟩) ::
  (nat_lit 621, ⟨(.type "tuple"), none, (.seq #[(.str "_law_rows" 980), (.str "_law_frame_here" 981)] 0), #[]⟩) ::
  (nat_lit 622, ⟨(.type "tuple"), none, (.seq #[] 0), #[]⟩) ::
  (nat_lit 624, ⟨(.type "code"), none, (.fields #[(.str "_law_count" 977), (.str "_law_count" 978), (.str "/claim/cut.py" 979), (.int 261 0), (.int 2 0), (.int 0 0), (.int 0 0), (.int 3 0), (.ref 619), (.bool true), (.int 181 0), (.ref 620), .none, (.ref 621), (.ref 622), (.ref 623), (.int 982 0), (.int 261 0), (.str "/claim/cut.py" 983)]), #[]⟩) ::
  (nat_lit 625, ⟨(.type "function"), none, (.func ⟨"_law_count", "_law_count", defArgs (top 45), .stmts (defBody (top 45)), defScope (top 45), 3, [], .none, .none, .none, (.str "law_shadowpages_k44_parts_lead" 910), none, (.ref 624), .none, 0⟩), #[]⟩) ::
  (nat_lit 626, ⟨(.type "tuple"), none, (.seq #[] 0), #[]⟩) ::
  (nat_lit 629, ⟨(.type "code"), none, (.fields #[(.str "_law_free" 985), (.str "_law_free" 986), (.str "/claim/cut.py" 987), (.int 263 0), (.int 2 0), (.int 0 0), (.int 0 0), (.int 3 0), (.ref 626), (.bool true), (.int 181 0), (.ref 627), .none, .none, .none, (.ref 628), (.int 988 0), (.int 263 0), (.str "/claim/cut.py" 989)]), #[]⟩) ::
  (nat_lit 630, ⟨(.type "function"), none, (.func ⟨"_law_free", "_law_free", defArgs (top 46), .stmts (defBody (top 46)), defScope (top 46), 3, [], .none, .none, .none, (.str "law_shadowpages_k44_parts_lead" 910), none, (.ref 629), .none, 0⟩), #[]⟩) ::
  (nat_lit 631, ⟨(.type "tuple"), none, (.seq #[] 0), #[]⟩) ::
  (nat_lit 634, ⟨(.type "code"), none, (.fields #[(.str "_law_some" 991), (.str "_law_some" 992), (.str "/claim/cut.py" 993), (.int 265 0), (.int 2 0), (.int 0 0), (.int 0 0), (.int 3 0), (.ref 631), (.bool true), (.int 181 0), (.ref 632), .none, .none, .none, (.ref 633), (.int 994 0), (.int 265 0), (.str "/claim/cut.py" 995)]), #[]⟩) ::
  (nat_lit 635, ⟨(.type "function"), none, (.func ⟨"_law_some", "_law_some", defArgs (top 47), .stmts (defBody (top 47)), defScope (top 47), 3, [], .none, .none, .none, (.str "law_shadowpages_k44_parts_lead" 910), none, (.ref 634), .none, 0⟩), #[]⟩) ::
  (nat_lit 636, ⟨(.type "tuple"), none, (.seq #[] 0), #[]⟩) ::
  (nat_lit 638, ⟨(.type "tuple"), none, (.seq #[(.str "_law_found" 1000), (.str "_law_due" 1001)] 0), #[]⟩) ::
  (nat_lit 639, ⟨(.type "tuple"), none, (.seq #[] 0), #[]⟩) ::
  (nat_lit 641, ⟨(.type "code"), none, (.fields #[(.str "_law_frame" 997), (.str "_law_frame" 998), (.str "/claim/cut.py" 999), (.int 270 0), (.int 2 0), (.int 0 0), (.int 0 0), (.int 3 0), (.ref 636), (.bool true), (.int 181 0), (.ref 637), .none, (.ref 638), (.ref 639), (.ref 640), (.int 1002 0), (.int 270 0), (.str "/claim/cut.py" 1003)]), #[]⟩) ::
  (nat_lit 642, ⟨(.type "function"), none, (.func ⟨"_law_frame", "_law_frame", defArgs (top 48), .stmts (defBody (top 48)), defScope (top 48), 3, [], .none, .none, .none, (.str "law_shadowpages_k44_parts_lead" 910), none, (.ref 641), .none, 0⟩), #[]⟩) ::
  (nat_lit 643, ⟨(.type "tuple"), none, (.seq #[] 0), #[]⟩) ::
  (nat_lit 645, ⟨(.type "tuple"), none, (.seq #[(.str "_law_frames" 1008), (.str "_law_part" 1009), (.str "_law_rows" 1010), (.str "_law_which" 1011), (.str "_law_page" 1012), (.str "_law_seen" 1013), (.str "_law_told" 1014), (.str "_law_row" 1015), (.str "_law_k" 1016), (.str "_law_frame_here" 1017)] 0), #[]⟩) ::
  (nat_lit 646, ⟨(.type "tuple"), none, (.seq #[] 0), #[]⟩) ::
  (nat_lit 648, ⟨(.type "code"), none, (.fields #[(.str "_law_shows" 1005), (.str "_law_shows" 1006), (.str "/claim/cut.py" 1007), (.int 274 0), (.int 6 0), (.int 0 0), (.int 0 0), (.int 3 0), (.ref 643), (.bool true), (.int 181 0), (.ref 644), .none, (.ref 645), (.ref 646), (.ref 647), (.int 1018 0), (.int 274 0), (.str "/claim/cut.py" 1019)]), #[]⟩) ::
  (nat_lit 649, ⟨(.type "function"), none, (.func ⟨"_law_shows", "_law_shows", defArgs (top 49), .stmts (defBody (top 49)), defScope (top 49), 3, [], .none, .none, .none, (.str "law_shadowpages_k44_parts_lead" 910), none, (.ref 648), .none, 0⟩), #[]⟩) ::
  (nat_lit 650, ⟨(.type "tuple"), none, (.seq #[] 0), #[]⟩) ::
  (nat_lit 652, ⟨(.type "tuple"), none, (.seq #[(.str "_law_part" 1024), (.str "_law_rows" 1025), (.str "_law_which" 1026), (.str "_law_page" 1027), (.str "_law_due" 1028), (.str "_law_found" 1029)] 0), #[]⟩) ::
  (nat_lit 653, ⟨(.type "tuple"), none, (.seq #[] 0), #[]⟩) ::
  (nat_lit 655, ⟨(.type "code"), none, (.fields #[(.str "_law_alone" 1021), (.str "_law_alone" 1022), (.str "/claim/cut.py" 1023), (.int 287 0), (.int 4 0), (.int 0 0), (.int 0 0), (.int 3 0), (.ref 650), (.bool true), (.int 181 0), (.ref 651), .none, (.ref 652), (.ref 653), (.ref 654), (.int 1030 0), (.int 287 0), (.str "/claim/cut.py" 1031)]), #[]⟩) ::
  (nat_lit 656, ⟨(.type "function"), none, (.func ⟨"_law_alone", "_law_alone", defArgs (top 50), .stmts (defBody (top 50)), defScope (top 50), 3, [], .none, .none, .none, (.str "law_shadowpages_k44_parts_lead" 910), none, (.ref 655), .none, 0⟩), #[]⟩) ::
  (nat_lit 657, ⟨(.type "tuple"), none, (.seq #[] 0), #[]⟩) ::
  (nat_lit 659, ⟨(.type "tuple"), none, (.seq #[(.str "_law_part" 1036), (.str "_law_cell" 1037), (.str "_law_size" 1038), (.str "_law_thing" 1039), (.str "_law_word" 1040)] 0), #[]⟩) ::
  (nat_lit 660, ⟨(.type "tuple"), none, (.seq #[] 0), #[]⟩) ::
  (nat_lit 662, ⟨(.type "code"), none, (.fields #[(.str "_law_none" 1033), (.str "_law_none" 1034), (.str "/claim/cut.py" 1035), (.int 293 0), (.int 3 0), (.int 0 0), (.int 0 0), (.int 3 0), (.ref 657), (.bool true), (.int 181 0), (.ref 658), .none, (.ref 659), (.ref 660), (.ref 661), (.int 1041 0), (.int 293 0), (.str "/claim/cut.py" 1042)]), #[]⟩) ::
  (nat_lit 663, ⟨(.type "function"), none, (.func ⟨"_law_none", "_law_none", defArgs (top 51), .stmts (defBody (top 51)), defScope (top 51), 3, [], .none, .none, .none, (.str "law_shadowpages_k44_parts_lead" 910), none, (.ref 662), .none, 0⟩), #[]⟩) ::
  (nat_lit 664, ⟨(.type "tuple"), none, (.seq #[] 0), #[]⟩) ::
  (nat_lit 666, ⟨(.type "tuple"), none, (.seq #[(.str "_law_part" 1047), (.str "_law_rows" 1048), (.str "_law_which" 1049), (.str "_law_page" 1050), (.str "_law_cell" 1051), (.str "_law_word" 1052), (.str "_law_here" 1053), (.str "_law_some_here" 1054), (.str "_law_thing" 1055), (.str "_law_frame_here" 1056)] 0), #[]⟩) ::
  (nat_lit 667, ⟨(.type "tuple"), none, (.seq #[] 0), #[]⟩) ::
  (nat_lit 669, ⟨(.type "code"), none, (.fields #[(.str "_law_deed" 1044), (.str "_law_deed" 1045), (.str "/claim/cut.py" 1046), (.int 297 0), (.int 5 0), (.int 0 0), (.int 0 0), (.int 3 0), (.ref 664), (.bool true), (.int 181 0), (.ref 665), .none, (.ref 666), (.ref 667), (.ref 668), (.int 1057 0), (.int 297 0), (.str "/claim/cut.py" 1058)]), #[]⟩) ::
  (nat_lit 670, ⟨(.type "function"), none, (.func ⟨"_law_deed", "_law_deed", defArgs (top 52), .stmts (defBody (top 52)), defScope (top 52), 3, [], .none, .none, .none, (.str "law_shadowpages_k44_parts_lead" 910), none, (.ref 669), .none, 0⟩), #[]⟩) ::
  (nat_lit 671, ⟨(.type "tuple"), none, (.seq #[] 0), #[]⟩) ::
  (nat_lit 673, ⟨(.type "tuple"), none, (.seq #[(.str "_law_script" 1063), (.str "_law_sizes" 1064), (.str "_law_frames" 1065), (.str "_law_parts" 1066), (.str "_law_rows" 1067), (.str "_law_k" 1068), (.str "_law_image_here" 1069), (.str "_law_words" 1070), (.str "_law_cell" 1071), (.str "_law_which" 1072), (.str "_law_page" 1073), (.str "_law_seen" 1074)] 0), #[]⟩) ::
  (nat_lit 674, ⟨(.type "tuple"), none, (.seq #[] 0), #[]⟩) ::
  (nat_lit 676, ⟨(.type "code"), none, (.fields #[(.str "law" 1060), (.str "law" 1061), (.str "/claim/cut.py" 1062), (.int 321 0), (.int 1 0), (.int 0 0), (.int 0 0), (.int 3 0), (.ref 671), (.bool true), (.int 181 0), (.ref 672), .none, (.ref 673), (.ref 674), (.ref 675), (.int 1075 0), (.int 321 0), (.str "/claim/cut.py" 1076)]), #[]⟩) ::
  (nat_lit 677, ⟨(.type "function"), none, (.func ⟨"law", "law", defArgs (top 53), .stmts (defBody (top 53)), defScope (top 53), 3, [], .none, .none, .none, (.str "law_shadowpages_k44_parts_lead" 910), none, (.ref 676), .none, 0⟩), #[]⟩) :: []
def asF : List Nat := [2, 3, 15, 17, 18, 20, 21, 22, 29, 30, 31, 32, 35, 42, 43, 44, 47, 54, 55, 56, 59, 66, 67, 68, 71, 78, 79, 80, 83, 90, 91, 92, 95, 102, 103, 104, 107, 114, 115, 116, 119, 126, 127, 128, 131, 138, 139, 140, 143, 150, 151, 152, 155, 162, 163, 164, 167, 174, 175, 176, 179, 186, 187, 188, 191, 198, 199, 200, 203, 210, 212, 213, 215, 216, 217, 218, 219, 222, 229, 231, 232, 234, 235, 236, 237, 238, 241, 248, 250, 251, 253, 254, 255, 256, 257, 260, 262, 263, 265, 266, 267, 269, 270, 272, 273, 274, 276, 277, 279, 280, 281, 284, 285, 286, 288, 289, 291, 292, 293, 295, 296, 298, 299, 307, 309, 310, 312, 313, 314, 316, 317, 319, 320, 321, 323, 324, 326, 327, 328, 330, 331, 333, 334, 335, 337, 338, 340, 341, 342, 344, 345, 347, 348, 349, 352, 353, 354, 356, 357, 359, 360, 361, 363, 364, 366, 367, 368, 369, 370, 371, 372, 382, 385, 386, 387, 389, 390, 392, 393, 394, 396, 397, 399, 400, 401, 403, 404, 406, 407, 408, 410, 411, 413, 414, 415, 417, 418, 420, 421, 422, 424, 425, 427, 428, 429, 431, 432, 434, 435, 436, 438, 439, 441, 442, 443, 445, 446, 448, 449, 450, 453, 454, 455, 456, 457, 458, 459, 462, 469, 472, 473, 474, 476, 477, 479, 480, 481, 483, 484, 486, 487, 488, 490, 491, 493, 494, 495, 497, 498, 500, 501, 502, 504, 505, 507, 508, 509, 511, 512, 514, 515, 516, 518, 519, 521, 522, 523, 525, 526, 528, 529, 530, 532, 533, 535, 536, 537, 539, 540, 542, 543, 544, 546, 547, 549, 550, 551, 553, 554, 556, 557, 558, 560, 561, 563, 564, 565, 566, 567, 570, 572, 573, 575, 576, 577, 579, 580, 582, 583, 584, 586, 587, 589, 590, 591, 593, 594, 596, 597, 598, 600, 601, 603, 604, 605, 607, 608, 610, 611, 612, 614, 615, 617, 618, 619, 621, 622, 624, 625, 626, 629, 630, 631, 634, 635, 636, 638, 639, 641, 642, 643, 645, 646, 648, 649, 650, 652, 653, 655, 656, 657, 659, 660, 662, 663, 664, 666, 667, 669, 670, 671, 673, 674, 676, 677]
theorem hF (P : Params) : asF = (KF P).map (·.1) := by kernel_rfl
noncomputable def vw : Program := { PySem.Challenge.pw_shadowpages_k44_parts_lead with main := { PySem.Challenge.pw_shadowpages_k44_parts_lead.main with body := [top 0, top 1, top 2, top 3, top 4, top 6, top 7, top 8, top 9, top 10, top 11, top 12, top 13, top 14, top 15, top 16, top 17, top 18, top 19, top 20, top 21, top 22, top 23, top 25, top 26, top 27, top 29, top 30, top 31, top 32, top 34, top 36, top 38, top 39, top 40, top 41, top 42, top 43, top 44, top 45, top 46, top 47, top 48, top 49, top 50, top 51, top 52, top 53] } }
set_option maxHeartbeats 0 in
theorem hl : PySem.W.LeftO PySem.Challenge.rw_shadowpages_k44_parts_lead.row.prog vw [] (fun s => PySem.W.xlAt vw [] s && PySem.W.recOk [] s) (PySem.W.kHook KF asF hF).obs (PySem.W.kHook KF asF hF).val 12904 := by
  refine HT1.left_one (by rfl) (by rfl) (fun _ => rfl) fun w => ?_
  rw [PySem.W.Fast.te2107270133195307567, PySem.W.Fast.te4757257242682413121, PySem.W.Fast.te6483871617321286689, PySem.W.Fast.te3486900944545009338]
  kernel_rfl
end K44

end
section
-- CHANGE: your row's module here, as the last of these rows
set_option Elab.async false
set_option linter.all false
set_option maxRecDepth 100000
/-! THE HAND LAYER, for ints, bools, texts, own classes, LISTS and tuples (index, slices, in, append, pop ..), calls, loops. Paste it whole ahead of your own text; what your proof does not reach may be deleted. -/
namespace L2
open PySem PySem.Spec PyProof.Rows

abbrev Key := Sum Int Str
def keyIs : Key → Value → Bool
  | .inl k, v => Value.isInt k v
  | .inr x, v => Value.isStrOf x v
def keyH (w : World) : Key → Int
  | .inl k => hashInt k
  | .inr x => hashStr w x
theorem keyIs_shape : ∀ {k : Key} {v : Value}, keyIs k v = true → (∃ i t, k = Sum.inl i ∧ v = Value.int i t) ∨ (∃ x t, k = Sum.inr x ∧ v = Value.str x t)
  | .inl i, v, h => by
    obtain ⟨t, e⟩ := Value.isInt_shape (k := i) (v := v) h
    exact .inl ⟨i, t, rfl, e⟩
  | .inr x, v, h => by
    obtain ⟨t, e⟩ := Value.isStrOf_shape (x := x) (v := v) h
    exact .inr ⟨x, t, rfl, e⟩
theorem key_ll (a b : Int) : decide ((Sum.inl a : Key) = Sum.inl b) = (a == b) := by
  by_cases e : a = b
  · subst e; simp
  · have h : ¬ (Sum.inl a : Key) = Sum.inl b := fun q => e (Sum.inl.inj q)
    rw [decide_eq_false h]
    exact (beq_eq_false_iff_ne.mpr e).symm
theorem key_rr (a b : Str) : decide ((Sum.inr a : Key) = Sum.inr b) = decide (a = b) := by
  by_cases e : a = b
  · subst e; simp
  · have h : ¬ (Sum.inr a : Key) = Sum.inr b := fun q => e (Sum.inr.inj q)
    rw [decide_eq_false h, decide_eq_false e]
theorem key_lr (a : Int) (b : Str) : decide ((Sum.inl a : Key) = Sum.inr b) = false := decide_eq_false (fun q => nomatch q)
theorem key_rl (a : Str) (b : Int) : decide ((Sum.inr a : Key) = Sum.inl b) = false := decide_eq_false (fun q => nomatch q)

def mixKind (prog : Program) (w : World) : PySem.KeyKind prog w Key where
  is := keyIs
  hash := keyH w
  inj := fun v a b ha hb => by
    rcases keyIs_shape ha with ⟨i, t, rfl, rfl⟩ | ⟨x, t, rfl, rfl⟩
    · rcases keyIs_shape hb with ⟨j, u, rfl, e⟩ | ⟨y, u, rfl, e⟩
      · injection e with e1 _; rw [e1]
      · exact nomatch e
    · rcases keyIs_shape hb with ⟨j, u, rfl, e⟩ | ⟨y, u, rfl, e⟩
      · exact nomatch e
      · injection e with e1 _; rw [e1]
  byValue := fun k v h => by
    rcases keyIs_shape h with ⟨i, t, rfl, rfl⟩ | ⟨x, t, rfl, rfl⟩ <;> rfl
  pyHash := fun hv h => by
    rcases keyIs_shape hv with ⟨i, t, rfl, rfl⟩ | ⟨x, t, rfl, rfl⟩
    · exact wpAny_pyHash_int h
    · exact wpAny_pyHash_str h
  eqBool := fun hu hv h => by
    rcases keyIs_shape hu with ⟨i, t, rfl, rfl⟩ | ⟨x, t, rfl, rfl⟩
    · rcases keyIs_shape hv with ⟨j, u, rfl, rfl⟩ | ⟨y, u, rfl, rfl⟩
      · rw [key_ll] at h; exact wpAny_eqBool_int h
      · rw [key_lr] at h; exact SeqAt.EqAt.int_str i t y u _ _ _ _ h
    · rcases keyIs_shape hv with ⟨j, u, rfl, rfl⟩ | ⟨y, u, rfl, rfl⟩
      · rw [key_rl] at h; exact SeqAt.EqAt.str_int x t j u _ _ _ _ h
      · rw [key_rr] at h; exact wpAny_eqBool_str h
  «strs» := fun k x t v h => by
    rcases keyIs_shape h with ⟨i, u, rfl, e⟩ | ⟨y, u, rfl, e⟩
    · exact nomatch e
    · injection e with e1 _
      subst e1
      cases v <;> rfl

end L2

namespace L2
open PySem PySem.Spec PyProof.Rows

inductive V where
  | non | bl (b : Bool) | int (i : Int) | str (x : Str) | byt (b : Array UInt8) | flt (b : UInt64) | ref (a : Addr) | ty (n : String)
  deriving DecidableEq

def RelV : V → Value → Prop
  | .non, u => u = Value.none
  | .bl b, u => u = Value.bool b
  | .int i, u => ∃ t, u = Value.int i t
  | .str x, u => ∃ t, u = Value.str x t
  | .byt b, u => ∃ t, u = Value.bytes b t
  | .flt b, u => ∃ t, u = Value.float b t
  | .ref a, u => u = Value.ref a
  | .ty n, u => u = Value.type n

abbrev Vals : List V → List Value → Prop := Paired RelV
theorem Vals.length {xs : List V} {us : List Value} (r : Vals xs us) : xs.length = us.length := Paired.length r
theorem Vals.get : ∀ {xs : List V} {us : List Value} {i : Nat} {x : V}, Vals xs us → xs[i]? = some x → ∃ u, us[i]? = some u ∧ RelV x u
  | _, _, _, _, .nil, e => by simp at e
  | _, _, 0, _, .cons r _, e => by simp at e; subst e; exact ⟨_, rfl, r⟩
  | _, _, i + 1, x, .cons _ t, e => by
    obtain ⟨u, h1, h2⟩ := Vals.get (i := i) (x := x) t (by simpa using e)
    exact ⟨u, by simpa using h1, h2⟩
theorem Vals.set {x : V} {u : Value} (r : RelV x u) : ∀ {xs : List V} {us : List Value} (i : Nat), Vals xs us → Vals (xs.set i x) (us.set i u)
  | _, _, _, .nil => .nil
  | _, _, 0, .cons _ t => .cons r t
  | _, _, i + 1, .cons q t => .cons q (Vals.set r i t)
theorem Vals.append : ∀ {xs ys : List V} {us ws : List Value}, Vals xs us → Vals ys ws → Vals (xs ++ ys) (us ++ ws)
  | _, _, _, _, .nil, s => s
  | _, _, _, _, .cons r t, s => .cons r (Vals.append t s)
theorem Vals.take : ∀ {xs : List V} {us : List Value} (n : Nat), Vals xs us → Vals (xs.take n) (us.take n)
  | _, _, 0, _ => .nil
  | _, _, _ + 1, .nil => .nil
  | _, _, n + 1, .cons r t => .cons r (Vals.take n t)
theorem Vals.drop : ∀ {xs : List V} {us : List Value} (n : Nat), Vals xs us → Vals (xs.drop n) (us.drop n)
  | _, _, 0, r => r
  | _, _, _ + 1, .nil => .nil
  | _, _, n + 1, .cons _ t => Vals.drop n t
def RelO : Option V → Option Value → Prop
  | some v, some u => RelV v u
  | none, none => True
  | _, _ => False
def KV {κ : Type} : List (κ × V) → List (κ × Value) → Prop := Paired fun (p : κ × V) (q : κ × Value) => p.1 = q.1 ∧ RelV p.2 q.2

def kV : Key → V
  | .inl i => .int i
  | .inr x => .str x

inductive HO where
    | lst (xs : List V)
    | tup (xs : List V)
    | dK (kvs : List (Key × V)) | dT (kvs : List (List Key × V))
    | set (S : Int → Bool) (n : Nat)
    | ins (C dx : Addr) (fs : List (Str × V))
    | own (x : Addr)
    | xd (fs : List (Str × V))
    | met (f x : Addr)
    | rng (lo hi : Int)
    | frz (o : Obj) (u : HO)
    | tbl (ps : Array Value)
    | ext (φ : Heap → Prop)

abbrev Hp := Addr → Option HO
def upd (H : Hp) (a : Addr) (o : HO) : Hp := fun b => if b = a then some o else H b
theorem upd_same {H : Hp} {a : Addr} {o : HO} : upd H a o a = some o := by unfold upd; rw [if_pos rfl]
theorem upd_ne {H : Hp} {a b : Addr} {o : HO} (h : b ≠ a) : upd H a o b = H b := by unfold upd; rw [if_neg h]
theorem ne_of {H : Hp} {a b : Addr} {o u : HO} (h : H a = some o) (h' : H b = some u) (d : o ≠ u) : a ≠ b := by
  intro e; subst e; rw [h] at h'; exact d (Option.some.inj h')
theorem ne_of_none {H : Hp} {a b : Addr} {o : HO} (h : H a = some o) (h' : H b = none) : a ≠ b := by
  intro e; subst e; rw [h] at h'; cases h'

section
variable (P : Program) (w : World)
def ObjOk (H : Hp) (h : Heap) (a : Addr) : HO → Prop
  | .lst xs => xs.length ≤ sizeLine ∧ ∃ (its : List Value) (n : Nat), Vals xs its ∧ h.get? a = some { cls := .type "list", data := .seq its.toArray n }
  | .tup xs => xs.length ≤ sizeLine ∧ ∃ its : List Value, Vals xs its ∧ IsTup h a its.toArray
  | .dK kvs => kvs.length ≤ sizeLine ∧ (a == sysModules) = false ∧ ∃ vs, KV kvs vs ∧ h.DictOf (mixKind P w) a vs
  | .dT kvs => kvs.length ≤ sizeLine ∧ (a == sysModules) = false ∧ ∃ xs : List (List Key × Addr × Value),
      Paired (fun (p : List Key × V) (q : List Key × Addr × Value) => p.1 = q.1 ∧ H q.2.1 = some (.tup (p.1.map kV)) ∧ RelV p.2 q.2.2) kvs xs ∧
      ∃ o es ep, h.get? a = some o ∧ o.ExactDict ∧ o.data = .dict es ep ∧ es.toList = xs.map (entryOfKey (tupleKind (mixKind P w))) ∧ (xs.map (·.1)).Nodup
  | .set S n => h.SetOf (intKind P w) a S n
  | .ins C dx fs => H dx = some (.own a) ∧ fs.length ≤ 1000 ∧ dx ≠ a ∧ h.get? a = some (PySem.W.instObj C dx) ∧
      ∃ mA, h.Ns1 dx mA ∧ (∀ f, RelO (fs.lookup f) (mA f)) ∧ PySem.Within mA (fs.map (·.1))
  | .own _ => ∃ o, h.get? a = some o
  | .xd fs => ∃ mA, h.Ns1 a mA ∧ ∀ f, RelO (fs.lookup f) (mA f)
  | .rng lo hi => ∃ t u v, h.get? a = some { cls := .type "range", data := .fields #[.int lo t, .int hi u, .int 1 v] }
  | .frz o u => h.get? a = some o ∧ ObjOk H h a u
  | .tbl ps => h.get? a = some { cls := .none, data := .fields ps }
  | .met f x => h.get? a = some (PySem.W.methodObj (.ref f) (.ref x))
  | .ext φ => φ h ∧ (∃ o, h.get? a = some o) ∧ ∀ h1 h2 : Heap, φ h1 → (∀ o, h1.get? a = some o → h2.get? a = some o) → φ h2
def HOk (H : Hp) (h : Heap) : Prop := ∀ a o, H a = some o → ObjOk P w H h a o
end

section
variable {P : Program} {w : World} {H H' : Hp} {h h' : Heap} {a : Addr} {o : HO}
theorem ObjOk.lt (x : ObjOk P w H h a o) : a < h.objs.size := by
  cases o with
  | lst xs => obtain ⟨_, _, _, _, e⟩ := x; exact Heap.lt_size e
  | tup xs => obtain ⟨_, _, _, p⟩ := x; exact p.lt
  | dK kvs => obtain ⟨_, _, _, _, o, _, _, e, _⟩ := x; exact Heap.lt_size e
  | dT kvs => obtain ⟨_, _, _, _, o, _, _, e, _⟩ := x; exact Heap.lt_size e
  | set S n => obtain ⟨o, _, _, _, e, _⟩ := x; exact Heap.lt_size e
  | ins C dx fs => obtain ⟨_, _, _, e, _⟩ := x; exact Heap.lt_size e
  | own y => obtain ⟨_, e⟩ := x; exact Heap.lt_size e
  | xd fs => obtain ⟨_, ⟨_, _, _, e, _⟩, _⟩ := x; exact Heap.lt_size e
  | rng lo hi => obtain ⟨_, _, _, e⟩ := x; exact Heap.lt_size e
  | frz ob u => obtain ⟨e, _⟩ := x; exact Heap.lt_size e
  | tbl ps => exact Heap.lt_size (show h.get? a = some _ from x)
  | met f y => exact Heap.lt_size (show h.get? a = some _ from x)
  | ext φ => obtain ⟨_, ⟨_, e⟩, _⟩ := x; exact Heap.lt_size e
theorem Paired.mapP {α β : Type} {F G : α → β → Prop} : ∀ {l₁ : List α} {l₂ : List β}, Paired F l₁ l₂ → (∀ a b, F a b → G a b) → Paired G l₁ l₂
  | _, _, .nil, _ => .nil
  | _, _, .cons r t, f => .cons (f _ _ r) (Paired.mapP t f)
theorem ObjOk.stay (x : ObjOk P w H h a o) (k : ∀ b u, (b = a ∨ H b = some (.own a)) → h.get? b = some u → h'.get? b = some u)
    (ho : ∀ b, H b = some (.own a) → H' b = some (.own a)) (ht : ∀ b xs, H b = some (.tup xs) → H' b = some (.tup xs)) : ObjOk P w H' h' a o := by
  induction o with
  | lst xs => obtain ⟨z, its, n, r, e⟩ := x; exact ⟨z, its, n, r, k _ _ (.inl rfl) e⟩
  | tup xs => obtain ⟨z, its, r, ob, e, c⟩ := x; exact ⟨z, its, r, ob, k _ _ (.inl rfl) e, c⟩
  | dK kvs => obtain ⟨z, y, vs, r, ob, es, ep, e, c⟩ := x; exact ⟨z, y, vs, r, ob, es, ep, k _ _ (.inl rfl) e, c⟩
  | dT kvs =>
    obtain ⟨z, y, xs, r, ob, es, ep, e, c⟩ := x
    exact ⟨z, y, xs, Paired.mapP r fun p q z => ⟨z.1, ht _ _ z.2.1, z.2.2⟩, ob, es, ep, k _ _ (.inl rfl) e, c⟩
  | set S n => obtain ⟨ob, es, ep, t, e, c⟩ := x; exact ⟨ob, es, ep, t, k _ _ (.inl rfl) e, c⟩
  | ins C dx fs =>
    obtain ⟨d, z, ne, e, mA, ⟨od, es, ep, e2, c⟩, r⟩ := x
    exact ⟨ho _ d, z, ne, k _ _ (.inl rfl) e, mA, ⟨od, es, ep, k _ _ (.inr d) e2, c⟩, r⟩
  | own y => obtain ⟨ob, e⟩ := x; exact ⟨ob, k _ _ (.inl rfl) e⟩
  | xd fs => obtain ⟨mA, ⟨od, es, ep, e, c⟩, r⟩ := x; exact ⟨mA, ⟨od, es, ep, k _ _ (.inl rfl) e, c⟩, r⟩
  | rng lo hi => obtain ⟨t, u, v, e⟩ := x; exact ⟨t, u, v, k _ _ (.inl rfl) e⟩
  | frz ob u ih => obtain ⟨e, q⟩ := x; exact ⟨k _ _ (.inl rfl) e, ih q⟩
  | tbl ps =>
    have e : h.get? a = some { cls := .none, data := .fields ps } := x
    show h'.get? a = some { cls := .none, data := .fields ps }
    exact k a _ (.inl rfl) e
  | met f y =>
    have e : h.get? a = some (PySem.W.methodObj (.ref f) (.ref y)) := x
    show h'.get? a = some (PySem.W.methodObj (.ref f) (.ref y))
    exact k a _ (.inl rfl) e
  | ext φ => obtain ⟨p, ⟨o, e⟩, st⟩ := x; exact ⟨st _ _ p fun o q => k _ _ (.inl rfl) q, ⟨o, k _ _ (.inl rfl) e⟩, st⟩
theorem HOk.lt (x : HOk P w H h) (e : H a = some o) : a < h.objs.size := (x a o e).lt
theorem HOk.fresh (x : HOk P w H h) (e : h.objs.size ≤ a) : H a = none := by
  cases q : H a with
  | none => rfl
  | some u => exact absurd (Nat.lt_of_lt_of_le (x.lt q) e) (Nat.lt_irrefl _)
theorem HOk.kept (x : HOk P w H h) (k : ∀ b u, h.get? b = some u → h'.get? b = some u) : HOk P w H h' := fun a o e =>
  (x a o e).stay (fun b u _ q => k b u q) (fun _ q => q) fun _ _ q => q
theorem HOk.laid (x : HOk P w H h) (k : ∀ b u, h.get? b = some u → h'.get? b = some u) (hp : h.objs.size ≤ a) (new : ObjOk P w (upd H a o) h' a o) : HOk P w (upd H a o) h' := fun b u e => by
  have hn := x.fresh hp
  by_cases hb : b = a
  · subst hb; rw [upd_same] at e; cases e; exact new
  · rw [upd_ne hb] at e
    exact (x b u e).stay (fun c v _ q => k c v q) (fun c q => by rw [upd_ne (ne_of_none q hn)]; exact q) fun c xs q => by rw [upd_ne (ne_of_none q hn)]; exact q
end

def Rd (H : Hp) (a : Addr) (u : HO) : Prop := H a = some u ∨ ∃ o, H a = some (.frz o u)
theorem Rd.ok {P : Program} {w : World} {H : Hp} {h : Heap} {a : Addr} {u : HO} (r : Rd H a u) (x : HOk P w H h) : ObjOk P w H h a u := by
  rcases r with r | ⟨o, r⟩
  · exact x a u r
  · obtain ⟨_, q⟩ := x a _ r
    exact q
def Mut : Option HO → Prop
  | some (.lst _) => True
  | some (.dK _) => True
  | some (.dT _) => True
  | some (.set _ _) => True
  | some (.ins _ _ _) => True
  | some (.ext _) => True
  | _ => False
section
variable {P : Program} {w : World} {H : Hp} {h h' : Heap} {x e : Addr} {o' : HO}
theorem HOk.write (ok : HOk P w H h) (mu : Mut (H x)) (he : e = x ∨ H e = some (.own x)) (k : ∀ b u, b ≠ e → h.get? b = some u → h'.get? b = some u) (heo : ∃ u, h'.get? e = some u)
    (new : ObjOk P w (upd H x o') h' x o') : HOk P w (upd H x o') h' := fun b u q => by
  have nown : ∀ c y, H c = some (.own y) → c ≠ x := fun c y r z => by subst z; rw [r] at mu; exact mu
  have ntup : ∀ c xs, H c = some (.tup xs) → c ≠ x := fun c xs r z => by subst z; rw [r] at mu; exact mu
  by_cases hb : b = x
  · subst hb; rw [upd_same] at q; cases q; exact new
  · rw [upd_ne hb] at q
    by_cases hbe : b = e
    · have q' : H b = some (.own x) := by
        rcases he with z | z
        · exact absurd (hbe.trans z) hb
        · rw [hbe]; exact z
      rw [q] at q'; cases q'
      obtain ⟨v, hv⟩ := heo
      exact ⟨v, by rw [hbe]; exact hv⟩
    · refine (ok b u q).stay (fun c v hc r => k c v ?_ r) (fun c r => by rw [upd_ne (nown c b r)]; exact r) fun c xs r => by rw [upd_ne (ntup c xs r)]; exact r
      rcases hc with rfl | hc
      · exact hbe
      · rintro rfl
        rcases he with z | z
        · exact nown c b hc z
        · rw [hc] at z; cases z; exact hb rfl
end

/-! ### kept unless tracked; of the frames at fs (the callers') the slots may change (an exception that passes writes there); of the records at ex (iterators) nothing is said -/
structure Un (fs ex : List Addr) (H H' : Hp) (h h' : Heap) : Prop where
  keep : ∀ b o, h.get? b = some o → H b = none → b ∉ fs → b ∉ ex → h'.get? b = some o
  slot : ∀ b o, h.get? b = some o → H b = none → b ∈ fs → b ∉ ex → ∃ sl, h'.get? b = some { o with slots := sl }
  free : ∀ b o, h.get? b = some o → H b = none → b ∉ ex → H' b = none
  there : ∀ b o, h.get? b = some o → b ∉ ex → ∃ o', h'.get? b = some o'
  tups : ∀ b xs, H b = some (.tup xs) → H' b = some (.tup xs)
  frzs : ∀ b o u, H b = some (.frz o u) → H' b = some (.frz o u)
  tbls : ∀ b ps, H b = some (.tbl ps) → ∃ more, H' b = some (.tbl (ps ++ more))
section
variable {fs fs' ex ex' : List Addr} {H H1 H2 : Hp} {h h1 h2 h' : Heap} {a x e : Addr} {o : HO}
theorem Un.any (u : Un fs ex H H1 h h1) {b : Addr} {ob : Obj} (q : h.get? b = some ob) (n : H b = none) (hx : b ∉ ex) : ∃ sl, h1.get? b = some { ob with slots := sl } := by
  by_cases hb : b ∈ fs
  · exact u.slot b ob q n hb hx
  · exact ⟨ob.slots, u.keep b ob q n hb hx⟩
theorem Un.kept (k : ∀ b u, h.get? b = some u → h'.get? b = some u) : Un fs ex H H h h' :=
  ⟨fun b ob q _ _ _ => k b ob q, fun b ob q _ _ _ => ⟨ob.slots, k b ob q⟩, fun _ _ _ n _ => n, fun b ob q _ => ⟨ob, k b ob q⟩, fun _ _ q => q, fun _ _ _ q => q, fun _ ps q => ⟨#[], by rw [q]; simp⟩⟩
theorem Un.refl : Un fs ex H H h h := Un.kept fun _ _ q => q
theorem Un.laid (k : ∀ b u, h.get? b = some u → h'.get? b = some u) (hp : h.objs.size ≤ a) (hn : H a = none) : Un fs ex H (upd H a o) h h' where
  keep := fun b u q _ _ _ => k b u q
  slot := fun b u q _ _ _ => ⟨u.slots, k b u q⟩
  free := fun b u q n _ => by rw [upd_ne (Nat.ne_of_lt (Nat.lt_of_lt_of_le (Heap.lt_size q) hp))]; exact n
  there := fun b u q _ => ⟨u, k b u q⟩
  tups := fun b xs q => by rw [upd_ne (ne_of_none q hn)]; exact q
  frzs := fun b u xs q => by rw [upd_ne (ne_of_none q hn)]; exact q
  tbls := fun b ps q => ⟨#[], by rw [upd_ne (ne_of_none q hn), q]; simp⟩
theorem Un.write (mu : Mut (H x)) (he : e = x ∨ H e = some (.own x)) (k : ∀ b u, b ≠ e → h.get? b = some u → h'.get? b = some u) (heo : ∃ u, h'.get? e = some u) : Un fs ex H (upd H x o) h h' := by
  have hx : ∀ b, H b = none → b ≠ x := fun b n z => by subst z; rw [n] at mu; exact mu
  have hb : ∀ b, H b = none → b ≠ e := fun b n z => by
    subst z
    rcases he with r | r
    · exact hx b n r
    · rw [n] at r; cases r
  have hm : ∀ b u, H b = some u → ¬ Mut (some u) → b ≠ x := fun b u q nm z => by subst z; rw [q] at mu; exact nm mu
  refine ⟨fun b u q n _ _ => k b u (hb b n) q, fun b u q n _ _ => ⟨u.slots, k b u (hb b n) q⟩, fun b u q n _ => by rw [upd_ne (hx b n)]; exact n, fun b u q _ => ?_,
    fun b xs q => by rw [upd_ne (hm b _ q fun z => z)]; exact q, fun b u xs q => by rw [upd_ne (hm b _ q fun z => z)]; exact q, fun b ps q => ⟨#[], by rw [upd_ne (hm b _ q fun z => z), q]; simp⟩⟩
  by_cases hbe : b = e
  · subst hbe; exact heo
  · exact ⟨u, k b u hbe q⟩
end

/-! ### the heap without what is tracked -/
def trk (h : Heap) (H : Hp) : List Addr := (List.range h.objs.size).filter fun a => (H a).isSome
def hidT (h : Heap) (H : Hp) : Heap := PySem.W.hideAll h (trk h H)
theorem hidT_size (h : Heap) (H : Hp) : (hidT h H).objs.size = h.objs.size := PySem.W.hideAll_size _ _
theorem hidT_get {h : Heap} {H : Hp} {b : Addr} {o : Obj} (e : h.get? b = some o) (n : H b = none) : (hidT h H).get? b = some o :=
  PySem.W.hideAll_get _ e fun hm => by
    have q : (H b).isSome = true := (List.mem_filter.mp hm).2
    rw [n] at q; simp at q
theorem of_hidT {h : Heap} {H : Hp} {b : Addr} {o : Obj} (e : (hidT h H).get? b = some o) : h.get? b = some o ∧ H b = none := by
  have e' : h.get? b = some o := PySem.W.of_hideAll (trk h H) e
  refine ⟨e', ?_⟩
  cases q : H b with
  | none => rfl
  | some x =>
    have hm : b ∈ trk h H := List.mem_filter.mpr ⟨List.mem_range.mpr (Heap.lt_size e'), by simp [q]⟩
    have z : (hidT h H).get? b = none := PySem.W.hideAll_none (trk h H) hm
    rw [z] at e; cases e

/-! ### OpenK's ledger, filled with every new object but one -/
def allNews (g h : Heap) (L : Addr) : List (Addr × Obj) := (List.range h.objs.size).filterMap fun a => if a = L ∨ (g.get? a).isSome = true then none else (h.get? a).map fun o => (a, o)
def rest (g h : Heap) (L d : Addr) : List (Addr × Obj) := (allNews g h L).filter fun p => decide (p.1 ≠ d)
end L2

namespace L2
open PySem PySem.Spec PyProof.Rows

structure Mod (K : PySem.W.Frag) (mg : Str → Option Value) (base : Heap) : Prop where
  kin : K.In base
  glob : base.Ns mainGlobals mg
  blt : ∃ mb, base.Ns builtinsNs mb ∧ ∀ x : Str, x ≠ "__name__" → mb x = bootBuiltins x
  nolimit : base.NoLimit

structure Cx where
  prog : Program
  w : World
  K : PySem.W.Frag
  mg : Str → Option Value
  base : Heap
  A : Around
  N : List Str
  s₀ : Shared
  H₀ : Hp
  env : Env
  outer : List Env
  stack : List Env
  ex : List Addr
  fn : Str → Bool
  calm : Bool
  pn : List (Addr × Obj)
  xe : Value → Shared → Prop
def frs (l : List Env) : List Addr := l.filterMap (·.frame)
abbrev Cx.fs (X : Cx) : List Addr := frs X.outer

def Vis (sc : Scope) (x : Str) : Prop := sc.names.lookup x = some .local ∨ sc.names.lookup x = some .cell ∨ sc.names.lookup x = some .free
def Loc (sc : Scope) (x : Str) : Prop := sc.names.lookup x = some .local ∨ sc.names.lookup x = some .cell
def Look (env : Env) (h : Heap) (m : Str → Option Value) (x : Str) (u : Value) : Prop :=
  (env.kindOf x = some .local ∧ m x = some u) ∨ ((env.kindOf x = some .cell ∨ env.kindOf x = some .free) ∧ ∃ c, env.cells.lookup x = some c ∧ h.IsCell c (some u))

structure Cx.Ok (X : Cx) : Prop where
  mod : Mod X.K X.mg X.base
  kind : X.env.scope.kind = .function
  glob : X.env.globals = mainGlobals
  blt : X.env.builtins = builtinsNs
  above : X.s₀.heap.objs.size ≤ X.env.locals
  inj : ∀ x y c, X.env.cells.lookup x = some c → X.env.cells.lookup y = some c → x = y
  has : ∀ x, (X.env.kindOf x = some .cell ∨ X.env.kindOf x = some .free) → ∃ c, X.env.cells.lookup x = some c
  cab : ∀ x c, X.fn x = true → X.env.cells.lookup x = some c → X.s₀.heap.objs.size ≤ c
  hd : X.calm = true → X.A.handled = none
  frames : X.A.frames = some X.stack
  stk : X.stack = X.outer ∨ (X.stack = X.env :: X.outer ∧ X.env.frame = some X.env.locals)
  exf : ∀ b ∈ X.ex, b ≠ X.env.locals ∧ ∀ x c, X.env.cells.lookup x = some c → c ≠ b
  bs : ∀ b o, X.base.get? b = some o → X.s₀.heap.get? b = some o ∧ X.H₀ b = none
  bsz : X.base.objs.size ≤ X.s₀.heap.objs.size
  noex : ∀ b o, X.base.get? b = some o → b ∉ X.ex
  exfs : ∀ b ∈ X.ex, b ∉ X.fs
  funs : X.s₀.heap.FunFrames X.base X.outer
  frf : ∀ b ∈ X.fs, X.H₀ b = none

structure Inv (X : Cx) (pins : List (Addr × Obj)) (σ : List (Option V)) (H : Hp) (s : Shared) : Prop where
  ok : X.Ok
  os : s.os = X.s₀.os
  bare : AllBare s.gens
  base : Un X.fs X.ex X.H₀ H X.s₀.heap s.heap
  loc : ∃ m, s.heap.Ns X.env.locals m ∧ ∀ (i : Nat) (x : Str) (v : V), X.N[i]? = some x → σ[i]? = some (some v) → Vis X.env.scope x → ∃ u, RelV v u ∧ Look X.env s.heap m x u
  cell : ∀ x c, X.env.cells.lookup x = some c → ∃ v, s.heap.IsCell c v
  free : H X.env.locals = none
  freeC : ∀ x c, X.env.cells.lookup x = some c → H c = none
  pin : ∀ p ∈ X.pn ++ pins, s.heap.get? p.1 = some p.2 ∧ H p.1 = none ∧ p.1 ≠ X.env.locals ∧ p.1 ∉ X.fs ∧ ∀ v, p.2.data ≠ .cell v
  hok : HOk X.prog X.w H s.heap
  len : σ.length = X.N.length

section
variable {X : Cx} {pins : List (Addr × Obj)} {σ : List (Option V)} {H H' : Hp} {s : Shared} {h' : Heap}

theorem Cx.Ok.nofr (ok : X.Ok) {b : Addr} {o : Obj} (e : X.base.get? b = some o) : b ∉ X.fs := fun hb => by
  have := (ok.funs.mem hb).1
  rw [e] at this; cases this
theorem Inv.bs (I : Inv X pins σ H s) : ∀ b o, X.base.get? b = some o → s.heap.get? b = some o ∧ H b = none := fun b o e =>
  ⟨I.base.keep b o (I.ok.bs b o e).1 (I.ok.bs b o e).2 (I.ok.nofr e) (I.ok.noex b o e), I.base.free b o (I.ok.bs b o e).1 (I.ok.bs b o e).2 (I.ok.noex b o e)⟩
theorem Inv.bk (I : Inv X pins σ H s) : ∀ b o, X.base.get? b = some o → s.heap.get? b = some o := fun b o e => (I.bs b o e).1
theorem Inv.mod (I : Inv X pins σ H s) : Mod X.K X.mg X.base := I.ok.mod
theorem Inv.kIn (I : Inv X pins σ H s) : X.K.In s.heap := I.ok.mod.kin.keeps I.bk
theorem Inv.lt (I : Inv X pins σ H s) : X.env.locals < s.heap.objs.size := let ⟨_, hn, _⟩ := I.loc; hn.lt
theorem Inv.sz (I : Inv X pins σ H s) : X.s₀.heap.objs.size ≤ s.heap.objs.size := Nat.le_trans I.ok.above (Nat.le_of_lt I.lt)
theorem Inv.nofs (I : Inv X pins σ H s) {a : Addr} (h : s.heap.objs.size ≤ a) : a ∉ X.fs := fun hb => by
  obtain ⟨_, o, ho, _⟩ := I.ok.funs.mem hb
  exact absurd (Nat.lt_of_lt_of_le (Heap.lt_size ho) (Nat.le_trans I.sz h)) (Nat.lt_irrefl _)
theorem Inv.cne (I : Inv X pins σ H s) : ∀ x c, X.env.cells.lookup x = some c → c ≠ X.env.locals := fun x c e z => by
  obtain ⟨v, o, ho, hd⟩ := I.cell x c e
  obtain ⟨m, ⟨o', es, ep, ho', hd', _⟩, _⟩ := I.loc
  rw [z, ho'] at ho; cases ho; rw [hd'] at hd; cases hd
theorem Inv.funs (I : Inv X pins σ H s) : s.heap.FunFrames X.base X.outer := by
  have all : ∀ (l : List Env), (∀ b ∈ frs l, b ∈ X.fs) → X.s₀.heap.FunFrames X.base l → s.heap.FunFrames X.base l := by
    intro l
    induction l with
    | nil => intro _ _; trivial
    | cons env r ih =>
      intro hs hl
      obtain ⟨hk, ⟨L, o, hf, hn, ho, hd⟩, hr⟩ := hl
      have hL : L ∈ X.fs := hs L (by unfold frs; rw [List.filterMap_cons, hf]; exact List.mem_cons_self)
      obtain ⟨sl, e⟩ := I.base.slot L o ho (I.ok.frf L hL) hL fun z => I.ok.exfs L z hL
      exact ⟨hk, ⟨L, _, hf, hn, e, hd⟩, ih (fun b hb => hs b (by unfold frs; rw [List.filterMap_cons, hf]; exact List.mem_cons_of_mem _ hb)) hr⟩
  exact all X.outer (fun _ hb => hb) I.ok.funs

theorem Inv.stack (I : Inv X pins σ H s) : s.heap.FunFrames X.base X.stack := by
  rcases I.ok.stk with e | ⟨e, hf⟩
  · rw [e]; exact I.funs
  · rw [e]
    obtain ⟨m, hn, _⟩ := I.loc
    refine .cons (by rw [I.ok.kind]; decide) hf hn ?_ I.funs
    exact Heap.get?_none_of_le (Nat.le_trans I.ok.bsz I.ok.above)
theorem Inv.stkSub (I : Inv X pins σ H s) : ∀ b ∈ frs X.stack, b ∈ X.env.locals :: X.fs := fun b hb => by
  rcases I.ok.stk with e | ⟨e, hf⟩
  · rw [e] at hb; exact List.mem_cons_of_mem _ hb
  · rw [e] at hb
    unfold frs at hb
    rw [List.filterMap_cons, hf] at hb
    exact hb
theorem Inv.stkFree (I : Inv X pins σ H s) : ∀ b ∈ frs X.stack, H b = none := fun b hb => by
  rcases List.mem_cons.mp (I.stkSub b hb) with e | hb
  · rw [e]; exact I.free
  · obtain ⟨_, o, ho, _⟩ := I.ok.funs.mem hb
    exact I.base.free b o ho (I.ok.frf b hb) fun z => I.ok.exfs b z hb

theorem Inv.step {g' : Array GenState} {t' : Nat} {d' : Drawn} {ch : List Addr} (I : Inv X pins σ H s)
    (hch : ∀ b ∈ ch, (b ∈ X.ex ∨ X.s₀.heap.objs.size ≤ b) ∧ b ≠ X.env.locals ∧ (∀ x c, X.env.cells.lookup x = some c → c ≠ b) ∧ ∀ p ∈ X.pn ++ pins, p.1 ≠ b)
    (keep : ∀ b o, b ≠ X.env.locals → b ∉ X.fs → b ∉ ch → s.heap.get? b = some o → H b = none → h'.get? b = some o)
    (slot : ∀ b o, b ≠ X.env.locals → b ∈ X.fs → b ∉ ch → s.heap.get? b = some o → H b = none → ∃ sl, h'.get? b = some { o with slots := sl }) (free : ∀ b o, b ∉ ch → s.heap.get? b = some o → H b = none → H' b = none)
    (there : ∀ b o, b ∉ ch → s.heap.get? b = some o → ∃ o', h'.get? b = some o')
    (tups : ∀ b xs, H b = some (.tup xs) → H' b = some (.tup xs)) (frzs : ∀ b o u, H b = some (.frz o u) → H' b = some (.frz o u)) (tbls : ∀ b ps, H b = some (.tbl ps) → ∃ more, H' b = some (.tbl (ps ++ more)))
    (ns : ∀ m, s.heap.Ns X.env.locals m → h'.Ns X.env.locals m) (hok : HOk X.prog X.w H' h') (hg : AllBare g') :
    Inv X pins σ H' { s with heap := h', gens := g', drawn := d', toks := t' } := by
  have neL : ∀ b o, X.s₀.heap.get? b = some o → b ≠ X.env.locals := fun b o e => Nat.ne_of_lt (Nat.lt_of_lt_of_le (Heap.lt_size e) I.ok.above)
  have neC : ∀ b o, X.s₀.heap.get? b = some o → b ∉ X.ex → b ∉ ch := fun b o e hx hb => by
    rcases (hch b hb).1 with z | z
    · exact hx z
    · exact absurd (Nat.lt_of_lt_of_le (Heap.lt_size e) z) (Nat.lt_irrefl _)
  have cellK : ∀ x c, X.env.cells.lookup x = some c → ∀ v, s.heap.IsCell c v → h'.IsCell c v := fun x c e v ⟨o, ho, hd⟩ => by
    have nch : c ∉ ch := fun z => (hch c z).2.2.1 x c e rfl
    by_cases hc : c ∈ X.fs
    · obtain ⟨sl, q⟩ := slot c o (I.cne x c e) hc nch ho (I.freeC x c e)
      exact ⟨_, q, hd⟩
    · exact ⟨o, keep c o (I.cne x c e) hc nch ho (I.freeC x c e), hd⟩
  refine ⟨I.ok, I.os, hg, ⟨fun b o e n hb hx => ?_, fun b o e n hb hx => ?_, fun b o e n hx => ?_, fun b o e hx => ?_, fun b xs e => tups b xs (I.base.tups b xs e), fun b o xs e => frzs b o xs (I.base.frzs b o xs e), fun b ps e => ?_⟩, ?_, fun x c e => ?_, ?_, fun x c e => ?_, fun p hp => ?_, hok, I.len⟩
  · exact keep b o (neL b o e) hb (neC b o e hx) (I.base.keep b o e n hb hx) (I.base.free b o e n hx)
  · obtain ⟨sl, e1⟩ := I.base.slot b o e n hb hx
    obtain ⟨sl', e2⟩ := slot b _ (neL b o e) hb (neC b o e hx) e1 (I.base.free b o e n hx)
    exact ⟨sl', e2⟩
  · obtain ⟨o', e1⟩ := I.base.there b o e hx
    exact free b o' (neC b o e hx) e1 (I.base.free b o e n hx)
  · obtain ⟨o', e1⟩ := I.base.there b o e hx
    exact there b o' (neC b o e hx) e1
  · obtain ⟨m1, e1⟩ := I.base.tbls b ps e
    obtain ⟨m2, e2⟩ := tbls b _ e1
    exact ⟨m1 ++ m2, by rw [e2, Array.append_assoc]⟩
  · obtain ⟨m, hn, hl⟩ := I.loc
    refine ⟨m, ns m hn, fun i x v e1 e2 e3 => ?_⟩
    obtain ⟨u, r, l⟩ := hl i x v e1 e2 e3
    refine ⟨u, r, ?_⟩
    rcases l with l | ⟨k, c, e, z⟩
    · exact .inl l
    · exact .inr ⟨k, c, e, cellK x c e _ z⟩
  · obtain ⟨v, z⟩ := I.cell x c e
    exact ⟨v, cellK x c e v z⟩
  · obtain ⟨m, ⟨o, _, _, ho, _⟩, _⟩ := I.loc
    exact free _ o (fun z => (hch _ z).2.1 rfl) ho I.free
  · obtain ⟨v, o, ho, hd⟩ := I.cell x c e
    exact free c o (fun z => (hch c z).2.2.1 x c e rfl) ho (I.freeC x c e)
  · obtain ⟨e, n, ne, nf, d⟩ := I.pin p hp
    have nch : p.1 ∉ ch := fun z => (hch p.1 z).2.2.2 p hp rfl
    exact ⟨keep p.1 p.2 ne nf nch e n, free p.1 p.2 nch e n, ne, nf, d⟩
theorem Inv.un {t' : Nat} (I : Inv X pins σ H s) (u : Un X.fs [] H H' s.heap h') (hok : HOk X.prog X.w H' h') : Inv X pins σ H' { s with heap := h', toks := t' } := by
  obtain ⟨m, ⟨o, es, ep, ho, r⟩, _⟩ := id I.loc
  obtain ⟨sl, hL⟩ := u.any ho I.free (by simp)
  exact I.step (g' := s.gens) (d' := s.drawn) (ch := []) (fun _ z => nomatch z) (fun b o _ hb _ e n => u.keep b o e n hb (by simp)) (fun b o _ hb _ e n => u.slot b o e n hb (by simp)) (fun b o _ e n => u.free b o e n (by simp)) (fun b o _ e => u.there b o e (by simp)) u.tups u.frzs u.tbls (fun m' hm => by
    obtain ⟨o', es', ep', ho', r'⟩ := hm
    rw [ho] at ho'; cases ho'
    exact ⟨_, es', ep', hL, r'⟩) hok I.bare
theorem Inv.call {g' : Array GenState} {t' : Nat} {d' : Drawn} {ch : List Addr} (I : Inv X pins σ H s) (u : Un (frs X.stack) ch H H' s.heap h') (hok : HOk X.prog X.w H' h') (hg : AllBare g')
    (hch : ∀ b ∈ ch, (b ∈ X.ex ∨ X.s₀.heap.objs.size ≤ b) ∧ b ≠ X.env.locals ∧ (∀ x c, X.env.cells.lookup x = some c → c ≠ b) ∧ ∀ p ∈ X.pn ++ pins, p.1 ≠ b) :
    Inv X pins σ H' { s with heap := h', gens := g', drawn := d', toks := t' } := by
  obtain ⟨m, ⟨o, es, ep, ho, r⟩, _⟩ := id I.loc
  obtain ⟨sl, hL⟩ := u.any ho I.free fun z => (hch _ z).2.1 rfl
  exact I.step (ch := ch) hch (fun b o hL hb hc e n => u.keep b o e n (fun z => (List.mem_cons.mp (I.stkSub b z)).elim hL hb) hc) (fun b o _ _ hc e n => u.any e n hc) (fun b o hc e n => u.free b o e n hc) (fun b o hc e => u.there b o e hc) u.tups u.frzs u.tbls (fun m' hm => by
    obtain ⟨o', es', ep', ho', r'⟩ := hm
    rw [ho] at ho'; cases ho'
    exact ⟨_, es', ep', hL, r'⟩) hok hg
theorem Inv.turned {t' : Nat} {it : Addr} (I : Inv X pins σ H s) (k : ∀ b o, b ≠ it → s.heap.get? b = some o → h'.get? b = some o) (hn : H it = none) (hL : it ≠ X.env.locals)
    (h1 : it ∈ X.ex ∨ X.s₀.heap.objs.size ≤ it) (h2 : ∀ x c, X.env.cells.lookup x = some c → c ≠ it) (h3 : ∀ p ∈ X.pn ++ pins, p.1 ≠ it) : Inv X pins σ H { s with heap := h', toks := t' } := by
  have nit : ∀ b u, H b = some u → b ≠ it := fun b u e z => by rw [z, hn] at e; cases e
  refine I.step (g' := s.gens) (d' := s.drawn) (ch := [it]) (fun b hb => ?_) (fun b o _ _ hc e _ => k b o (fun z => hc (by simp [z])) e) (fun b o _ _ hc e _ => ⟨o.slots, k b o (fun z => hc (by simp [z])) e⟩) (fun _ _ _ _ n => n)
    (fun b o hc e => ⟨o, k b o (fun z => hc (by simp [z])) e⟩) (fun _ _ e => e) (fun _ _ _ e => e) (fun b ps e => ⟨#[], by rw [e]; simp⟩) (fun m hm => ?_) (fun b u e => ?_) I.bare
  · have e : b = it := by simpa using hb
    subst e
    exact ⟨h1, hL, h2, h3⟩
  · obtain ⟨o, es, ep, ho, r⟩ := hm
    exact ⟨o, es, ep, k _ o (Ne.symm hL) ho, r⟩
  · refine (I.hok b u e).stay (fun c v hc q => k c v ?_ q) (fun _ q => q) fun _ _ q => q
    rcases hc with z | z
    · rw [z]; exact nit b u e
    · exact nit c _ z
theorem Inv.tok (I : Inv X pins σ H s) (t : Nat) : Inv X pins σ H { s with toks := t } := I.un (h' := s.heap) (t' := t) Un.refl I.hok
theorem Inv.kept {t' : Nat} (I : Inv X pins σ H s) (k : ∀ b u, s.heap.get? b = some u → h'.get? b = some u) : Inv X pins σ H { s with heap := h', toks := t' } := I.un (Un.kept k) (I.hok.kept k)
theorem Inv.laid {a : Addr} {o : HO} {t' : Nat} (I : Inv X pins σ H s) (k : ∀ b u, s.heap.get? b = some u → h'.get? b = some u) (hp : s.heap.objs.size ≤ a) (new : ObjOk X.prog X.w (upd H a o) h' a o) :
    Inv X pins σ (upd H a o) { s with heap := h', toks := t' } := I.un (Un.laid k hp (I.hok.fresh hp)) (I.hok.laid k hp new)
theorem Inv.write {x e : Addr} {o : HO} {t' : Nat} (I : Inv X pins σ H s) (mu : Mut (H x)) (he : e = x ∨ H e = some (.own x)) (k : ∀ b u, b ≠ e → s.heap.get? b = some u → h'.get? b = some u) (heo : ∃ u, h'.get? e = some u)
    (new : ObjOk X.prog X.w (upd H x o) h' x o) : Inv X pins σ (upd H x o) { s with heap := h', toks := t' } := I.un (Un.write mu he k heo) (I.hok.write mu he k heo new)
theorem Inv.pins_of {pins' : List (Addr × Obj)} (I : Inv X pins σ H s) (h : ∀ p ∈ pins', s.heap.get? p.1 = some p.2 ∧ H p.1 = none ∧ p.1 ≠ X.env.locals ∧ p.1 ∉ X.fs ∧ ∀ v, p.2.data ≠ .cell v) : Inv X pins' σ H s :=
  ⟨I.ok, I.os, I.bare, I.base, I.loc, I.cell, I.free, I.freeC, fun p hp => (List.mem_append.mp hp).elim (fun z => I.pin p (List.mem_append_left _ z)) (h p), I.hok, I.len⟩

theorem nodup_ix {N : List Str} (hN : N.Nodup) {i j : Nat} {x : Str} (a : N[i]? = some x) (b : N[j]? = some x) : i = j := by
  obtain ⟨h1, e1⟩ := List.getElem?_eq_some_iff.mp a
  obtain ⟨h2, e2⟩ := List.getElem?_eq_some_iff.mp b
  exact (List.getElem_inj hN).mp (e1.trans e2.symm)

theorem store_ok2 {M : Model} {A : Around} {E : Value → Shared → Prop} {i : Nat} {x : Str} {v : V} {u : Value} {Q : Unit → Shared → Prop} (I : Inv X pins σ H s) (hN : X.N.Nodup) (hi : X.N[i]? = some x) (hx : Loc X.env.scope x) (r : RelV v u)
    (h : ∀ s', Inv X pins (σ.set i (some v)) H s' → (∃ a, Heap.SameBut a s.heap s'.heap ∧ (a = X.env.locals ∨ X.env.cells.lookup x = some a)) → Q () s') (hf : X.fn x = true ∨ X.env.scope.names.lookup x = some .local := by first | exact .inl rfl | exact .inr rfl | assumption) : wpAny M A (storeName X.env x u) Q E s := by
  obtain ⟨m, hn, hl⟩ := id I.loc
  have hcls : (X.env.scope.kind == .class || (X.env.scope.kind == .module && X.env.locals != X.env.globals)) = false := by rw [I.ok.kind]; rfl
  have hiσ : i < σ.length := by rw [I.len]; exact (List.getElem?_eq_some_iff.mp hi).1
  have cne := I.cne
  have tracked : ∀ {a : Addr} {h' : Heap}, (∃ o, s.heap.get? a = some o ∧ H a = none) → Heap.SameBut a s.heap h' → HOk X.prog X.w H h' := fun {a h'} ha hs b ob e => by
    obtain ⟨_, _, hfree⟩ := ha
    refine (I.hok b ob e).stay (fun c w' hc q => (hs.2 c ?_).trans q) (fun _ q => q) fun _ _ q => q
    rintro rfl
    rcases hc with rfl | hc
    · rw [hfree] at e; cases e
    · rw [hfree] at hc; cases hc
  rcases hx with hk | hk
  · refine wpAny_storeName_local hk hn (fun h' hn' hs => ?_) hcls
    obtain ⟨oL, _, _, hoL, _⟩ := id hn
    refine h _ ⟨I.ok, I.os, I.bare, ⟨fun b o e n hb hx => ?_, fun b o e n hb hx => ?_, I.base.free, fun b o e hx => ?_, I.base.tups, I.base.frzs, I.base.tbls⟩, ⟨_, hn', fun j y v' e1 e2 e3 => ?_⟩, fun y c e => ?_, I.free, I.freeC, fun p hp => ?_, tracked ⟨oL, hoL, I.free⟩ hs, by simpa using I.len⟩ ⟨_, hs, .inl rfl⟩
    · exact (hs.2 b (Nat.ne_of_lt (Nat.lt_of_lt_of_le (Heap.lt_size e) I.ok.above))).trans (I.base.keep b o e n hb hx)
    · obtain ⟨sl, e1⟩ := I.base.slot b o e n hb hx
      exact ⟨sl, (hs.2 b (Nat.ne_of_lt (Nat.lt_of_lt_of_le (Heap.lt_size e) I.ok.above))).trans e1⟩
    · obtain ⟨o', e1⟩ := I.base.there b o e hx
      exact ⟨o', (hs.2 b (Nat.ne_of_lt (Nat.lt_of_lt_of_le (Heap.lt_size e) I.ok.above))).trans e1⟩
    · by_cases hj : j = i
      · subst hj
        rw [hi] at e1; cases e1
        rw [List.getElem?_set_self hiσ] at e2
        cases e2
        exact ⟨u, r, .inl ⟨hk, by simp⟩⟩
      · rw [List.getElem?_set_ne (Ne.symm hj)] at e2
        obtain ⟨u', r', q⟩ := hl j y v' e1 e2 e3
        refine ⟨u', r', ?_⟩
        rcases q with ⟨k, e⟩ | ⟨k, c, e, z⟩
        · refine .inl ⟨k, ?_⟩
          have : y ≠ x := fun e => hj (nodup_ix hN e1 (e ▸ hi))
          simp [this, e]
        · exact .inr ⟨k, c, e, z.sameBut hs (cne y c e)⟩
    · obtain ⟨w', z⟩ := I.cell y c e
      exact ⟨w', z.sameBut hs (cne y c e)⟩
    · obtain ⟨e, n, ne, nf, d⟩ := I.pin p hp
      exact ⟨(hs.2 p.1 ne).trans e, n, ne, nf, d⟩
  · have hfn : X.fn x = true := by
      rcases hf with z | z
      · exact z
      · rw [z] at hk; cases hk
    obtain ⟨c, hc⟩ := I.ok.has x (.inl hk)
    obtain ⟨w', z⟩ := I.cell x c hc
    refine wpAny_storeName_cell I.ok.kind hk hc z (fun h' hc' hs => ?_)
    obtain ⟨oc, hoc, hocd⟩ := id z
    refine h { s with heap := h' } ⟨I.ok, I.os, I.bare, ⟨fun b o e n hb hx => ?_, fun b o e n hb hx => ?_, I.base.free, fun b o e hx => ?_, I.base.tups, I.base.frzs, I.base.tbls⟩, ⟨m, hn.sameBut hs (Ne.symm (cne x c hc)), fun j y v' e1 e2 e3 => ?_⟩, fun y c' e => ?_, I.free, I.freeC, fun p hp => ?_, tracked ⟨oc, hoc, I.freeC x c hc⟩ hs, by simpa using I.len⟩ ⟨c, hs, .inr hc⟩
    · exact (hs.2 b (Nat.ne_of_lt (Nat.lt_of_lt_of_le (Heap.lt_size e) (I.ok.cab x c hfn hc)))).trans (I.base.keep b o e n hb hx)
    · obtain ⟨sl, e1⟩ := I.base.slot b o e n hb hx
      exact ⟨sl, (hs.2 b (Nat.ne_of_lt (Nat.lt_of_lt_of_le (Heap.lt_size e) (I.ok.cab x c hfn hc)))).trans e1⟩
    · obtain ⟨o', e1⟩ := I.base.there b o e hx
      exact ⟨o', (hs.2 b (Nat.ne_of_lt (Nat.lt_of_lt_of_le (Heap.lt_size e) (I.ok.cab x c hfn hc)))).trans e1⟩
    · by_cases hj : j = i
      · subst hj
        rw [hi] at e1; cases e1
        rw [List.getElem?_set_self hiσ] at e2
        cases e2
        exact ⟨u, r, .inr ⟨.inl hk, c, hc, hc'⟩⟩
      · rw [List.getElem?_set_ne (Ne.symm hj)] at e2
        obtain ⟨u', r', q⟩ := hl j y v' e1 e2 e3
        refine ⟨u', r', ?_⟩
        rcases q with q | ⟨k, c', e, z'⟩
        · exact .inl q
        · refine .inr ⟨k, c', e, z'.sameBut hs ?_⟩
          rintro rfl
          exact hj (nodup_ix hN e1 (I.ok.inj _ _ _ e hc ▸ hi))
    · by_cases hcc : c' = c
      · subst hcc; exact ⟨_, hc'⟩
      · obtain ⟨w2, z2⟩ := I.cell y c' e
        exact ⟨w2, z2.sameBut hs hcc⟩
    · obtain ⟨e, n, ne, nf, d⟩ := I.pin p hp
      refine ⟨(hs.2 p.1 ?_).trans e, n, ne, nf, d⟩
      intro q
      rw [q, hoc] at e
      have q' : oc = p.2 := Option.some.inj e
      exact d w' (by rw [← q']; exact hocd)
theorem store_ok {M : Model} {A : Around} {E : Value → Shared → Prop} {i : Nat} {x : Str} {v : V} {u : Value} {Q : Unit → Shared → Prop} (I : Inv X pins σ H s) (hN : X.N.Nodup) (hi : X.N[i]? = some x) (hx : Loc X.env.scope x) (r : RelV v u)
    (h : ∀ s', Inv X pins (σ.set i (some v)) H s' → Q () s') (hf : X.fn x = true ∨ X.env.scope.names.lookup x = some .local := by first | exact .inl rfl | exact .inr rfl | assumption) : wpAny M A (storeName X.env x u) Q E s :=
  store_ok2 I hN hi hx r (fun s' I' _ => h s' I') hf
theorem Inv.call' {s' : Shared} {ch : List Addr} (I : Inv X pins σ H s) (ho : s'.os = s.os) (u : Un (frs X.stack) ch H H' s.heap s'.heap) (hok : HOk X.prog X.w H' s'.heap) (hg : AllBare s'.gens)
    (hch : ∀ b ∈ ch, (b ∈ X.ex ∨ X.s₀.heap.objs.size ≤ b) ∧ b ≠ X.env.locals ∧ (∀ x c, X.env.cells.lookup x = some c → c ≠ b) ∧ ∀ p ∈ X.pn ++ pins, p.1 ≠ b) : Inv X pins σ H' s' := by
  obtain ⟨h', g', d', t', o'⟩ := s'
  have e : o' = s.os := ho
  subst e
  exact I.call (g' := g') (t' := t') (d' := d') u hok hg hch
end

/-! ### the judgements -/
abbrev XK := Value → Option Addr → Hp → Prop
abbrev St := List (Option V)
abbrev VK := V → Hp → Prop
abbrev TE := St → Hp → VK → Prop
abbrev TT := St → Hp → (Bool → Hp → Prop) → Prop
abbrev TA := St → Hp → (List V → Hp → Prop) → Prop
structure Ends where
  nx : St → Hp → Prop
  rt : VK
  bk : St → Hp → Prop := fun _ _ => False
  ct : St → Hp → Prop := fun _ _ => False
abbrev TS := Ends → St → Hp → Prop

def EP (X : Cx) (pins : List (Addr × Obj)) (σ : St) (Q : VK) (u : Value) (s' : Shared) : Prop := ∃ v H', Inv X pins σ H' s' ∧ RelV v u ∧ Q v H'
def TP (X : Cx) (pins : List (Addr × Obj)) (σ : St) (Q : Bool → Hp → Prop) (b : Bool) (s' : Shared) : Prop := ∃ H', Inv X pins σ H' s' ∧ Q b H'
def AP (X : Cx) (pins : List (Addr × Obj)) (σ : St) (Q : List V → Hp → Prop) (us : List Value) (s' : Shared) : Prop := ∃ vs H', Inv X pins σ H' s' ∧ Vals vs us ∧ Q vs H'
def SP (X : Cx) (pins : List (Addr × Obj)) (D : Ends) (f : Flow) (s' : Shared) : Prop :=
  match f with
  | .next => ∃ σ' H', Inv X pins σ' H' s' ∧ D.nx σ' H'
  | .brk => ∃ σ' H', Inv X pins σ' H' s' ∧ D.bk σ' H'
  | .cont => ∃ σ' H', Inv X pins σ' H' s' ∧ D.ct σ' H'
  | .ret u => ∃ v σ' H', Inv X pins σ' H' s' ∧ RelV v u ∧ D.rt v H'

def PE (X : Cx) (e : Expr) (t : TE) : Prop :=
  ∀ (pins : List (Addr × Obj)) (s : Shared) (σ : St) (H : Hp) (Q : VK), Inv X pins σ H s → t σ H Q → wpAny (model X.prog X.w) X.A (eval e X.env) (EP X pins σ Q) X.xe s
def PT (X : Cx) (e : Expr) (t : TT) : Prop :=
  ∀ (pins : List (Addr × Obj)) (s : Shared) (σ : St) (H : Hp) (Q : Bool → Hp → Prop), Inv X pins σ H s → t σ H Q → wpAny (model X.prog X.w) X.A (isTrue e X.env (eval e X.env)) (TP X pins σ Q) X.xe s
def PW (X : Cx) (e : Expr) (t : TT) : Prop :=
  ∀ (whole : Sem Value) (pins : List (Addr × Obj)) (s : Shared) (σ : St) (H : Hp) (Q : Bool → Hp → Prop), Inv X pins σ H s → t σ H Q → wpAny (model X.prog X.w) X.A (isTrue e X.env whole) (TP X pins σ Q) X.xe s
theorem PW.pt {X : Cx} {e : Expr} {t : TT} (h : PW X e t) : PT X e t := h _
def PA (X : Cx) (es : List Expr) (t : TA) : Prop :=
  ∀ (pos : Pos) (pins : List (Addr × Obj)) (s : Shared) (σ : St) (H : Hp) (Q : List V → Hp → Prop), Inv X pins σ H s → t σ H Q → wpAny (model X.prog X.w) X.A (spliced (backTo pos (starEach es X.env))) (AP X pins σ Q) X.xe s
def PS (X : Cx) (st : Stmt) (t : TS) : Prop :=
  ∀ (pins : List (Addr × Obj)) (s : Shared) (σ : St) (H : Hp) (D : Ends), Inv X pins σ H s → t D σ H → wpAny (model X.prog X.w) X.A (exec st X.env) (SP X pins D) X.xe s
def PSs (X : Cx) (st : List Stmt) (t : TS) : Prop :=
  ∀ (pins : List (Addr × Obj)) (s : Shared) (σ : St) (H : Hp) (D : Ends), Inv X pins σ H s → t D σ H → wpAny (model X.prog X.w) X.A (execs st X.env) (SP X pins D) X.xe s
theorem thn {α : Type} {t : Sem α} {Q Q' : α → Shared → Prop} {M : Model} {A : Around} {E : Value → Shared → Prop} {s : Shared} (h : wpAny M A t Q E s) (hQ : ∀ a s, Q a s → Q' a s) : wpAny M A t Q' E s := wpAny_mono h hQ fun _ _ x => x
end L2

namespace L2
open PySem PySem.Spec PyProof.Rows
section
variable {X : Cx}

/-! ### names and constants -/
def tVar (i : Nat) : TE := fun σ H Q => ∃ v, σ[i]? = some (some v) ∧ Q v H
def tC (v : V) : TE := fun _ H Q => Q v H
theorem pe_var {i : Nat} {x : Str} {pos : Pos} (hN : X.N[i]? = some x) (hv : Vis X.env.scope x) (hd : (x == ("__debug__" : Str)) = false := by decide) (hcd : (x == ("__classdict__" : Str)) = false := by decide) : PE X (.Name x pos) (tVar i) := by
  intro pins s σ H Q I h
  obtain ⟨v, e, h⟩ := h
  obtain ⟨m, hn, hl⟩ := I.loc
  obtain ⟨u, r, l⟩ := hl i x v hN e hv
  have fin : EP X pins σ Q u s := ⟨v, H, I, r, h⟩
  rcases l with ⟨hk, hm⟩ | ⟨hk, c, hc, hcell⟩
  · exact wpAny_Name (wpAny_loadName_local I.ok.kind hk hn hm fin) hd
  · rcases hk with hk | hk
    · exact wpAny_Name (wpAny_loadName_cell I.ok.kind hk hc hcell fin) hd
    · exact wpAny_Name (wpAny_loadName_free I.ok.kind hk hc hcell fin hcd) hd
theorem pe_int {i j pos} : PE X (.Constant (.int i) j pos) (tC (.int i)) := fun _ _ _ H _ I h => wpAny_Constant_int ⟨.int i, H, I.tok _, ⟨_, rfl⟩, h⟩
theorem pe_bl {b j pos} : PE X (.Constant (.bool b) j pos) (tC (.bl b)) := fun _ _ _ H _ I h => Constant_bool ⟨.bl b, H, I, rfl, h⟩
theorem pe_non {j pos} : PE X (.Constant .none j pos) (tC .non) := fun _ _ _ H _ I h => Constant_none ⟨.non, H, I, rfl, h⟩
theorem pe_str {x j pos} : PE X (.Constant (.str x) j pos) (tC (.str x)) := fun _ _ _ H _ I h => Calls.Constant_str ⟨.str x, H, I.tok _, ⟨_, rfl⟩, h⟩

def Gl (X : Cx) (x : Str) : Prop := X.env.kindOf x = some .globalImplicit
theorem ld_glob {E : Value → Shared → Prop} {pins : List (Addr × Obj)} {s : Shared} {σ : St} {H : Hp} {x : Str} {u : Value} {pos : Pos} {Q : Value → Shared → Prop} (I : Inv X pins σ H s) (hg : Gl X x) (hm : X.mg x = some u) (h : Q u s)
    (hd : (x == ("__debug__" : Str)) = false := by decide) : wpAny (model X.prog X.w) X.A (eval (.Name x pos) X.env) Q E s :=
  Calls.Name_function_global I.ok.kind hg (Calls.loadGlobal_global (by rw [I.ok.glob]; exact I.mod.glob.keeps I.bk) hm h) hd
theorem ld_blt {E : Value → Shared → Prop} {pins : List (Addr × Obj)} {s : Shared} {σ : St} {H : Hp} {x : Str} {u : Value} {pos : Pos} {Q : Value → Shared → Prop} (I : Inv X pins σ H s) (hg : Gl X x) (hm : X.mg x = none) (hv : bootBuiltins x = some u) (h : Q u s)
    (hn : x ≠ "__name__" := by decide) (hd : (x == ("__debug__" : Str)) = false := by decide) : wpAny (model X.prog X.w) X.A (eval (.Name x pos) X.env) Q E s := by
  obtain ⟨mb, h1, h2⟩ := I.mod.blt
  exact Calls.Name_function_global I.ok.kind hg (Calls.loadGlobal_builtin (by rw [I.ok.glob]; exact I.mod.glob.keeps I.bk) hm (by rw [I.ok.blt]; exact h1.keeps I.bk) ((h2 x hn).trans hv) h) hd
theorem pe_glob {x : Str} {v : V} {u : Value} {pos : Pos} (hg : Gl X x) (hm : X.mg x = some u) (r : RelV v u) (hd : (x == ("__debug__" : Str)) = false := by decide) : PE X (.Name x pos) (tC v) :=
  fun _ _ _ H _ I h => ld_glob I hg hm ⟨v, H, I, r, h⟩ hd
theorem pe_bltn {x : Str} {v : V} {u : Value} {pos : Pos} (hg : Gl X x) (hm : X.mg x = none) (hv : bootBuiltins x = some u) (r : RelV v u) (hn : x ≠ "__name__" := by decide) (hd : (x == ("__debug__" : Str)) = false := by decide) : PE X (.Name x pos) (tC v) :=
  fun _ _ _ H _ I h => ld_blt I hg hm hv ⟨v, H, I, r, h⟩ hn hd

/-! ### arithmetic -/
def t2I (ta tb : TE) (k : Int → Int → Hp → Prop) : St → Hp → Prop := fun σ H => ta σ H fun x H1 => tb σ H1 fun y H2 => ∃ i j, x = .int i ∧ y = .int j ∧ k i j H2
def tAdd (ta tb : TE) : TE := fun σ H Q => t2I ta tb (fun i j H2 => Q (.int (i + j)) H2) σ H
def tSub (ta tb : TE) : TE := fun σ H Q => t2I ta tb (fun i j H2 => Q (.int (i - j)) H2) σ H
def tMul (ta tb : TE) : TE := fun σ H Q => t2I ta tb (fun i j H2 => (-(2 ^ 64) < i ∧ i < 2 ^ 64) ∧ Q (.int (i * j)) H2) σ H
variable {a b : Expr} {ta tb : TE} {pos : Pos}
/-! ### comparisons -/
def PC (X : Cx) (op : CmpOp) (a b : Expr) (t : TE) : Prop :=
  ∀ (pins : List (Addr × Obj)) (s : Shared) (σ : St) (H : Hp) (Q : VK), Inv X pins σ H s → t σ H Q →
    wpAny (model X.prog X.w) X.A (eval a X.env) (fun v s₁ => wpAny (model X.prog X.w) X.A (eval b X.env) (fun u s₂ => wpAny (model X.prog X.w) X.A (compareOp op v u) (EP X pins σ Q) X.xe s₂) X.xe s₁) X.xe s
def tCmp (p : Int → Int → Bool) (ta tb : TE) : TE := fun σ H Q => t2I ta tb (fun i j H2 => Q (.bl (p i j)) H2) σ H
abbrev tLt : TE → TE → TE := tCmp fun i j => decide (i < j)
abbrev tLe : TE → TE → TE := tCmp fun i j => decide (i ≤ j)
abbrev tGt : TE → TE → TE := tCmp fun i j => decide (j < i)
abbrev tGe : TE → TE → TE := tCmp fun i j => decide (j ≤ i)
abbrev tEqI : TE → TE → TE := tCmp fun i j => decide (i = j)
abbrev tNeI : TE → TE → TE := tCmp fun i j => !decide (i = j)
def tIsN (ta : TE) : TE := fun σ H Q => ta σ H fun x H1 => Q (.bl (decide (x = .non))) H1
def tNotN (ta : TE) : TE := fun σ H Q => ta σ H fun x H1 => Q (.bl (!decide (x = .non))) H1
def tB (t : TE) : TT := fun σ H Q => t σ H fun x H1 => ∃ c, x = .bl c ∧ Q c H1
theorem pt_val {e : Expr} {t : TE} (h : PE X e t) (he : ∀ whole, isTrue e X.env whole = (do let v ← whole; standAt e.pos; holding [v] (truthy v)) := by intro _; rfl) : PT X e (tB t) := by
  intro pins s σ H Q I hw
  refine isTrue_plain (thn (h pins s σ H _ I hw) fun v s1 ⟨x, H1, I1, r1, q1⟩ => ?_) (he _)
  obtain ⟨d, rfl, q⟩ := q1
  cases r1
  exact wpAny_truthy_bool ⟨H1, I1, q⟩

/-! ### and, or, not -/
variable {tA tB' : TT} {rest : List Expr}
def tAnd (t u : TT) : TT := fun σ H Q => t σ H fun c H1 => if c = true then u σ H1 Q else Q false H1
def tOr (t u : TT) : TT := fun σ H Q => t σ H fun c H1 => if c = true then Q true H1 else u σ H1 Q
def tNot (t : TT) : TT := fun σ H Q => t σ H fun c H1 => Q (!c) H1
theorem pw_and1 (ha : PT X a tA) : PW X (.BoolOp .And [a] pos) tA := by
  intro wh pins s σ H Q I h
  refine isTrue_and (thn (ha pins s σ H Q I h) fun c s1 e => ?_)
  cases c with
  | true => exact isTrue_and_nil e
  | false => exact e
theorem pw_or1 (ha : PT X a tA) : PW X (.BoolOp .Or [a] pos) tA := by
  intro wh pins s σ H Q I h
  refine isTrue_or (thn (ha pins s σ H Q I h) fun c s1 e => ?_)
  cases c with
  | false => exact isTrue_or_nil e
  | true => exact e
theorem pw_and (ha : PT X a tA) (hb : PW X (.BoolOp .And (b :: rest) pos) tB') : PW X (.BoolOp .And (a :: b :: rest) pos) (tAnd tA tB') := by
  intro wh pins s σ H Q I h
  refine isTrue_and (thn (ha pins s σ H _ I h) fun c s1 ⟨H1, I1, q1⟩ => ?_)
  cases c with
  | true => exact hb wh pins s1 σ H1 Q I1 q1
  | false => exact ⟨H1, I1, q1⟩
theorem pw_or (ha : PT X a tA) (hb : PW X (.BoolOp .Or (b :: rest) pos) tB') : PW X (.BoolOp .Or (a :: b :: rest) pos) (tOr tA tB') := by
  intro wh pins s σ H Q I h
  refine isTrue_or (thn (ha pins s σ H _ I h) fun c s1 ⟨H1, I1, q1⟩ => ?_)
  cases c with
  | true => exact ⟨H1, I1, q1⟩
  | false => exact hb wh pins s1 σ H1 Q I1 q1
theorem pt_not (ha : PT X a tA) : PT X (.UnaryOp .Not a pos) (tNot tA) := by
  intro pins s σ H Q I h
  exact isTrue_not (ha pins s σ H (fun c H1 => Q (!c) H1) I h)
def tAndV (ta tb : TE) : TE := fun σ H Q => ta σ H fun x H1 => ∃ c, x = .bl c ∧ if c = true then tb σ H1 Q else Q (.bl false) H1
def tOrV (ta tb : TE) : TE := fun σ H Q => ta σ H fun x H1 => ∃ c, x = .bl c ∧ if c = true then Q (.bl true) H1 else tb σ H1 Q
def tNotV (ta : TE) : TE := fun σ H Q => ta σ H fun x H1 => ∃ c, x = .bl c ∧ Q (.bl (!c)) H1
theorem pe_one {op} {t : TE} (h : PE X a t) : PE X (.BoolOp op [a] pos) t := fun pins s σ H Q I hw => BoolOp_one (h pins s σ H Q I hw)
theorem pe_and (ha : PE X a ta) (hb : PE X (.BoolOp .And (b :: rest) pos) tb) : PE X (.BoolOp .And (a :: b :: rest) pos) (tAndV ta tb) := by
  intro pins s σ H Q I h
  refine BoolOp_and (thn (ha pins s σ H _ I h) fun v s1 ⟨x, H1, I1, r1, q1⟩ => ?_)
  obtain ⟨c, rfl, q1⟩ := q1
  cases r1
  refine wpAny_truthy_bool ?_
  cases c with
  | true => exact hb pins s1 σ H1 Q I1 q1
  | false => exact ⟨.bl false, H1, I1, rfl, q1⟩
theorem pe_not (ha : PE X a ta) : PE X (.UnaryOp .Not a pos) (tNotV ta) := by
  intro pins s σ H Q I h
  refine UnaryOp_ (thn (ha pins s σ H _ I h) fun v s1 ⟨x, H1, I1, r1, q1⟩ => ?_)
  obtain ⟨c, rfl, q1⟩ := q1
  cases r1
  exact not_of (wpAny_truthy_bool ⟨.bl (!c), H1, I1, rfl, q1⟩)
def tIf (t : TT) (ta tb : TE) : TE := fun σ H Q => t σ H fun c H1 => if c = true then ta σ H1 Q else tb σ H1 Q
theorem pe_ifExp {c : Expr} (hc : PT X c tA) (ha : PE X a ta) (hb : PE X b tb) : PE X (.IfExp c a b pos) (tIf tA ta tb) := by
  intro pins s σ H Q I h
  refine wpAny_IfExp (thn (hc pins s σ H _ I h) fun d s1 ⟨H1, I1, q1⟩ => ?_)
  cases d with
  | true => exact ha pins s1 σ H1 Q I1 q1
  | false => exact hb pins s1 σ H1 Q I1 q1
end
end L2

namespace L2
open PySem PySem.Spec PyProof.Rows

/-! ### a list, a tuple that is read: tracked, frozen, or an object of the module -/
def SqL (K : PySem.W.Frag) (H : Hp) (a : Addr) (xs : List V) : Prop :=
  Rd H a (.lst xs) ∨
    ∃ (o : Obj) (its : Array Value) (n : Nat), K.lookup a = some o ∧ o.cls = .type "list" ∧ o.dict = none ∧ o.data = .seq its n ∧ its.size ≤ sizeLine ∧ Vals xs its.toList
def SqT (K : PySem.W.Frag) (H : Hp) (a : Addr) (xs : List V) : Prop :=
  Rd H a (.tup xs) ∨
    ∃ (o : Obj) (its : Array Value) (n : Nat), K.lookup a = some o ∧ o.cls = .type "tuple" ∧ o.data = .seq its n ∧ its.size ≤ sizeLine ∧ Vals xs its.toList
def absV : Value → Option V
  | .none => some .non
  | .bool b => some (.bl b)
  | .int i _ => some (.int i)
  | .str x _ => some (.str x)
  | .bytes b _ => some (.byt b)
  | .float b _ => some (.flt b)
  | .ref a => some (.ref a)
  | .type n => some (.ty n)
  | _ => none
theorem RelV.abs {x : V} {u : Value} (r : RelV x u) : absV u = some x := by
  cases x with
  | non => cases r; rfl
  | bl _ => cases r; rfl
  | int _ => obtain ⟨t, rfl⟩ := r; rfl
  | str _ => obtain ⟨t, rfl⟩ := r; rfl
  | byt _ => obtain ⟨t, rfl⟩ := r; rfl
  | flt _ => obtain ⟨t, rfl⟩ := r; rfl
  | ref _ => cases r; rfl
  | ty _ => cases r; rfl
theorem RelV.inj {x y : V} {u : Value} (r : RelV x u) (q : RelV y u) : x = y := Option.some.inj (r.abs.symm.trans q.abs)
theorem Vals.inj : ∀ {xs ys : List V} {us : List Value}, Vals xs us → Vals ys us → xs = ys
  | _, _, _, .nil, .nil => rfl
  | _, _, _, .cons r t, .cons r' t' => by rw [r.inj r', Vals.inj t t']
section
variable {X : Cx} {pins : List (Addr × Obj)} {σ : St} {H : Hp} {s : Shared} {a : Addr} {xs ys : List V}
theorem SqL.of {K : PySem.W.Frag} (h : H a = some (.lst xs)) : SqL K H a xs := .inl (.inl h)
theorem Inv.list (I : Inv X pins σ H s) (h : SqL X.K H a xs) : ∃ its : List Value, Vals xs its ∧ PlainL s.heap a its.toArray ∧ xs.length ≤ sizeLine := by
  rcases h with h | ⟨o, its, n, hk, hc, hd, hs, hz, r⟩
  · obtain ⟨z, its, n, r, e⟩ := h.ok I.hok
    exact ⟨its, r, ⟨_, n, e, rfl, rfl, rfl⟩, z⟩
  · refine ⟨its.toList, r, ⟨o, n, I.kIn a o hk, hc, hd, by simpa using hs⟩, ?_⟩
    have e := r.length
    simp only [Array.length_toList] at e
    omega
theorem Inv.tuple (I : Inv X pins σ H s) (h : SqT X.K H a xs) : ∃ its : List Value, Vals xs its ∧ IsTup s.heap a its.toArray ∧ xs.length ≤ sizeLine := by
  rcases h with h | ⟨o, its, n, hk, hc, hs, hz, r⟩
  · obtain ⟨z, its, r, p⟩ := h.ok I.hok
    exact ⟨its, r, p, z⟩
  · refine ⟨its.toList, r, ⟨o, I.kIn a o hk, hc, n, by simpa using hs⟩, ?_⟩
    have e := r.length
    simp only [Array.length_toList] at e
    omega
theorem Inv.list_inj (I : Inv X pins σ H s) (h : SqL X.K H a xs) (h' : SqL X.K H a ys) : xs = ys := by
  obtain ⟨its, r, ⟨o, n, e, _, _, d⟩, _⟩ := I.list h
  obtain ⟨its', r', ⟨o', n', e', _, _, d'⟩, _⟩ := I.list h'
  rw [e] at e'; cases e'
  rw [d] at d'
  injection d' with d1 _
  have : its = its' := by simpa using congrArg Array.toList d1
  subst this
  exact r.inj r'
end

/-! ### another wish about exceptions -/
abbrev Cx.wish (X : Cx) (E : Value → Shared → Prop) : Cx := { X with xe := E }
abbrev Cx.nox (X : Cx) : Cx := X.wish fun _ _ => False
theorem Cx.Ok.wish {X : Cx} (ok : X.Ok) (E : Value → Shared → Prop) : (X.wish E).Ok :=
  ⟨ok.mod, ok.kind, ok.glob, ok.blt, ok.above, ok.inj, ok.has, ok.cab, ok.hd, ok.frames, ok.stk, ok.exf, ok.bs, ok.bsz, ok.noex, ok.exfs, ok.funs, ok.frf⟩
theorem Cx.Ok.unwish {X : Cx} {E : Value → Shared → Prop} (ok : (X.wish E).Ok) : X.Ok :=
  ⟨ok.mod, ok.kind, ok.glob, ok.blt, ok.above, ok.inj, ok.has, ok.cab, ok.hd, ok.frames, ok.stk, ok.exf, ok.bs, ok.bsz, ok.noex, ok.exfs, ok.funs, ok.frf⟩
section
variable {X : Cx} {pins : List (Addr × Obj)} {σ : St} {H : Hp} {s : Shared} {E : Value → Shared → Prop}
theorem Inv.wish (I : Inv X pins σ H s) (E : Value → Shared → Prop) : Inv (X.wish E) pins σ H s := ⟨I.ok.wish E, I.os, I.bare, I.base, I.loc, I.cell, I.free, I.freeC, I.pin, I.hok, I.len⟩
theorem Inv.unwish (I : Inv (X.wish E) pins σ H s) : Inv X pins σ H s := ⟨I.ok.unwish, I.os, I.bare, I.base, I.loc, I.cell, I.free, I.freeC, I.pin, I.hok, I.len⟩
theorem SP.unwish {D : Ends} {f : Flow} {s' : Shared} (h : SP (X.wish E) pins D f s') : SP X pins D f s' := by
  cases f with
  | next => obtain ⟨σ', H', I, q⟩ := h; exact ⟨σ', H', I.unwish, q⟩
  | brk => obtain ⟨σ', H', I, q⟩ := h; exact ⟨σ', H', I.unwish, q⟩
  | cont => obtain ⟨σ', H', I, q⟩ := h; exact ⟨σ', H', I.unwish, q⟩
  | ret u => obtain ⟨v, σ', H', I, r, q⟩ := h; exact ⟨v, σ', H', I.unwish, r, q⟩
theorem PSs.nox {st : List Stmt} {t : TS} (h : PSs X.nox st t) : PSs X st t := fun pins s σ H D I hw =>
  wpAny_mono (h pins s σ H D (I.wish _) hw) (fun _ _ q => q.unwish) fun _ _ z => False.elim z
end

/-! ### blocks and small statements -/
section
variable {X : Cx} {st : Stmt} {rest : List Stmt} {t u : TS} {e : Expr} {te : TE} {pos : Pos}
def tNext : TS := fun D σ H => D.nx σ H
def tSeq (t u : TS) : TS := fun D σ H => t { D with nx := u D } σ H
theorem pss_nil : PSs X [] tNext := fun _ _ σ H _ I h => wpAny_execs_nil ⟨σ, H, I, h⟩
theorem pss_cons (h1 : PS X st t) (h2 : PSs X rest u) : PSs X (st :: rest) (tSeq t u) := by
  intro pins s σ H D I h
  refine wpAny_execs_cons (thn (h1 pins s σ H { D with nx := u D } I h) fun f s1 q => ?_)
  cases f with
  | next =>
    obtain ⟨σ', H', I', q⟩ := q
    exact h2 pins s1 σ' H' D I' q
  | ret v => exact q
  | brk => exact q
  | cont => exact q
theorem pss_one (h1 : PS X st t) : PSs X [st] t := by
  intro pins s σ H D I h
  refine wpAny_execs_cons (thn (h1 pins s σ H D I h) fun f s1 q => ?_)
  cases f with
  | next => exact wpAny_execs_nil q
  | ret v => exact q
  | brk => exact q
  | cont => exact q
def tBreak : TS := fun D σ H => D.bk σ H
def tCont : TS := fun D σ H => D.ct σ H
theorem Inv.quiet {pins : List (Addr × Obj)} {σ : St} {H : Hp} {s : Shared} (I : Inv X pins σ H s) : interactive X.env = false := by simp [interactive, I.ok.kind]
def tDrop (te : TE) : TS := fun D σ H => te σ H fun _ H1 => D.nx σ H1
theorem ps_expr (he : PE X e te) (hs : swapsWith e none pos.line X.env = pure false := by rfl) : PS X (.Expr e pos) (tDrop te) := by
  intro pins s σ H D I h
  exact wpAny_Expr_any (thn (he pins s σ H _ I h) fun v s1 ⟨x, H1, I1, r1, q1⟩ => ⟨σ, H1, I1, q1⟩) I.quiet hs
def tRet (te : TE) : TS := fun D σ H => te σ H D.rt
theorem ps_ret (he : PE X e te) : PS X (.Return (some e) pos) (tRet te) := by
  intro pins s σ H D I h
  exact wpAny_Return_some (thn (he pins s σ H _ I h) fun v s1 ⟨x, H1, I1, r1, q1⟩ => ⟨x, σ, H1, I1, r1, q1⟩)
def tRetN : TS := fun D _ H => D.rt .non H
def tIfS (c : TT) (t u : TS) : TS := fun D σ H => c σ H fun b H1 => if b = true then t D σ H1 else u D σ H1
theorem ps_if {c : Expr} {a b : List Stmt} {tc : TT} (hc : PT X c tc) (ha : PSs X a t) (hb : PSs X b u) : PS X (.If c a b pos) (tIfS tc t u) := by
  intro pins s σ H D I h
  refine wpAny_If (thn (hc pins s σ H _ I h) fun d s1 ⟨H1, I1, q1⟩ => ?_)
  cases d with
  | true => exact ha pins s1 σ H1 D I1 q1
  | false => exact hb pins s1 σ H1 D I1 q1
def tNever : TS := fun _ _ _ => False
end

/-! ### targets -/
abbrev TG := V → St → Hp → (St → Hp → Prop) → Prop
abbrev TGs := List V → St → Hp → (St → Hp → Prop) → Prop
def PG (X : Cx) (target : Expr) (t : TG) : Prop :=
  ∀ (pins : List (Addr × Obj)) (s : Shared) (σ : St) (H : Hp) (v : V) (u : Value) (Q : St → Hp → Prop), Inv X pins σ H s → RelV v u → t v σ H Q →
    wpAny (model X.prog X.w) X.A (assign target X.env u) (fun _ s' => ∃ σ' H', Inv X pins σ' H' s' ∧ Q σ' H') X.xe s
def PGs (X : Cx) (ts : List Expr) (t : TGs) : Prop :=
  ∀ (pins : List (Addr × Obj)) (s : Shared) (σ : St) (H : Hp) (vs : List V) (us : List Value) (Q : St → Hp → Prop), Inv X pins σ H s → Vals vs us → t vs σ H Q →
    wpAny (model X.prog X.w) X.A (assignInOrder ((assignEach ts X.env).map (·.2)) us) (fun _ s' => ∃ σ' H', Inv X pins σ' H' s' ∧ Q σ' H') X.xe s
abbrev TSet := V → V → V → Hp → (Hp → Prop) → Prop
def PSet (X : Cx) (t : TSet) : Prop :=
  ∀ (pins : List (Addr × Obj)) (s : Shared) (σ : St) (H : Hp) (o i v : V) (ov iv u : Value) (Q : Hp → Prop), Inv X pins σ H s → RelV o ov → RelV i iv → RelV v u → t o i v H Q →
    wpAny (model X.prog X.w) X.A (setItem ov iv u) (fun _ s' => ∃ H', Inv X pins σ H' s' ∧ Q H') X.xe s
abbrev TIp := V → V → Hp → VK → Prop
def PIp (X : Cx) (op : Operator) (t : TIp) : Prop :=
  ∀ (pins : List (Addr × Obj)) (s : Shared) (σ : St) (H : Hp) (x y : V) (v u : Value) (Q : VK), Inv X pins σ H s → RelV x v → RelV y u → t x y H Q →
    wpAny (model X.prog X.w) X.A (inplaceOp op v u) (EP X pins σ Q) X.xe s
section
variable {X : Cx} {pos : Pos}
def gName (i : Nat) : TG := fun v σ H Q => Q (σ.set i (some v)) H
theorem pg_name {i : Nat} {x : Str} (hN : X.N.Nodup) (hi : X.N[i]? = some x) (hx : Loc X.env.scope x) (hf : X.fn x = true ∨ X.env.scope.names.lookup x = some .local := by first | exact .inl rfl | exact .inr rfl | assumption) : PG X (.Name x pos) (gName i) := by
  intro pins s σ H v u Q I r h
  exact wpAny_assign_Name (store_ok I hN hi hx r (fun s' I' => ⟨_, H, I', h⟩) hf)
def gNil : TGs := fun vs σ H Q => vs = [] ∧ Q σ H
def gCons (t : TG) (u : TGs) : TGs := fun vs σ H Q => ∃ v r, vs = v :: r ∧ t v σ H fun σ' H' => u r σ' H' Q
def gTup (K : PySem.W.Frag) (n : Nat) (t : TGs) : TG := fun v σ H Q => ∃ a xs, v = .ref a ∧ SqT K H a xs ∧ xs.length = n ∧ t xs σ H Q
def gSub (to ti : TE) (t : TSet) : TG := fun v σ H Q => to σ H fun o H1 => ti σ H1 fun i H2 => t o i v H2 fun H3 => Q σ H3
theorem pg_sub {o i : Expr} {to ti : TE} {t : TSet} (ho : PE X o to) (hi : PE X i ti) (hs : PSet X t)
    (ha : ∀ v, assign (.Subscript o i pos) X.env v = (do
      let ov ← holding [v] (eval o X.env)
      let iv ← holding [v, ov] (eval i X.env)
      standAt pos
      holding [v, ov, iv] (setItem ov iv v)
      release [v, ov, iv] []) := by intro _; rfl) : PG X (.Subscript o i pos) (gSub to ti t) := by
  intro pins s σ H v u Q I r h
  rw [ha]
  refine wpAny_bind (wpAny_holding (thn (ho pins s σ H _ I h) fun ov s1 ⟨x, H1, I1, r1, q1⟩ => ?_))
  refine wpAny_bind (wpAny_holding (thn (hi pins s1 σ H1 _ I1 q1) fun iv s2 ⟨y, H2, I2, r2, q2⟩ => ?_))
  refine wpAny_bind (wpAny_standAt (wpAny_bind (wpAny_holding (thn (hs pins s2 σ H2 x y v ov iv u _ I2 r1 r2 r q2) fun _ s3 ⟨H3, I3, q3⟩ => ?_))))
  exact wpAny_release ⟨σ, H3, I3, q3⟩
def tAsg (te : TE) (g : TG) : TS := fun D σ H => te σ H fun x H1 => g x σ H1 D.nx
theorem ps_asg {tg e : Expr} {te : TE} {g : TG} (he : PE X e te) (hg : PG X tg g) (hs : swapsWithSole [tg] e pos.line X.env = pure false := by rfl) (hw : swappedStores [tg] e X.env = pure none := by rfl)
    (h1 : (assignEach [tg] X.env).map (·.2) = [assign tg X.env] := by rfl) : PS X (.Assign [tg] e pos) (tAsg te g) := by
  intro pins s σ H D I h
  refine wpAny_Assign_stores (thn (he pins s σ H _ I h) fun v s1 ⟨x, H1, I1, r1, q1⟩ => ?_) hs hw
  rw [h1]
  exact thn (hg pins s1 σ H1 x v _ I1 r1 q1) fun _ s2 q => q
theorem ps_set {i : Nat} {x : Str} {e : Expr} {te : TE} {pos' : Pos} (hN : X.N.Nodup) (hi : X.N[i]? = some x) (hx : Loc X.env.scope x) (he : PE X e te) (hs : swapsWith e (some (.Name x pos')) pos.line X.env = pure false := by rfl) (hf : X.fn x = true ∨ X.env.scope.names.lookup x = some .local := by first | exact .inl rfl | exact .inr rfl | assumption) :
    PS X (.Assign [.Name x pos'] e pos) (tAsg te (gName i)) := by
  intro pins s σ H D I h
  refine wpAny_Assign_Name (thn (he pins s σ H _ I h) fun v s1 ⟨y, H1, I1, r1, q1⟩ => ?_) hs
  exact store_ok I1 hN hi hx r1 (fun s2 I2 => ⟨_, H1, I2, q1⟩) hf
def tPar (i j : Nat) (ta : TA) : TS := fun D σ H => ta σ H fun vs H1 => ∃ v w, vs = [v, w] ∧ D.nx ((σ.set i (some v)).set j (some w)) H1
def tAug (i : Nat) (te : TE) (ti : TIp) : TS := fun D σ H => ∃ x, σ[i]? = some (some x) ∧ te σ H fun y H1 => ti x y H1 fun z H2 => D.nx (σ.set i (some z)) H2
def tAugS (to ti te : TE) (tget : V → V → Hp → VK → Prop) (tip : TIp) (tset : TSet) : TS := fun D σ H => to σ H fun o H1 => ti σ H1 fun i H2 => tget o i H2 fun x H3 => te σ H3 fun y H4 => tip x y H4 fun z H5 => tset o i z H5 fun H6 => D.nx σ H6
def PGet (X : Cx) (t : V → V → Hp → VK → Prop) : Prop :=
  ∀ (pins : List (Addr × Obj)) (s : Shared) (σ : St) (H : Hp) (o i : V) (ov iv : Value) (Q : VK), Inv X pins σ H s → RelV o ov → RelV i iv → t o i H Q →
    wpAny (model X.prog X.w) X.A (getItem ov iv) (EP X pins σ Q) X.xe s
theorem ps_augS {o i e : Expr} {to ti te : TE} {tget : V → V → Hp → VK → Prop} {tip : TIp} {tset : TSet} {op : Operator} {tpos : Pos} (ho : PE X o to) (hi : PE X i ti) (hg : PGet X tget) (he : PE X e te) (hp : PIp X op tip) (hs : PSet X tset)
    (ha : ∀ ov iv new, augStore i ov iv new = (do holding [new, ov, iv] (setItem ov iv new); release [new, ov, iv] []; pure .next) := by intros; rfl) : PS X (.AugAssign (.Subscript o i tpos) op e pos) (tAugS to ti te tget tip tset) := by
  intro pins s σ H D I h
  refine wpAny_AugAssign_SubscriptAny (thn (ho pins s σ H _ I h) fun ov s1 ⟨x1, H1, I1, r1, q1⟩ => ?_) ha
  refine thn (hi pins s1 σ H1 _ I1 q1) fun iv s2 ⟨x2, H2, I2, r2, q2⟩ => ?_
  refine thn (hg pins s2 σ H2 x1 x2 ov iv _ I2 r1 r2 q2) fun old s3 ⟨x3, H3, I3, r3, q3⟩ => ?_
  refine thn (he pins s3 σ H3 _ I3 q3) fun v s4 ⟨x4, H4, I4, r4, q4⟩ => ?_
  refine thn (hp pins s4 σ H4 x3 x4 old v _ I4 r3 r4 q4) fun new s5 ⟨x5, H5, I5, r5, q5⟩ => ?_
  exact thn (hs pins s5 σ H5 x1 x2 x5 ov iv new _ I5 r1 r2 r5 q5) fun _ s6 ⟨H6, I6, q6⟩ => ⟨σ, H6, I6, q6⟩
def ipI (f : Int → Int → Int) : TIp := fun x y H Q => ∃ i j, x = .int i ∧ y = .int j ∧ Q (.int (f i j)) H
theorem ip_add : PIp X .Add (ipI fun i j => i + j) := by
  intro pins s σ H x y v u Q I r1 r2 h
  obtain ⟨i, j, e1, e2, q⟩ := h
  subst e1; subst e2
  obtain ⟨t, rfl⟩ := r1
  obtain ⟨t', rfl⟩ := r2
  exact iadd_int ⟨.int _, H, I.tok _, ⟨_, rfl⟩, q⟩
theorem ip_sub : PIp X .Sub (ipI fun i j => i - j) := by
  intro pins s σ H x y v u Q I r1 r2 h
  obtain ⟨i, j, e1, e2, q⟩ := h
  subst e1; subst e2
  obtain ⟨t, rfl⟩ := r1
  obtain ⟨t', rfl⟩ := r2
  exact isub_int ⟨.int _, H, I.tok _, ⟨_, rfl⟩, q⟩
end

/-! ### while -/
section
variable {X : Cx} {pos : Pos}
def tWhile (c : TT) (tb : TS) : TS := fun D σ H => ∃ W : Nat → St → Hp → Prop, (∃ m, W m σ H) ∧ ∀ m σ H, W m σ H →
  c σ H fun b H1 => if b = true then ∃ N : St → Hp → Prop, (∀ σ' H', N σ' H' → ∃ m', m' < m ∧ W m' σ' H') ∧ tb { D with nx := N, ct := N, bk := D.nx } σ H1 else D.nx σ H1
theorem ps_while {c : Expr} {body : List Stmt} {tc : TT} {tb : TS} (hp : PassesOwn (model X.prog X.w) X.A X.env X.xe) (hc : PT X c tc) (hb : PSs X body tb) : PS X (.While c body [] pos) (tWhile tc tb) := by
  intro pins s σ H D I h
  obtain ⟨W, ⟨m0, w0⟩, turn⟩ := h
  refine wpAny_While (codeAny_whileLoop (fun n s' => ∃ σ' H', Inv X pins σ' H' s' ∧ W n σ' H') ?_ m0 ⟨σ, H, I, w0⟩)
  rintro n s1 ⟨σ1, H1, I1, w1⟩
  refine wpAny_passesOwn hp (thn (hc pins s1 σ1 H1 _ I1 (turn n σ1 H1 w1)) fun b s2 ⟨H2, I2, q2⟩ => ?_)
  cases b with
  | true =>
    obtain ⟨N, hN, q2⟩ := q2
    rw [if_pos rfl]
    refine wpAny_passesOwn hp (thn (hb pins s2 σ1 H2 _ I2 q2) fun f s3 q3 => ?_)
    cases f with
    | next =>
      obtain ⟨σ3, H3, I3, n3⟩ := q3
      obtain ⟨m', hm, w3⟩ := hN σ3 H3 n3
      exact ⟨m', hm, σ3, H3, I3, w3⟩
    | cont =>
      obtain ⟨σ3, H3, I3, n3⟩ := q3
      obtain ⟨m', hm, w3⟩ := hN σ3 H3 n3
      exact ⟨m', hm, σ3, H3, I3, w3⟩
    | brk => exact q3
    | ret v => exact q3
  | false =>
    rw [if_neg Bool.false_ne_true]
    exact wpAny_execs_nil ⟨σ1, H2, I2, q2⟩
end

/-! ### what a loop or a comprehension walks -/
structure It where
  go : Nat → Hp → Prop
  yld : Nat → Hp → V → Hp → Prop
  stop : Nat → Hp → Prop
def FpOk (X : Cx) (pins : List (Addr × Obj)) (H : Hp) (b : Addr) : Prop :=
  H b = none ∧ b ≠ X.env.locals ∧ b ∉ X.fs ∧ (b ∈ X.ex ∨ X.s₀.heap.objs.size ≤ b) ∧ (∀ x c, X.env.cells.lookup x = some c → c ≠ b) ∧ ∀ p ∈ X.pn ++ pins, p.1 ≠ b
theorem Inv.fpOk {X : Cx} {pins : List (Addr × Obj)} {σ : St} {H H' : Hp} {s : Shared} {b : Addr} (I : Inv X pins σ H s) (hb : s.heap.objs.size ≤ b) (hn : H' b = none) : FpOk X pins H' b := by
  refine ⟨hn, Nat.ne_of_gt (Nat.lt_of_lt_of_le I.lt hb), I.nofs hb, .inr (Nat.le_trans I.sz hb), fun x c e z => ?_, fun p hp z => ?_⟩
  · obtain ⟨v, q⟩ := I.cell x c e
    exact absurd (Nat.lt_of_lt_of_le q.lt (by rw [z]; exact hb)) (Nat.lt_irrefl _)
  · exact absurd (Nat.lt_of_lt_of_le (Heap.lt_size (I.pin p hp).1) (by rw [z]; exact hb)) (Nat.lt_irrefl _)
structure Turn (P : Program) (w : World) (K : PySem.W.Frag) (tg : Expr) (J : It) (fp : List Addr) (it : Addr) (tn : Nat → Heap → Prop) : Prop where
  mem : it ∈ fp
  obj : ∀ i h, tn i h → ∀ b ∈ fp, ∃ o, h.get? b = some o ∧ ∀ v, o.data ≠ .cell v
  keep : ∀ i h h', tn i h → (∀ b ∈ fp, ∀ o, h.get? b = some o → h'.get? b = some o) → tn i h'
  item : ∀ (X : Cx), X.prog = P → X.w = w → X.K = K → X.calm = true → ∀ (i : Nat) (pins : List (Addr × Obj)) (s : Shared) (σ : St) (H : Hp) (E : Value → Shared → Prop), Inv X pins σ H s → (∀ b ∈ fp, FpOk X pins H b) → tn i s.heap → J.go i H →
    wpAny (model P w) X.A (pyNext (.ref it)) (fun r s1 => ∃ u, r = some u ∧
      wpAny (model P w) X.A (letOwnedTupleGo tg (.ref it) u) (fun _ s2 => ∃ x H', Inv X pins σ H' s2 ∧ RelV x u ∧ J.yld i H x H' ∧ tn (i + 1) s2.heap ∧ ∀ b ∈ fp, H' b = none) E s1) E s
  done : ∀ (X : Cx), X.prog = P → X.w = w → X.K = K → X.calm = true → ∀ (i : Nat) (pins : List (Addr × Obj)) (s : Shared) (σ : St) (H : Hp) (E : Value → Shared → Prop), Inv X pins σ H s → (∀ b ∈ fp, FpOk X pins H b) → tn i s.heap → J.stop i H →
    wpAny (model P w) X.A (pyNext (.ref it)) (fun r s1 => r = none ∧ Inv X pins σ H s1) E s
  self : ∀ (A : Around) (i : Nat) (s : Shared) (Q : Value → Shared → Prop) (E : Value → Shared → Prop), tn i s.heap → Q (.ref it) s → wpAny (model P w) A (pyIter (.ref it)) Q E s
abbrev TI := St → Hp → (It → Hp → Prop) → Prop
def PIE (X : Cx) (pins : List (Addr × Obj)) (σ : St) (tg : Expr) (R : It → Hp → Prop) (itv : Value) (s2 : Shared) : Prop :=
  ∃ (it : Addr) (fp : List Addr) (tn : Nat → Heap → Prop) (J : It) (H' : Hp), itv = .ref it ∧ Inv X pins σ H' s2 ∧ Turn X.prog X.w X.K tg J fp it tn ∧ tn 0 s2.heap ∧ (∀ b ∈ fp, FpOk X pins H' b) ∧ R J H'
def PI (X : Cx) (tg iter : Expr) (wi : TI) : Prop :=
  ∀ (pins : List (Addr × Obj)) (s : Shared) (σ : St) (H : Hp) (R : It → Hp → Prop), Inv X pins σ H s → wi σ H R →
    wpAny (model X.prog X.w) X.A (eval iter X.env) (fun v s1 => wpAny (model X.prog X.w) X.A (pyIter v) (PIE X pins σ tg R) X.xe s1) X.xe s

theorem go_of {M : Model} {A : Around} {E : Value → Shared → Prop} {s : Shared} {tg : Expr} {it : Addr} {u : Value} {o : Obj} {n : String} {vs : Array Value} {Q : Unit → Shared → Prop} (ho : s.heap.get? it = some o) (hc : o.cls = .type n) (hd : o.data = .fields vs)
    (hn : ["enumerate", "zip", "dict_itemiterator", "dict_reverseitemiterator", "odict_iterator", "itertools.zip_longest", "itertools.pairwise"].contains n = false) (hQ : Q () s) : wpAny M A (letOwnedTupleGo tg (.ref it) u) Q E s := by
  unfold letOwnedTupleGo
  cases tg <;> first
    | exact wpAny_pure hQ
    | (cases u <;> first
        | exact wpAny_pure hQ
        | (refine wpAny_bind (wpAny_load ho ?_)
           rw [hc, hd]
           show wpAny M A (if (["enumerate", "zip", "dict_itemiterator", "dict_reverseitemiterator", "odict_iterator", "itertools.zip_longest", "itertools.pairwise"].contains n && vs[0]? == some (rawInt _)) = true then _ else _) Q E s
           rw [if_neg (by intro h; rw [hn, Bool.false_and] at h; cases h)]
           exact wpAny_pure hQ))

def Itl (K : PySem.W.Frag) (a : Addr) : It :=
  ⟨fun i H => ∃ xs x, SqL K H a xs ∧ xs[i]? = some x, fun i H x H' => H' = H ∧ ∀ xs, SqL K H a xs → xs[i]? = some x, fun i H => ∃ xs, SqL K H a xs ∧ xs.length ≤ i⟩
def Itt (K : PySem.W.Frag) (a : Addr) : It :=
  ⟨fun i H => ∃ xs x, SqT K H a xs ∧ xs[i]? = some x, fun i H x H' => H' = H ∧ ∀ xs, SqT K H a xs → xs[i]? = some x, fun i H => ∃ xs, SqT K H a xs ∧ xs.length ≤ i⟩
def Itr (lo : Int) (n : Nat) : It := ⟨fun i _ => i < n, fun i H x H' => H' = H ∧ x = .int (lo + i), fun i _ => n ≤ i⟩
theorem turn_list {P : Program} {w : World} {K : PySem.W.Frag} {tg : Expr} (a it : Addr) : Turn P w K tg (Itl K a) [it] it (fun i h => h.IsListIter it a i) where
  mem := by simp
  obj := fun i h st b hb => by
    have e : b = it := by simpa using hb
    subst e
    obtain ⟨o, e, c, d⟩ := st
    exact ⟨o, e, fun v z => by rw [d] at z; cases z⟩
  keep := fun i h h' st k => st.at fun o e => k it (by simp) o e
  item := by
    intro X hP hw hK hc i pins s σ H E I hf st hg
    subst hP hw hK
    obtain ⟨xs, x, hq, hx⟩ := hg
    obtain ⟨its, rv, p, hz⟩ := I.list hq
    obtain ⟨u, hu, ru⟩ := rv.get hx
    obtain ⟨f0, f1, f2, f3, f4, f5⟩ := hf it (by simp)
    refine wpAny_pyNext_list_item st p.isList (x := u) (by simpa using hu) fun h' st' sb => ?_
    have I1 : Inv X pins σ H { s with heap := h' } := I.turned (t' := s.toks) (fun b o hb e => (sb.2 b hb).trans e) f0 f1 f3 f4 f5
    obtain ⟨o, e, c, d⟩ := id st'
    exact ⟨u, rfl, go_of (s := { s with heap := h' }) e c d (by decide) ⟨x, H, I1, ru, ⟨rfl, fun ys hy => by rw [I.list_inj hy hq]; exact hx⟩, st', fun b hb => (hf b hb).1⟩⟩
  done := by
    intro X hP hw hK hc i pins s σ H E I hf st hg
    subst hP hw hK
    obtain ⟨xs, hq, hx⟩ := hg
    obtain ⟨its, rv, p, hz⟩ := I.list hq
    obtain ⟨f0, f1, f2, f3, f4, f5⟩ := hf it (by simp)
    have hl := rv.length
    exact wpAny_pyNext_list_end (I.ok.hd hc) st p.isList (by simp; omega) fun h' eb => ⟨rfl, I.turned (t' := s.toks) (fun b o hb e => eb b o hb e) f0 f1 f3 f4 f5⟩
  self := fun _ _ _ _ _ st h => wpAny_pyIter_listiter st h
theorem turn_range {P : Program} {w : World} {K : PySem.W.Frag} {tg : Expr} (it : Addr) (lo : Int) (n : Nat) : Turn P w K tg (Itr lo n) [it] it (fun i h => IsRangeIter h it (lo + (i : Nat) * 1) ((n : Int) - (i : Nat)) 1) where
  mem := by simp
  obj := fun i h st b hb => by
    have e : b = it := by simpa using hb
    subst e
    exact ⟨_, st, fun v z => by
      have z' : Data.fields _ = Data.cell v := z
      cases z'⟩
  keep := fun i h h' st k => k it (by simp) _ st
  item := by
    intro X hP hw hK hc i pins s σ H E I hf st hg
    subst hP hw hK
    obtain ⟨f0, f1, f2, f3, f4, f5⟩ := hf it (by simp)
    have W := Walks.range (prog := X.prog) (w := X.w) (I.ok.hd hc) it lo 1 n
    refine W.item i s _ _ hg st fun v h' tk hv st' kk => ?_
    obtain ⟨t, rfl⟩ := hv
    have I1 : Inv X pins σ H { s with heap := h', toks := tk } := I.turned (fun b o hb e => kk b o (by simpa using hb) e) f0 f1 f3 f4 f5
    refine ⟨_, rfl, go_of (s := { s with heap := h', toks := tk }) (n := "range_iterator") st' rfl rfl (by decide) ⟨.int (lo + i), H, I1, ⟨t, ?_⟩, ⟨rfl, rfl⟩, st', fun b hb => (hf b hb).1⟩⟩
    rw [Int.mul_one]
  done := by
    intro X hP hw hK hc i pins s σ H E I hf st hg
    subst hP hw hK
    obtain ⟨f0, f1, f2, f3, f4, f5⟩ := hf it (by simp)
    exact wpAny_pyNext_range_end (I.ok.hd hc) st (by have : n ≤ i := hg; omega) fun h' eb => ⟨rfl, I.turned (t' := s.toks) (fun b o hb e => eb b o hb e) f0 f1 f3 f4 f5⟩
  self := fun _ _ _ _ _ st h => wpAny_pyIter_rangeiter st h
end L2

namespace L2
open PySem PySem.Spec PyProof.Rows
section
variable {X : Cx} {tg : Expr}
def iList (K : PySem.W.Frag) (tl : TE) : TI := fun σ H R => tl σ H fun x H1 => ∃ a, x = .ref a ∧ (∃ xs, SqL K H1 a xs) ∧ R (Itl K a) H1
def iTup (K : PySem.W.Frag) (tl : TE) : TI := fun σ H R => tl σ H fun x H1 => ∃ a, x = .ref a ∧ (∃ xs, SqT K H1 a xs) ∧ R (Itt K a) H1
theorem pi_list {l : Expr} {tl : TE} (hl : PE X l tl) : PI X tg l (iList X.K tl) := by
  intro pins s σ H R I h
  refine thn (hl pins s σ H _ I h) fun v s1 ⟨x, H1, I1, r1, q1⟩ => ?_
  obtain ⟨a, e, ⟨xs, hq⟩, q⟩ := q1
  subst e
  cases r1
  obtain ⟨its, rv, p, hz⟩ := I1.list hq
  refine wpAny_pyIter_list p.isList ?_
  refine ⟨s1.heap.objs.size, [s1.heap.objs.size], _, _, H1, rfl, I1.kept (t' := s1.toks) fun b o e => Heap.get?_push_of_some _ e, turn_list a _, ⟨_, Heap.get?_push_size _ rfl, rfl, rfl⟩, fun b hb => ?_, q⟩
  have e : b = s1.heap.objs.size := by simpa using hb
  subst e
  exact I1.fpOk (Nat.le_refl _) (I1.hok.fresh (Nat.le_refl _))
theorem range_it {pins : List (Addr × Obj)} {σ : St} {H : Hp} {s : Shared} {R : It → Hp → Prop} {E : Value → Shared → Prop} {lo hi : Int} {t u v : Tok} {tk : Nat} (I : Inv X pins σ H s) (h1 : -(2 ^ 62) ≤ lo) (h2 : lo < 2 ^ 62) (h3 : -(2 ^ 62) ≤ hi) (h4 : hi < 2 ^ 62)
    (q : R (Itr lo (hi - lo).toNat) H) : wpAny (model X.prog X.w) X.A (pyIter (.ref s.heap.objs.size)) (PIE X pins σ tg R) E { s with heap := s.heap.push { cls := .type "range", data := .fields #[.int lo t, .int hi u, .int 1 v] }, toks := tk } := by
  refine wpAny_pyIter_range (IsRange.new ..) (small_one h1 h2 h3 h4) ?_
  have I1 : Inv X pins σ H { s with heap := s.heap.push { cls := .type "range", data := .fields #[.int lo t, .int hi u, .int 1 v] }, toks := tk } := I.kept fun b o e => Heap.get?_push_of_some _ e
  refine ⟨(s.heap.push { cls := .type "range", data := .fields #[.int lo t, .int hi u, .int 1 v] }).objs.size, [(s.heap.push { cls := .type "range", data := .fields #[.int lo t, .int hi u, .int 1 v] }).objs.size], _, _, H, rfl,
    I1.kept (t' := tk) fun b o e => Heap.get?_push_of_some _ e, turn_range _ lo (hi - lo).toNat, ?_, fun b hb => ?_, q⟩
  · have e1 : lo + ((0 : Nat) : Int) * 1 = lo := by simp
    have e2 : (((hi - lo).toNat : Nat) : Int) - ((0 : Nat) : Int) = Builtin.Range.rangeSize lo hi 1 := by rw [rangeSize_one]; split <;> omega
    show IsRangeIter _ _ (lo + ((0 : Nat) : Int) * 1) ((((hi - lo).toNat : Nat) : Int) - ((0 : Nat) : Int)) 1
    rw [e1, e2]
    exact Heap.get?_push_size _ rfl
  · have e : b = (s.heap.push { cls := .type "range", data := .fields #[.int lo t, .int hi u, .int 1 v] }).objs.size := by simpa using hb
    subst e
    exact I1.fpOk (Nat.le_refl _) (I1.hok.fresh (Nat.le_refl _))
def iRng1 (ta : TA) : TI := fun σ H R => ta σ H fun vs H1 => ∃ j : Int, vs = [.int j] ∧ -(2 ^ 62) ≤ j ∧ j < 2 ^ 62 ∧ R (Itr 0 j.toNat) H1
def iRng2 (ta : TA) : TI := fun σ H R => ta σ H fun vs H1 => ∃ i j : Int, vs = [.int i, .int j] ∧ (-(2 ^ 62) ≤ i ∧ i < 2 ^ 62 ∧ -(2 ^ 62) ≤ j ∧ j < 2 ^ 62) ∧ R (Itr i (j - i).toNat) H1
theorem pi_range1 {a : Expr} {ta : TA} {p pos : Pos} (hg : Gl X "range") (hm : X.mg "range" = none) (ha : PA X [a] ta) (hs : starEach [a] X.env = [(false, eval a X.env)] := by rfl) : PI X tg (.Call (.Name "range" p) [a] [] pos) (iRng1 ta) := by
  intro pins s σ H R I h
  refine Call_ (ld_blt I hg hm boot_range (PyProof.Rows.callWith_type1 (thn (ha pos pins s σ H _ I h) fun us s1 ⟨vs, H1, I1, r1, q1⟩ => ?_) hs rfl))
  obtain ⟨j, e, q1, q2, q⟩ := q1
  subst e
  cases r1 with
  | cons r rr =>
    cases rr
    obtain ⟨t, rfl⟩ := r
    exact call_range_1 (range_it I1 (by omega) (by omega) q1 q2 (by simpa using q))
/-! ### for -/
def tFor (wi : TI) (g : TG) (tb : TS) : TS := fun D σ H => wi σ H fun J H1 => ∃ W : Nat → Nat → St → Hp → Prop, (∃ m, W 0 m σ H1) ∧ ∀ i m σ H, W i m σ H →
  (J.stop i H ∧ D.nx σ H) ∨ (J.go i H ∧ ∃ N : St → Hp → Prop, (∀ σ' H', N σ' H' → ∃ m', m' < m ∧ W (i + 1) m' σ' H') ∧ ∀ x H', J.yld i H x H' → g x σ H' fun σ2 H2 => tb { D with nx := N, ct := N, bk := D.nx } σ2 H2)
def pinsAt (fp : List Addr) (h : Heap) : List (Addr × Obj) := fp.filterMap fun b => (h.get? b).map fun o => (b, o)
theorem mem_pinsAt {fp : List Addr} {h : Heap} {b : Addr} {o : Obj} (hb : b ∈ fp) (e : h.get? b = some o) : (b, o) ∈ pinsAt fp h := List.mem_filterMap.mpr ⟨b, hb, by rw [e]; rfl⟩
theorem of_pinsAt {fp : List Addr} {h : Heap} {p : Addr × Obj} (hp : p ∈ pinsAt fp h) : p.1 ∈ fp ∧ h.get? p.1 = some p.2 := by
  obtain ⟨b, hb, e⟩ := List.mem_filterMap.mp hp
  cases q : h.get? b with
  | none => rw [q] at e; cases e
  | some o =>
    rw [q] at e
    have e' : (b, o) = p := Option.some.inj e
    subst e'
    exact ⟨hb, q⟩
theorem Inv.pinned {pins : List (Addr × Obj)} {σ : St} {H : Hp} {s : Shared} {fp : List Addr} (I : Inv X pins σ H s) (hf : ∀ b ∈ fp, FpOk X pins H b) (ho : ∀ b ∈ fp, ∃ o, s.heap.get? b = some o ∧ ∀ v, o.data ≠ .cell v) : Inv X (pins ++ pinsAt fp s.heap) σ H s :=
  I.pins_of fun p hp => (List.mem_append.mp hp).elim (fun z => I.pin p (List.mem_append_right _ z)) fun z => by
    obtain ⟨hb, e⟩ := of_pinsAt z
    obtain ⟨f0, f1, f2, _⟩ := hf p.1 hb
    obtain ⟨o, e', d⟩ := ho p.1 hb
    rw [e] at e'; cases e'
    exact ⟨e, f0, f1, f2, d⟩
theorem Inv.unpinned {pins pl : List (Addr × Obj)} {σ : St} {H : Hp} {s : Shared} (I : Inv X (pins ++ pl) σ H s) : Inv X pins σ H s := I.pins_of fun p hp => I.pin p (List.mem_append_right _ (List.mem_append_left _ hp))
theorem ps_for {iter : Expr} {body : List Stmt} {wi : TI} {g : TG} {tb : TS} {pos : Pos} (hp : PassesOwn (model X.prog X.w) X.A X.env X.xe) (hc : X.calm = true) (hi : PI X tg iter wi) (hg : PG X tg g) (hb : PSs X body tb)
    (hs : ∀ x, foldedSetIterable iter X.env x = pure x := by intro _; rfl) : PS X (.For tg iter body [] pos) (tFor wi g tb) := by
  intro pins s σ H D I h
  refine wpAny_For (thn (hi pins s σ H _ I h) fun v s1 h1 => thn h1 fun itv s2 h2 => ?_) hs
  obtain ⟨it, fp, tn, J, H2, e, I2, T, st2, f2, W, ⟨m0, w0⟩, turn⟩ := h2
  subst e
  -- what stays true of the iterator's objects through the loop
  have stat : ∀ {H' : Hp}, (∀ b ∈ fp, H' b = none) → ∀ b ∈ fp, FpOk X pins H' b := fun hn b hb => ⟨hn b hb, (f2 b hb).2⟩
  refine codeAny_forLoop_any (fun n s' => ∃ i σ' H', Inv X pins σ' H' s' ∧ tn i s'.heap ∧ (∀ b ∈ fp, H' b = none) ∧ W i n σ' H') ?_ m0 ⟨0, σ, H2, I2, st2, fun b hb => (f2 b hb).1, w0⟩
  rintro n s3 ⟨i, σ3, H3, I3, st3, fr3, w3⟩
  rcases turn i n σ3 H3 w3 with ⟨stop, qn⟩ | ⟨go, N, hN, step⟩
  · refine wpAny_passesOwn hp (thn (T.done X rfl rfl rfl hc i pins s3 σ3 H3 X.xe I3 (stat fr3) st3 stop) fun r s4 ⟨hr, I4⟩ => ?_)
    subst hr
    exact wpAny_execs_nil ⟨σ3, H3, I4, qn⟩
  · refine wpAny_passesOwn hp (thn (T.item X rfl rfl rfl hc i pins s3 σ3 H3 X.xe I3 (stat fr3) st3 go) fun r s4 ⟨u, hr, h4⟩ => ?_)
    subst hr
    refine wpAny_passesOwn hp (thn h4 fun _ s5 ⟨x, H5, I5, r5, y5, st5, fr5⟩ => ?_)
    have I5' := I5.pinned (stat fr5) (T.obj _ _ st5)
    refine wpAny_passesOwn hp (thn (hg _ s5 σ3 H5 x u _ I5' r5 (step x H5 y5)) fun _ s6 ⟨σ6, H6, I6, q6⟩ => ?_)
    refine wpAny_passesOwn hp (thn (hb _ s6 σ6 H6 _ I6 q6) fun f s7 q7 => ?_)
    have again : ∀ {σ7 : St} {H7 : Hp}, Inv X (pins ++ pinsAt fp s5.heap) σ7 H7 s7 → N σ7 H7 → ∃ m, m < n ∧ ∃ i σ' H', Inv X pins σ' H' s7 ∧ tn i s7.heap ∧ (∀ b ∈ fp, H' b = none) ∧ W i m σ' H' := fun {σ7 H7} I7 n7 => by
      obtain ⟨m', hm, w7⟩ := hN σ7 H7 n7
      refine ⟨m', hm, i + 1, σ7, H7, I7.unpinned, T.keep _ _ _ st5 fun b hb o e => (I7.pin (b, o) (List.mem_append_right _ (List.mem_append_right _ (mem_pinsAt hb e)))).1, fun b hb => ?_, w7⟩
      obtain ⟨o, e, d⟩ := T.obj _ _ st5 b hb
      exact (I7.pin (b, o) (List.mem_append_right _ (List.mem_append_right _ (mem_pinsAt hb e)))).2.1
    cases f with
    | next => obtain ⟨σ7, H7, I7, n7⟩ := q7; exact again I7 n7
    | cont => obtain ⟨σ7, H7, I7, n7⟩ := q7; exact again I7 n7
    | brk => obtain ⟨σ7, H7, I7, q7⟩ := q7; exact ⟨σ7, H7, I7.unpinned, q7⟩
    | ret v => obtain ⟨x7, σ7, H7, I7, r7, q7⟩ := q7; exact ⟨x7, σ7, H7, I7.unpinned, r7, q7⟩
end

/-! ### the forms one uses -/
theorem for_list {K : PySem.W.Frag} {a : Addr} {xs : List V} {g : TG} {tb : TS} {D : Ends} {σ : St} {H : Hp} (Pv : Nat → St → Hp → Prop) (h0 : Pv 0 σ H) (hl : ∀ i σ H, i ≤ xs.length → Pv i σ H → SqL K H a xs)
    (hs : ∀ i x σ H, xs[i]? = some x → Pv i σ H → g x σ H fun σ2 H2 => tb { D with nx := Pv (i + 1), ct := Pv (i + 1), bk := D.nx } σ2 H2) (hd : ∀ σ H, Pv xs.length σ H → D.nx σ H) :
    ∃ W : Nat → Nat → St → Hp → Prop, (∃ m, W 0 m σ H) ∧ ∀ i m σ H, W i m σ H →
      ((Itl K a).stop i H ∧ D.nx σ H) ∨ ((Itl K a).go i H ∧ ∃ N : St → Hp → Prop, (∀ σ' H', N σ' H' → ∃ m', m' < m ∧ W (i + 1) m' σ' H') ∧ ∀ x H', (Itl K a).yld i H x H' → g x σ H' fun σ2 H2 => tb { D with nx := N, ct := N, bk := D.nx } σ2 H2) := by
  refine ⟨fun i m σ H => m = xs.length - i ∧ i ≤ xs.length ∧ Pv i σ H, ⟨xs.length, by simp, Nat.zero_le _, h0⟩, ?_⟩
  rintro i m σ H ⟨rfl, hi, p⟩
  have q := hl i σ H hi p
  by_cases hlt : i < xs.length
  · refine .inr ⟨⟨xs, xs[i], q, by simp [hlt]⟩, Pv (i + 1), fun σ' H' p' => ⟨xs.length - (i + 1), by omega, rfl, hlt, p'⟩, fun x H' y => ?_⟩
    obtain ⟨e, y⟩ := y
    subst e
    exact hs i x σ _ (y xs q) p
  · have e : i = xs.length := by omega
    subst e
    exact .inl ⟨⟨xs, q, Nat.le_refl _⟩, hd σ H p⟩
theorem for_range {lo : Int} {n : Nat} {g : TG} {tb : TS} {D : Ends} {σ : St} {H : Hp} (Pv : Nat → St → Hp → Prop) (h0 : Pv 0 σ H)
    (hs : ∀ i σ H, i < n → Pv i σ H → g (.int (lo + i)) σ H fun σ2 H2 => tb { D with nx := Pv (i + 1), ct := Pv (i + 1), bk := D.nx } σ2 H2) (hd : ∀ σ H, Pv n σ H → D.nx σ H) :
    ∃ W : Nat → Nat → St → Hp → Prop, (∃ m, W 0 m σ H) ∧ ∀ i m σ H, W i m σ H →
      ((Itr lo n).stop i H ∧ D.nx σ H) ∨ ((Itr lo n).go i H ∧ ∃ N : St → Hp → Prop, (∀ σ' H', N σ' H' → ∃ m', m' < m ∧ W (i + 1) m' σ' H') ∧ ∀ x H', (Itr lo n).yld i H x H' → g x σ H' fun σ2 H2 => tb { D with nx := N, ct := N, bk := D.nx } σ2 H2) := by
  refine ⟨fun i m σ H => m = n - i ∧ i ≤ n ∧ Pv i σ H, ⟨n, by simp, Nat.zero_le _, h0⟩, ?_⟩
  rintro i m σ H ⟨rfl, hi, p⟩
  by_cases hlt : i < n
  · refine .inr ⟨hlt, Pv (i + 1), fun σ' H' p' => ⟨n - (i + 1), by omega, rfl, hlt, p'⟩, fun x H' y => ?_⟩
    obtain ⟨e, y⟩ := y
    subst e y
    exact hs i σ _ hlt p
  · have e : i = n := by omega
    subst e
    exact .inl ⟨Nat.le_refl _, hd σ H p⟩
end L2

namespace L2
open PySem PySem.Spec PyProof.Rows

abbrev R2 := V → V → Hp → VK → Prop
def OpR (X : Cx) (f : Value → Value → Sem Value) (r : R2) : Prop :=
  ∀ (pins : List (Addr × Obj)) (s : Shared) (σ : St) (H : Hp) (x y : V) (v u : Value) (Q : VK), Inv X pins σ H s → RelV x v → RelV y u → r x y H Q →
    wpAny (model X.prog X.w) X.A (f v u) (EP X pins σ Q) X.xe s
def UnR (X : Cx) (f : Value → Sem Value) (r : V → Hp → VK → Prop) : Prop :=
  ∀ (pins : List (Addr × Obj)) (s : Shared) (σ : St) (H : Hp) (x : V) (v : Value) (Q : VK), Inv X pins σ H s → RelV x v → r x H Q →
    wpAny (model X.prog X.w) X.A (f v) (EP X pins σ Q) X.xe s
def CallR (X : Cx) (f : Value) (r : List V → Hp → VK → Prop) : Prop :=
  ∀ (pins : List (Addr × Obj)) (s : Shared) (σ : St) (H : Hp) (xs : List V) (us : List Value) (Q : VK), Inv X pins σ H s → Vals xs us → r xs H Q →
    wpAny (model X.prog X.w) X.A (call f us) (EP X pins σ Q) X.xe s
def TruR (X : Cx) (r : V → Hp → (Bool → Hp → Prop) → Prop) : Prop :=
  ∀ (pins : List (Addr × Obj)) (s : Shared) (σ : St) (H : Hp) (x : V) (v : Value) (Q : Bool → Hp → Prop), Inv X pins σ H s → RelV x v → r x H Q →
    wpAny (model X.prog X.w) X.A (truthy v) (TP X pins σ Q) X.xe s

def tOp (r : R2) (ta tb : TE) : TE := fun σ H Q => ta σ H fun x H1 => tb σ H1 fun y H2 => r x y H2 Q
def tUn (r : V → Hp → VK → Prop) (ta : TE) : TE := fun σ H Q => ta σ H fun x H1 => r x H1 Q
def rI (C : Int → Int → Prop) (g : Int → Int → V) : R2 := fun x y H Q => ∃ i j, x = .int i ∧ y = .int j ∧ C i j ∧ Q (g i j) H
def rI0 (g : Int → Int → V) : R2 := fun x y H Q => ∃ i j, x = .int i ∧ y = .int j ∧ Q (g i j) H
def rU (g : Int → V) : V → Hp → VK → Prop := fun x H Q => ∃ i, x = .int i ∧ Q (g i) H

section
variable {X : Cx} {a b c : Expr} {ta tb tc : TE} {pos : Pos}

theorem binT (ha : PE X a ta) (hb : PE X b tb) {pins : List (Addr × Obj)} {s : Shared} {σ : St} {H : Hp} {R : V → V → Hp → Prop} (I : Inv X pins σ H s)
    (h : ta σ H fun x H1 => tb σ H1 fun y H2 => R x y H2) {Q : Value → Shared → Prop} {f : Value → Value → Sem Value}
    (hf : ∀ v u s2 x y H2, Inv X pins σ H2 s2 → RelV x v → RelV y u → R x y H2 → wpAny (model X.prog X.w) X.A (f v u) Q X.xe s2) :
    wpAny (model X.prog X.w) X.A (eval a X.env) (fun v s₁ => wpAny (model X.prog X.w) X.A (eval b X.env) (fun u s₂ => wpAny (model X.prog X.w) X.A (f v u) Q X.xe s₂) X.xe s₁) X.xe s := by
  refine thn (ha pins s σ H _ I h) fun v s1 ⟨x, H1, I1, r1, q1⟩ => ?_
  refine thn (hb pins s1 σ H1 _ I1 q1) fun u s2 ⟨y, H2, I2, r2, q2⟩ => ?_
  exact hf v u s2 x y H2 I2 r1 r2 q2

theorem pe_op {op : Operator} {r : R2} (ho : OpR X (binaryOp op) r) (ha : PE X a ta) (hb : PE X b tb) : PE X (.BinOp a op b pos) (tOp r ta tb) := by
  intro pins s σ H Q I h
  exact wpAny_BinOp (binT ha hb I h fun v u s2 x y H2 I2 rx ry q => ho pins s2 σ H2 x y v u Q I2 rx ry q)
theorem pe_un {op : UnaryOp} {r : V → Hp → VK → Prop} (ho : UnR X (unaryOp op) r) (ha : PE X a ta) : PE X (.UnaryOp op a pos) (tUn r ta) := by
  intro pins s σ H Q I h
  exact UnaryOp_ (thn (ha pins s σ H _ I h) fun v s1 ⟨x, H1, I1, r1, q1⟩ => ho pins s1 σ H1 x v Q I1 r1 q1)
/-! ### ints -/
theorem opI {f : Value → Value → Sem Value} {C : Int → Int → Prop} {g : Int → Int → Int}
    (rule : ∀ (i j : Int) (t u : Tok) (s : Shared) (Q : Value → Shared → Prop) (E : Value → Shared → Prop), C i j → Q (.int (g i j) s.toks) { s with toks := s.toks + 1 } → wpAny (model X.prog X.w) X.A (f (.int i t) (.int j u)) Q E s) :
    OpR X f (rI C fun i j => .int (g i j)) := by
  intro pins s σ H x y v u Q I rx ry h
  obtain ⟨i, j, rfl, rfl, hc, q⟩ := h
  obtain ⟨t, rfl⟩ := rx
  obtain ⟨t', rfl⟩ := ry
  exact rule i j t t' s _ _ hc ⟨.int (g i j), H, I.tok _, ⟨_, rfl⟩, q⟩
theorem opI0 {f : Value → Value → Sem Value} {g : Int → Int → Int}
    (rule : ∀ (i j : Int) (t u : Tok) (s : Shared) (Q : Value → Shared → Prop) (E : Value → Shared → Prop), Q (.int (g i j) s.toks) { s with toks := s.toks + 1 } → wpAny (model X.prog X.w) X.A (f (.int i t) (.int j u)) Q E s) :
    OpR X f (rI0 fun i j => .int (g i j)) := by
  intro pins s σ H x y v u Q I rx ry h
  obtain ⟨i, j, rfl, rfl, q⟩ := h
  obtain ⟨t, rfl⟩ := rx
  obtain ⟨t', rfl⟩ := ry
  exact rule i j t t' s _ _ ⟨.int (g i j), H, I.tok _, ⟨_, rfl⟩, q⟩
theorem opB0 {f : Value → Value → Sem Value} {g : Int → Int → Bool}
    (rule : ∀ (i j : Int) (t u : Tok) (s : Shared) (Q : Value → Shared → Prop) (E : Value → Shared → Prop), Q (.bool (g i j)) s → wpAny (model X.prog X.w) X.A (f (.int i t) (.int j u)) Q E s) :
    OpR X f (rI0 fun i j => .bl (g i j)) := by
  intro pins s σ H x y v u Q I rx ry h
  obtain ⟨i, j, rfl, rfl, q⟩ := h
  obtain ⟨t, rfl⟩ := rx
  obtain ⟨t', rfl⟩ := ry
  exact rule i j t t' s _ _ ⟨.bl (g i j), H, I, rfl, q⟩

def CDiv (i j : Int) : Prop := 0 < j ∧ j < 1073741824
def CDivN (i j : Int) : Prop := j ≠ 0 ∧ j.natAbs < 1073741824
def CPow (i j : Int) : Prop := 0 ≤ j ∧ j ≤ 1000000 ∧ i.natAbs < 2 ^ 64
def CMul (i j : Int) : Prop := (-(2 ^ 64) < i ∧ i < 2 ^ 64) ∨ (-(2 ^ 64) < j ∧ j < 2 ^ 64)
theorem CMul.ok {i j : Int} (h : CMul i j) : IntMulOk i j := by
  rcases h with ⟨h1, h2⟩ | ⟨h1, h2⟩
  · exact .of_left (intBits_le_64 h1 h2)
  · exact .of_right (intBits_le_64 h1 h2)
theorem op_add : OpR X (binaryOp .Add) (rI0 fun i j => .int (i + j)) := opI0 fun _ _ _ _ _ _ _ q => add_int q
theorem op_sub : OpR X (binaryOp .Sub) (rI0 fun i j => .int (i - j)) := opI0 fun _ _ _ _ _ _ _ q => sub_int q
theorem op_mul : OpR X (binaryOp .Mult) (rI CMul fun i j => .int (i * j)) := opI fun _ _ _ _ _ _ _ hc q => mul_int q hc.ok
theorem op_fdiv : OpR X (binaryOp .FloorDiv) (rI CDiv fun i j => .int (i / j)) := opI fun i j _ _ _ _ _ hc q => by
  have h1 : (0 : Int) < j := hc.1
  have h2 : j < 1073741824 := hc.2
  exact floordiv_int (by omega) (by rw [Int.fdiv_eq_ediv_of_nonneg i (by omega)]; exact q) (.inl (PyProof.noPylong_small (by omega)))
theorem op_mod : OpR X (binaryOp .Mod) (rI (fun _ j => 0 < j) fun i j => .int (i % j)) := opI fun i j _ _ _ _ _ hc q => by
  have h1 : (0 : Int) < j := hc
  exact mod_int' (by omega) (by rw [Int.fmod_eq_emod_of_nonneg i (by omega)]; exact q)
theorem op_pow : OpR X (binaryOp .Pow) (rI CPow fun i j => .int (i ^ j.toNat)) := opI fun _ _ _ _ _ _ _ hc q => pow_int_small hc.1 hc.2.1 hc.2.2 q
theorem unI {f : Value → Sem Value} {g : Int → Int}
    (rule : ∀ (i : Int) (t : Tok) (s : Shared) (Q : Value → Shared → Prop) (E : Value → Shared → Prop), Q (.int (g i) s.toks) { s with toks := s.toks + 1 } → wpAny (model X.prog X.w) X.A (f (.int i t)) Q E s) :
    UnR X f (rU fun i => .int (g i)) := by
  intro pins s σ H x v Q I rx h
  obtain ⟨i, rfl, q⟩ := h
  obtain ⟨t, rfl⟩ := rx
  exact rule i t s _ _ ⟨.int (g i), H, I.tok _, ⟨_, rfl⟩, q⟩
theorem un_neg : UnR X (unaryOp .USub) (rU fun i => .int (-i)) := unI fun _ _ _ _ _ q => neg_int q
/-! ### bools among ints: n += (a < b) -/
end

/-! ### comparisons -/
def scal : V → V → Bool
  | .non, .non => true | .non, .int _ => true | .int _, .non => true | .non, .bl _ => true | .bl _, .non => true | .non, .str _ => true | .str _, .non => true
  | .int _, .int _ => true | .bl _, .bl _ => true | .str _, .str _ => true | .byt _, .byt _ => true
  | .int _, .str _ => true | .str _, .int _ => true | .bl _, .str _ => true | .str _, .bl _ => true
  | _, _ => false
def rEq : R2 := fun x y H Q => scal x y = true ∧ Q (.bl (decide (x = y))) H
def rNe : R2 := fun x y H Q => scal x y = true ∧ Q (.bl (!decide (x = y))) H

theorem dec_int {i j : Int} : decide (V.int i = V.int j) = (i == j) := by
  rw [Bool.eq_iff_iff]
  simp
theorem dec_bl {i j : Bool} : decide (V.bl i = V.bl j) = (i == j) := by
  rw [Bool.eq_iff_iff]
  simp
theorem dec_str {i j : Str} : decide (V.str i = V.str j) = (i == j) := by
  rw [Bool.eq_iff_iff]
  simp
theorem dec_byt {i j : Array UInt8} : decide (V.byt i = V.byt j) = (i.toList == j.toList) := by
  rw [Bool.eq_iff_iff]
  cases i
  cases j
  simp

section
variable {X : Cx} {a b c : Expr} {ta tb tc : TE} {pos : Pos}
theorem fin_bl {pins : List (Addr × Obj)} {σ : St} {H : Hp} {s : Shared} {Q : VK} {k k' : Bool} (I : Inv X pins σ H s) (q : Q (.bl k) H) (e : k = k') : EP X pins σ Q (.bool k') s := by
  subst e
  exact ⟨.bl k, H, I, rfl, q⟩
theorem op_eq : OpR X (compareOp .Eq) rEq := by
  intro pins s σ H x y v u Q I rx ry h
  obtain ⟨hs, q⟩ := h
  cases x with
  | non =>
    cases rx
    cases y with
    | non => cases ry; exact PySem.EqNone.eq_none_none (fin_bl I q (by simp))
    | bl j => cases ry; exact PySem.EqNone.eq_none_bool (fin_bl I q (by simp))
    | int j => obtain ⟨t', rfl⟩ := ry; exact PySem.EqNone.eq_none_int (fin_bl I q (by simp))
    | str j => obtain ⟨t', rfl⟩ := ry; exact PySem.EqNone.eq_none_str (fin_bl I q (by simp))
    | _ => exact absurd (show false = true from hs) Bool.false_ne_true
  | bl i =>
    cases rx
    cases y with
    | non => cases ry; exact PySem.EqNone.eq_bool_none (fin_bl I q (by simp))
    | bl j => cases ry; exact eq_bool (fin_bl I q dec_bl)
    | str j => obtain ⟨t', rfl⟩ := ry; exact PySem.EqMixed.eq_bool_str (fin_bl I q (by simp))
    | _ => exact absurd (show false = true from hs) Bool.false_ne_true
  | int i =>
    obtain ⟨t, rfl⟩ := rx
    cases y with
    | non => cases ry; exact PySem.EqNone.eq_int_none (fin_bl I q (by simp))
    | int j => obtain ⟨t', rfl⟩ := ry; exact eq_int (fin_bl I q dec_int)
    | str j => obtain ⟨t', rfl⟩ := ry; exact PySem.EqMixed.eq_int_str (fin_bl I q (by simp))
    | _ => exact absurd (show false = true from hs) Bool.false_ne_true
  | str i =>
    obtain ⟨t, rfl⟩ := rx
    cases y with
    | non => cases ry; exact PySem.EqNone.eq_str_none (fin_bl I q (by simp))
    | bl j => cases ry; exact PySem.EqMixed.eq_str_bool (fin_bl I q (by simp))
    | int j => obtain ⟨t', rfl⟩ := ry; exact PySem.EqMixed.eq_str_int (fin_bl I q (by simp))
    | str j => obtain ⟨t', rfl⟩ := ry; exact eq_str (fin_bl I q dec_str)
    | _ => exact absurd (show false = true from hs) Bool.false_ne_true
  | byt i =>
    obtain ⟨t, rfl⟩ := rx
    cases y with
    | byt j => obtain ⟨t', rfl⟩ := ry; exact PySem.W.eq_bytes (fin_bl I q dec_byt)
    | _ => exact absurd (show false = true from hs) Bool.false_ne_true
  | _ => cases y <;> exact absurd (show false = true from hs) Bool.false_ne_true
theorem op_ne : OpR X (compareOp .NotEq) rNe := by
  intro pins s σ H x y v u Q I rx ry h
  obtain ⟨hs, q⟩ := h
  cases x with
  | non =>
    cases rx
    cases y with
    | non => cases ry; exact PySem.EqNone.ne_none_none (fin_bl I q (by simp))
    | bl j => cases ry; exact PySem.EqNone.ne_none_bool (fin_bl I q (by simp))
    | int j => obtain ⟨t', rfl⟩ := ry; exact PySem.EqNone.ne_none_int (fin_bl I q (by simp))
    | str j => obtain ⟨t', rfl⟩ := ry; exact PySem.EqNone.ne_none_str (fin_bl I q (by simp))
    | _ => exact absurd (show false = true from hs) Bool.false_ne_true
  | bl i =>
    cases rx
    cases y with
    | non => cases ry; exact PySem.EqNone.ne_bool_none (fin_bl I q (by simp))
    | bl j => cases ry; exact ne_bool (fin_bl I q (congrArg not dec_bl))
    | str j => obtain ⟨t', rfl⟩ := ry; exact PySem.EqMixed.ne_bool_str (fin_bl I q (by simp))
    | _ => exact absurd (show false = true from hs) Bool.false_ne_true
  | int i =>
    obtain ⟨t, rfl⟩ := rx
    cases y with
    | non => cases ry; exact PySem.EqNone.ne_int_none (fin_bl I q (by simp))
    | int j => obtain ⟨t', rfl⟩ := ry; exact ne_int (fin_bl I q (congrArg not dec_int))
    | str j => obtain ⟨t', rfl⟩ := ry; exact PySem.EqMixed.ne_int_str (fin_bl I q (by simp))
    | _ => exact absurd (show false = true from hs) Bool.false_ne_true
  | str i =>
    obtain ⟨t, rfl⟩ := rx
    cases y with
    | non => cases ry; exact PySem.EqNone.ne_str_none (fin_bl I q (by simp))
    | bl j => cases ry; exact PySem.EqMixed.ne_str_bool (fin_bl I q (by simp))
    | int j => obtain ⟨t', rfl⟩ := ry; exact PySem.EqMixed.ne_str_int (fin_bl I q (by simp))
    | str j => obtain ⟨t', rfl⟩ := ry; exact ne_str (fin_bl I q (congrArg not dec_str))
    | _ => exact absurd (show false = true from hs) Bool.false_ne_true
  | byt i =>
    obtain ⟨t, rfl⟩ := rx
    cases y with
    | byt j => obtain ⟨t', rfl⟩ := ry; exact PySem.W.ne_bytes (fin_bl I q (congrArg not dec_byt))
    | _ => exact absurd (show false = true from hs) Bool.false_ne_true
  | _ => cases y <;> exact absurd (show false = true from hs) Bool.false_ne_true

theorem op_lt : OpR X (compareOp .Lt) (rI0 fun i j => .bl (decide (i < j))) := opB0 fun _ _ _ _ _ _ _ q => lt_int q
theorem op_le : OpR X (compareOp .LtE) (rI0 fun i j => .bl (decide (i ≤ j))) := opB0 fun _ _ _ _ _ _ _ q => le_int q
theorem op_gt : OpR X (compareOp .Gt) (rI0 fun i j => .bl (decide (j < i))) := opB0 fun _ _ _ _ _ _ _ q => gt_int q
theorem op_isN : OpR X (compareOp .Is) (fun x y H Q => y = .non ∧ Q (.bl (decide (x = .non))) H) := by
  intro pins s σ H x y v u Q I rx ry h
  obtain ⟨rfl, q⟩ := h
  cases ry
  refine is_none_gen (fin_bl I q ?_)
  cases x <;> first
    | (cases rx; rfl)
    | (obtain ⟨t, rfl⟩ := rx; rfl)
theorem op_notN : OpR X (compareOp .IsNot) (fun x y H Q => y = .non ∧ Q (.bl (!decide (x = .non))) H) := by
  intro pins s σ H x y v u Q I rx ry h
  obtain ⟨rfl, q⟩ := h
  cases ry
  refine isnot_none_gen (fin_bl I q ?_)
  cases x <;> first
    | (cases rx; rfl)
    | (obtain ⟨t, rfl⟩ := rx; rfl)

def isObj : HO → Bool
  | .lst _ => true
  | .ins _ _ _ => true
  | _ => false
theorem nomark (b : Expr) {op : CmpOp} (h : op ≠ .In := by decide) (h2 : op ≠ .NotIn := by decide) : behindInMarks op b = false := by
  have e1 : (op == CmpOp.In) = false := by cases op <;> first | rfl | exact absurd rfl h
  have e2 : (op == CmpOp.NotIn) = false := by cases op <;> first | rfl | exact absurd rfl h2
  cases b <;> simp [behindInMarks, e1, e2]
theorem pe_cmpR {op : CmpOp} {r : R2} (ho : OpR X (compareOp op) r) (ha : PE X a ta) (hb : PE X b tb) (hm : behindInMarks op b = false) : PE X (.Compare a [op] [b] pos) (tOp r ta tb) := by
  intro pins s σ H Q I h
  exact wpAny_Compare1 (binT ha hb I h fun v u s2 x y H2 I2 rx ry q => ho pins s2 σ H2 x y v u Q I2 rx ry q) hm
def tTest (t : TE) : TT := fun σ H Q => t σ H fun x H' => ∃ k, x = .bl k ∧ Q k H'
theorem pt_cmpR {op : CmpOp} {r : R2} (ho : OpR X (compareOp op) r) (ha : PE X a ta) (hb : PE X b tb) (hm : behindInMarks op b = false) : PT X (.Compare a [op] [b] pos) (tTest (tOp r ta tb)) := by
  intro pins s σ H Q I h
  refine wpAny_isTrue_Compare1 (thn (ha pins s σ H _ I h) fun v s1 ⟨x, H1, I1, r1, q1⟩ => thn (hb pins s1 σ H1 _ I1 q1) fun u s2 ⟨y, H2, I2, r2, q2⟩ =>
    thn (ho pins s2 σ H2 x y v u _ I2 r1 r2 q2) fun c s3 ⟨z, H3, I3, r3, k, e, q3⟩ => ?_) hm
  subst e
  cases r3
  exact wpAny_truthy_bool ⟨H3, I3, q3⟩
def tChain (r r' : R2) (ta tb tc : TE) : TE := fun σ H Q => ta σ H fun x H1 => tb σ H1 fun y H2 => r x y H2 fun z H3 => ∃ k, z = .bl k ∧
  (if k = true then tc σ H3 fun w' H4 => r' y w' H4 Q else Q (.bl false) H3)
theorem pe_chain {op op' : CmpOp} {r r' : R2} (ho : OpR X (compareOp op) r) (ho' : OpR X (compareOp op') r') (ha : PE X a ta) (hb : PE X b tb) (hc : PE X c tc)
    (hm : lastMarks [op, op'] [b, c] = false := by with_unfolding_all rfl) : PE X (.Compare a [op, op'] [b, c] pos) (tChain r r' ta tb tc) := by
  intro pins s σ H Q I h
  refine Compare_chain (thn (ha pins s σ H _ I h) fun v s1 ⟨x, H1, I1, r1, q1⟩ => chain_link (thn (hb pins s1 σ H1 _ I1 q1) fun u s2 ⟨y, H2, I2, r2, q2⟩ =>
    thn (ho pins s2 σ H2 x y v u _ I2 r1 r2 q2) fun d s3 ⟨z, H3, I3, r3, k, e, q3⟩ => ?_)) hm
  subst e
  cases r3
  refine wpAny_truthy_bool ?_
  cases k with
  | false => exact ite_ff ⟨.bl false, H3, I3, rfl, q3⟩
  | true => exact ite_tt (chain_last (thn (hc pins s3 σ H3 _ I3 q3) fun w' s4 ⟨z', H4, I4, r4, q4⟩ => ho' pins s4 σ H4 y z' u w' Q I4 r2 r4 q4))
theorem pt_chain {op op' : CmpOp} {r r' : R2} (ho : OpR X (compareOp op) r) (ho' : OpR X (compareOp op') r') (ha : PE X a ta) (hb : PE X b tb) (hc : PE X c tc)
    (hm : lastMarks [op, op'] [b, c] = false := by with_unfolding_all rfl) : PT X (.Compare a [op, op'] [b, c] pos) (tTest (tChain r r' ta tb tc)) := by
  intro pins s σ H Q I h
  refine isTrue_chain (thn (ha pins s σ H _ I h) fun v s1 ⟨x, H1, I1, r1, q1⟩ => test_link (thn (hb pins s1 σ H1 _ I1 q1) fun u s2 ⟨y, H2, I2, r2, q2⟩ =>
    thn (ho pins s2 σ H2 x y v u _ I2 r1 r2 q2) fun d s3 ⟨z, H3, I3, r3, k, e, q3⟩ => ?_)) hm
  subst e
  cases r3
  refine wpAny_truthy_bool ?_
  cases k with
  | false =>
    obtain ⟨k', e', q'⟩ := q3
    cases e'
    exact ite_ff ⟨H3, I3, q'⟩
  | true =>
    refine ite_tt (test_last (thn (hc pins s3 σ H3 _ I3 q3) fun w' s4 ⟨z', H4, I4, r4, q4⟩ => thn (ho' pins s4 σ H4 y z' u w' _ I4 r2 r4 q4) fun d' s5 ⟨z2, H5, I5, r5, k2, e2, q5⟩ => ?_))
    subst e2
    cases r5
    exact wpAny_truthy_bool ⟨H5, I5, q5⟩

/-! ### truth -/
def TruV (K : PySem.W.Frag) (x : V) (H : Hp) (k : Bool) : Prop :=
  match x with
  | .non => k = false
  | .bl b => k = b
  | .int i => k = (i != 0)
  | .str y => y.length ≤ sizeLine ∧ k = ((y.length : Int) != 0)
  | .byt y => y.size ≤ sizeLine ∧ k = ((y.size : Int) != 0)
  | .ref p => (∃ xs, SqL K H p xs ∧ k = !xs.isEmpty) ∨ (∃ xs, SqT K H p xs ∧ k = !xs.isEmpty) ∨ ∃ kvs, H p = some (.dK kvs) ∧ k = !kvs.isEmpty
  | _ => False
theorem line63 : (sizeLine : Nat) < 2 ^ 63 := by rw [sizeLine_eq]; decide
/-! ### strs and bytes -/
def PlainIxT (b : Expr) : Prop := ∀ o i, subscripted b false o i = operate [o, i] (getItem o i)
/-! ### scalar builtins, by CallR -/
theorem vals1 {x : V} {us : List Value} (r : Vals [x] us) : ∃ u, us = [u] ∧ RelV x u := by
  cases r with
  | cons r1 r2 => cases r2; exact ⟨_, rfl, r1⟩
theorem call_int1 : CallR X (.type "int") (fun xs H Q => (∃ i, xs = [.int i] ∧ Q (.int i) H) ∨ ∃ k, xs = [.bl k] ∧ Q (.int (if k then 1 else 0)) H) := by
  intro pins s σ H xs us Q I r h
  rcases h with ⟨i, rfl, q⟩ | ⟨k, rfl, q⟩
  · obtain ⟨u, rfl, t, rfl⟩ := vals1 r
    exact call_int_int ⟨.int i, H, I, ⟨_, rfl⟩, q⟩
  · obtain ⟨u, rfl, r1⟩ := vals1 r
    cases r1
    exact call_int_bool ⟨.int (if k then 1 else 0), H, I.tok _, ⟨_, rfl⟩, q⟩
def LenV (K : PySem.W.Frag) (x : V) (H : Hp) (n : Nat) : Prop :=
  match x with
  | .str y => y.length ≤ sizeLine ∧ n = y.length
  | .byt y => y.size ≤ sizeLine ∧ n = y.size
  | .ref p => (∃ xs, SqL K H p xs ∧ n = xs.length) ∨ ∃ xs, SqT K H p xs ∧ n = xs.length
  | _ => False
end
end L2

namespace L2
open PySem PySem.Spec PyProof.Rows

/-! ### an instance, its attributes a map -/
structure ObjM (h : Heap) (x dx C : Addr) (mA : Str → Option Value) : Prop where
  obj : h.get? x = some (PySem.W.instObj C dx)
  ns : h.Ns1 dx mA
  ne : dx ≠ x

theorem lookIn_ns {h : Heap} {dx : Addr} {mA : Str → Option Value} (n : h.Ns1 dx mA) : ∃ od, h.get? dx = some od ∧ ∀ name, PySem.W.lookIn name od = some (mA name) := by
  obtain ⟨o, es, ep, ho, hd, hk, _, hm⟩ := n
  refine ⟨o, ho, fun name => ?_⟩
  have e := hm name
  unfold nsFind findBy at e
  rw [← Array.find?_toList] at e
  unfold PySem.W.lookIn
  rw [hd]
  dsimp only
  split
  · rename_i y q
    rw [q] at e
    exact congrArg some e
  · rename_i q
    rw [q] at e
    have a : es.toList.any (·.refKey) = false := by
      rw [List.any_eq_false]
      intro y hy
      obtain ⟨z, t, hkey⟩ := hk y (Array.mem_toList_iff.mp hy)
      simp [DictEntry.refKey, hkey]
    have a' : ¬ es.toList.any (·.refKey) = true := by rw [a]; exact Bool.false_ne_true
    rw [if_neg a']
    exact congrArg some e

theorem ObjM.look {h : Heap} {x dx C : Addr} {mA : Str → Option Value} (I : ObjM h x dx C mA) : ∃ od, PySem.W.InstAt h x (PySem.W.instObj C dx) C (some od) ∧ ∀ name, PySem.W.lookIn name od = some (mA name) :=
  let ⟨od, ho, hl⟩ := lookIn_ns I.ns
  ⟨od, ⟨I.obj, rfl, rfl, ho⟩, hl⟩

section
variable {prog : Program} {w : World} {A : Around} {E : Value → Shared → Prop} {s : Shared} {K : PySem.W.Frag} {x dx C f : Addr} {mA : Str → Option Value} {name : Str} {v : Value}

theorem get_map {expr : Bool} {Q : Value → Shared → Prop} (X : K.In s.heap) (I : ObjM s.heap x dx C mA) (hg : PySem.W.plainGet K C name = true) (hh : PySem.W.hasDictIn K C = true)
    (ha : PySem.W.findIn K (.ref C) name = some none) (hv : mA name = some v) (hv' : PySem.W.handedIn v = true) (h : Q v { s with toks := s.toks + 1 }) :
    wpAny (model prog w) A (getAttr (.ref x) name expr) Q E s := by
  obtain ⟨od, J, hl⟩ := I.look
  exact PySem.W.get_value X J (PySem.W.plainGet_of hg).1 (PySem.W.findObj_own hh ha rfl (by rw [hl, hv])) hv' h

theorem get_meth {pl : Sem Bool} {Q : Value × List Value → Shared → Prop} (X : K.In s.heap) (I : ObjM s.heap x dx C mA) (hg : PySem.W.plainGet K C name = true)
    (hf : PySem.W.findIn K (.ref C) name = some (some (.ref f))) (ht : PySem.W.isFn K (.ref f) = true) (hv : mA name = none) (h : Q (.ref f, [.ref x]) s) :
    wpAny (model prog w) A (getMethod (.ref x) name pl) Q E s := by
  obtain ⟨od, J, hl⟩ := I.look
  exact PySem.W.method_fn X J (PySem.W.plainGet_of hg).1 (PySem.W.plainGet_of hg).2 hf (beq_iff_eq.mp ht) (by show (PySem.W.lookIn name od).map (·.isSome) = some false; rw [hl, hv]; rfl) h

theorem set_map {ns : List Str} {Q : Unit → Shared → Prop} (X : K.In s.heap) (I : ObjM s.heap x dx C mA)
    (hs : PySem.W.findIn K (.ref C) "__setattr__" = some (some (.builtin "object.__setattr__"))) (hp : PySem.W.plainOver K C = true) (ht : PySem.W.takerIn K C name = some none) (hh : PySem.W.hasDictIn K C = true)
    (hw : PySem.Within mA ns) (hsz : ns.length ≤ sizeLine)
    (h : ∀ h', ObjM h' x dx C (fun y => if y = name then some v else mA y) → Heap.SameBut dx s.heap h' → Q () { s with heap := h', toks := s.toks + 2 }) :
    wpAny (model prog w) A (setAttr (.ref x) name v) Q E s := by
  obtain ⟨od, J, hl⟩ := I.look
  refine PySem.W.set_plain X J hs (PySem.W.osa_open (s := { s with toks := s.toks + 1 }) (r := none) X J hp ht fun b => ?_)
  obtain ⟨cd, hc, hd'⟩ := PySem.W.any_some hh
  have hx : s.heap.get? x = some ⟨.ref C, some dx, .plain, #[]⟩ := I.obj
  refine wpAny_bind (wpAny_pure (wpAny_bind (wpAny_bind (wpAny_loadPart hx (wpAny_bind (PySem.W.Looks.here (s := { s with toks := s.toks + 1 }) (PySem.W.looks_clsIn X hc) ?_))))))
  rw [hd']
  refine wpAny_pure (a := some dx) (wpAny_bind (wpAny_pure (wpAny_bind ?_)))
  refine wpAny_nsSet1 (s := { s with toks := s.toks + 1 }) I.ns fun h' hn2 hs2 => ?_
  obtain ⟨oD, esD, epD, hoD, hdD, hcD⟩ := hn2.count (PySem.Within.cons name v hw)
  refine wpAny_bind (wpAny_lookBehind hoD (by rw [hdD]; exact pastItsLine_dict (Nat.le_trans hcD (by rw [List.length_cons]; omega))) ?_)
  exact wpAny_pure (h _ ⟨(hs2.2 _ (Ne.symm I.ne)).trans I.obj, hn2, I.ne⟩ hs2)

theorem make_map {R : Result → Shared → Prop} {vs : List Value} {kw : List (Str × Value)} (X : K.In s.heap) (hm : PySem.W.makesIn K C = true)
    (hi : PySem.W.findIn K (.ref C) "__init__" = some (some (.ref f))) (hf : PySem.W.typeIn K (.ref f) = some (.type "function"))
    (h : codeAny (model prog w) (A.under (.builtin "type.__call__" ⟨.ref C :: vs, kw⟩)) (.call (.ref f) ⟨.ref (s.heap.objs.size + 1) :: vs, kw⟩) (PySem.W.InitBack (s.heap.objs.size + 1) R)
      { s with heap := (s.heap.push PySem.W.emptyDict).push (PySem.W.instObj C s.heap.objs.size) }) :
    codeAny (model prog w) A (.call (.ref C) ⟨vs, kw⟩) R s := by
  obtain ⟨hh, g, d, t, os⟩ := s
  exact PySem.W.make_core (PySem.W.makes_of X hm) (PySem.W.looks_findIn X hi) (fun self => PySem.W.bind_fn X self hf) (.inl rfl) h
end

/-! ### the attributes as a list of pairs -/
def putF (f : Str) (v : V) : List (Str × V) → List (Str × V)
  | [] => [(f, v)]
  | (g, x) :: r => if g = f then (g, v) :: r else (g, x) :: putF f v r
theorem lookup_putF (f g : Str) (v : V) : ∀ fs : List (Str × V), (putF f v fs).lookup g = if g = f then some v else fs.lookup g
  | [] => by
    show List.lookup g [(f, v)] = _
    by_cases h : g = f
    · have hb : (g == f) = true := beq_iff_eq.mpr h
      simp only [List.lookup, hb, if_pos h]
    · have hb : (g == f) = false := beq_eq_false_iff_ne.mpr h
      simp only [List.lookup, hb, if_neg h]
  | (k, x) :: r => by
    have ih := lookup_putF f g v r
    rw [show putF f v ((k, x) :: r) = (if k = f then (k, v) :: r else (k, x) :: putF f v r) from rfl]
    by_cases hk : k = f
    · rw [if_pos hk]
      by_cases h : g = k
      · have hb : (g == k) = true := beq_iff_eq.mpr h
        simp only [List.lookup, hb, if_pos (h.trans hk)]
      · have hb : (g == k) = false := beq_eq_false_iff_ne.mpr h
        simp only [List.lookup, hb, if_neg (fun e : g = f => h (e.trans hk.symm))]
    · rw [if_neg hk]
      by_cases h : g = k
      · have hb : (g == k) = true := beq_iff_eq.mpr h
        simp only [List.lookup, hb, if_neg (fun e : g = f => hk (h.symm.trans e))]
      · have hb : (g == k) = false := beq_eq_false_iff_ne.mpr h
        simp only [List.lookup, hb]
        exact ih
theorem keys_putF (f : Str) (v : V) : ∀ fs : List (Str × V), f ∈ (putF f v fs).map (·.1) ∧ ∀ g, g ∈ fs.map (·.1) → g ∈ (putF f v fs).map (·.1)
  | [] => ⟨by simp [putF], fun g h => by simp at h⟩
  | (k, x) :: r => by
    obtain ⟨i1, i2⟩ := keys_putF f v r
    rw [show putF f v ((k, x) :: r) = (if k = f then (k, v) :: r else (k, x) :: putF f v r) from rfl]
    by_cases hk : k = f
    · rw [if_pos hk]
      subst hk
      exact ⟨by simp, fun g h => by simpa using h⟩
    · rw [if_neg hk]
      refine ⟨?_, fun g h => ?_⟩
      · rw [List.map_cons]
        exact List.mem_cons_of_mem _ i1
      · rw [List.map_cons] at h ⊢
        rcases List.mem_cons.mp h with e | e
        · exact List.mem_cons.mpr (.inl e)
        · exact List.mem_cons_of_mem _ (i2 g e)
theorem length_putF (f : Str) (v : V) : ∀ fs : List (Str × V), (putF f v fs).length ≤ fs.length + 1
  | [] => by simp [putF]
  | (k, x) :: r => by
    have ih := length_putF f v r
    rw [show putF f v ((k, x) :: r) = (if k = f then (k, v) :: r else (k, x) :: putF f v r) from rfl]
    by_cases hk : k = f
    · rw [if_pos hk, List.length_cons, List.length_cons]; omega
    · rw [if_neg hk, List.length_cons, List.length_cons]; omega

theorem RelO.some_of {v : V} {o : Option Value} (r : RelO (some v) o) : ∃ u, o = some u ∧ RelV v u := by
  cases o with
  | none => exact (show False from r).elim
  | some u => exact ⟨u, rfl, r⟩
theorem RelO.none_of {o : Option Value} (r : RelO none o) : o = none := by
  cases o with
  | none => rfl
  | some u => exact (show False from r).elim
theorem handed_of {v : V} {u : Value} (r : RelV v u) : PySem.W.handedIn u = true := by
  cases v with
  | non => cases (show u = Value.none from r); rfl
  | bl b => cases (show u = Value.bool b from r); rfl
  | int i => obtain ⟨t, e⟩ := (show ∃ t, u = Value.int i t from r); cases e; rfl
  | str x => obtain ⟨t, e⟩ := (show ∃ t, u = Value.str x t from r); cases e; rfl
  | byt b => obtain ⟨t, e⟩ := (show ∃ t, u = Value.bytes b t from r); cases e; rfl
  | flt b => obtain ⟨t, e⟩ := (show ∃ t, u = Value.float b t from r); cases e; rfl
  | ref a => cases (show u = Value.ref a from r); rfl
  | ty n => cases (show u = Value.type n from r); rfl

section
variable {P : Program} {w : World} {H H' : Hp} {h h' : Heap} {a C dx : Addr} {fs fs' : List (Str × V)}
theorem ins_get (hok : HOk P w H h) (e : H a = some (.ins C dx fs)) : ∃ mA, ObjM h a dx C mA ∧ (∀ f, RelO (fs.lookup f) (mA f)) ∧ PySem.Within mA (fs.map (·.1)) ∧ fs.length ≤ 1000 ∧ H dx = some (.own a) := by
  obtain ⟨d, z, ne, ob, mA, n, r, q⟩ := (show ObjOk P w H h a (.ins C dx fs) from hok a _ e)
  exact ⟨mA, ⟨ob, n, ne⟩, r, q, z, d⟩
end

/-! ### what of the text a class must have -/
structure Cls (K : PySem.W.Frag) (C : Addr) : Prop where
  pg : PySem.W.plainGet K C Str.empty = true
  hd : PySem.W.hasDictIn K C = true
  po : PySem.W.plainOver K C = true
  sa : PySem.W.findIn K (.ref C) "__setattr__" = some (some (.builtin "object.__setattr__"))
theorem Cls.get {K : PySem.W.Frag} {C : Addr} (c : Cls K C) (f : Str) : PySem.W.plainGet K C f = true := c.pg
def NoAttr (K : PySem.W.Frag) (C : Addr) (f : Str) : Prop := PySem.W.findIn K (.ref C) f = some none
theorem NoAttr.taker {K : PySem.W.Frag} {C : Addr} {f : Str} (n : NoAttr K C f) : PySem.W.takerIn K C f = some none := by
  unfold PySem.W.takerIn
  rw [show PySem.W.findIn K (.ref C) f = some none from n]
  rfl
structure Con (K : PySem.W.Frag) (C : Addr) (f : Str) (v : V) (u : Value) : Prop where
  at_ : PySem.W.findIn K (.ref C) f = some (some u)
  rel : RelV v u
  get : PySem.W.specialIn K u "__get__" = some none
  cp : PySem.W.copiedNames.contains f = false
structure Meth (K : PySem.W.Frag) (C : Addr) (m : Str) (f : Addr) : Prop where
  at_ : PySem.W.findIn K (.ref C) m = some (some (.ref f))
  fn : PySem.W.isFn K (.ref f) = true
  kp : PySem.W.keepIn K (.ref f) = true

section
variable {X : Cx} {pins : List (Addr × Obj)} {σ : St} {H : Hp} {s : Shared} {a C dx : Addr} {fs : List (Str × V)} {f : Str} {v : V} {A : Around} {E : Value → Shared → Prop}

theorem getattr_ok {b : Bool} {Q : Value → Shared → Prop} (I : Inv X pins σ H s) (e : H a = some (.ins C dx fs)) (c : Cls X.K C) (n : NoAttr X.K C f) (l : fs.lookup f = some v)
    (h : ∀ u s', Inv X pins σ H s' → RelV v u → Q u s') : wpAny (model X.prog X.w) A (getAttr (.ref a) f b) Q E s := by
  obtain ⟨mA, O, r, _, _, _⟩ := ins_get I.hok e
  obtain ⟨u, hu, ru⟩ := RelO.some_of (v := v) (o := mA f) (by rw [← l]; exact r f)
  exact get_map I.kIn O (c.get f) c.hd n hu (handed_of ru) (h u _ (I.tok _) ru)

theorem getmeth_ok {m : Str} {g : Addr} {pl : Sem Bool} {Q : Value × List Value → Shared → Prop} (I : Inv X pins σ H s) (e : H a = some (.ins C dx fs)) (c : Cls X.K C) (k : Meth X.K C m g) (l : fs.lookup m = none)
    (h : Q (.ref g, [.ref a]) s) : wpAny (model X.prog X.w) A (getMethod (.ref a) m pl) Q E s := by
  obtain ⟨mA, O, r, _, _, _⟩ := ins_get I.hok e
  have hn : mA m = none := RelO.none_of (by rw [← l]; exact r m)
  exact get_meth I.kIn O (c.get m) k.at_ k.fn hn h

theorem setattr_ok {y : V} {u : Value} {Q : Unit → Shared → Prop} (I : Inv X pins σ H s) (e : H a = some (.ins C dx fs)) (c : Cls X.K C) (n : NoAttr X.K C f) (hl : fs.length < 1000) (ry : RelV y u)
    (h : ∀ s', Inv X pins σ (upd H a (.ins C dx (putF f y fs))) s' → Q () s') : wpAny (model X.prog X.w) A (setAttr (.ref a) f u) Q E s := by
  obtain ⟨mA, O, r, wi, _, ho⟩ := ins_get I.hok e
  have hz : (fs.map (·.1)).length ≤ sizeLine := by rw [List.length_map, sizeLine_eq]; omega
  refine set_map I.kIn O c.sa c.po n.taker c.hd wi hz fun h' O' sb => h _ ?_
  have hd : ∃ o, h'.get? dx = some o := let ⟨o, _, _, e', _⟩ := O'.ns; ⟨o, e'⟩
  refine I.write (x := a) (e := dx) (by rw [e]; exact True.intro) (.inr ho) (fun b q hb z => (sb.2 b hb).trans z) hd ?_
  refine ⟨by rw [upd_ne O.ne]; exact ho, ?_, O.ne, O'.obj, _, O'.ns, fun g => ?_, fun g hg => ?_⟩
  · have := length_putF f y fs; omega
  · show RelO ((putF f y fs).lookup g) (if g = f then some u else mA g)
    rw [lookup_putF]
    by_cases q : g = f
    · rw [if_pos q, if_pos q]; exact ry
    · rw [if_neg q, if_neg q]; exact r g
  · by_cases q : g = f
    · rw [q]; exact (keys_putF f y fs).1
    · refine (keys_putF f y fs).2 g (wi g fun z => hg ?_)
      show (if g = f then some u else mA g) = none
      rw [if_neg q]; exact z

theorem Inv.made (I : Inv X pins σ H s) : Inv X pins σ (upd (upd H s.heap.objs.size (.own (s.heap.objs.size + 1))) (s.heap.objs.size + 1) (.ins C s.heap.objs.size []))
    { s with heap := (s.heap.push PySem.W.emptyDict).push (PySem.W.instObj C s.heap.objs.size) } := by
  have e1 : (s.heap.push PySem.W.emptyDict).get? s.heap.objs.size = some PySem.W.emptyDict := Heap.get?_push_size s.heap rfl
  have e2 : ((s.heap.push PySem.W.emptyDict).push (PySem.W.instObj C s.heap.objs.size)).get? (s.heap.objs.size + 1) = some (PySem.W.instObj C s.heap.objs.size) := by
    have := Heap.get?_push_size (s.heap.push PySem.W.emptyDict) (o := PySem.W.instObj C s.heap.objs.size) rfl
    rwa [Heap.size_push] at this
  have e3 : (s.heap.push PySem.W.emptyDict).Ns s.heap.objs.size (fun _ => none) := ⟨PySem.W.emptyDict, #[], _, e1, rfl, (fun e he => absurd he (by simp)), fun _ => rfl⟩
  have I1 := I.laid (a := s.heap.objs.size) (o := .own (s.heap.objs.size + 1)) (h' := s.heap.push PySem.W.emptyDict) (t' := s.toks) (fun b u q => Heap.get?_push_of_some _ q) (Nat.le_refl _) ⟨_, e1⟩
  refine I1.laid (a := s.heap.objs.size + 1) (o := .ins C s.heap.objs.size []) (t' := s.toks) (fun b u q => Heap.get?_push_of_some _ q) (Nat.le_of_eq (Heap.size_push _ _)) ?_
  have ne : s.heap.objs.size ≠ s.heap.objs.size + 1 := Nat.ne_of_lt (Nat.lt_succ_self _)
  refine ⟨by rw [upd_ne ne, upd_same], Nat.zero_le _, ne, e2, fun _ => none, (Heap.Ns1.of_empty e3).at fun o q => Heap.get?_push_of_some _ q, fun _ => True.intro, fun y hy => absurd rfl hy⟩

theorem attr_of {prog : Program} {w : World} {env : Env} {e : Expr} {f : Str} {pos : Pos} {s : Shared} {Q : Value → Shared → Prop} (hb : attributeBase e f env (eval e env) = eval e env)
    (h : wpAny (model prog w) A (eval e env) (fun o s₁ => wpAny (model prog w) A (getAttr o f true) Q E s₁) E s) : wpAny (model prog w) A (eval (.Attribute e f pos) env) Q E s :=
  Attribute_any_ h (by rw [arm_eval_Attribute, hb])
end

/-! ### readings and rules -/
def tFld (K : PySem.W.Frag) (ta : TE) (f : Str) : TE := fun σ H Q => ta σ H fun x H1 => ∃ a C dx fs v, x = .ref a ∧ H1 a = some (.ins C dx fs) ∧ Cls K C ∧ NoAttr K C f ∧ fs.lookup f = some v ∧ Q v H1
def tCon (K : PySem.W.Frag) (ta : TE) (f : Str) : TE := fun σ H Q => ta σ H fun x H1 => ∃ a C dx fs v u, x = .ref a ∧ H1 a = some (.ins C dx fs) ∧ Cls K C ∧ Con K C f v u ∧ fs.lookup f = none ∧ Q v H1
def sFld (K : PySem.W.Frag) (ta tv : TE) (f : Str) : TS := fun D σ H => tv σ H fun y H1 => ta σ H1 fun x H2 => ∃ a C dx fs, x = .ref a ∧ H2 a = some (.ins C dx fs) ∧ Cls K C ∧ NoAttr K C f ∧ fs.length < 1000 ∧
  D.nx σ (upd H2 a (.ins C dx (putF f y fs)))
def InOp (X : Cx) (op : Operator) (rd : V → V → Hp → VK → Prop) : Prop :=
  ∀ (pins : List (Addr × Obj)) (s : Shared) (σ : St) (H : Hp) (x y : V) (u v : Value) (Q : VK), Inv X pins σ H s → RelV x u → RelV y v → rd x y H Q → wpAny (model X.prog X.w) X.A (inplaceOp op u v) (EP X pins σ Q) X.xe s
def sFldAug (K : PySem.W.Frag) (ta tv : TE) (rd : V → V → Hp → VK → Prop) (f : Str) : TS := fun D σ H => ta σ H fun x H1 => ∃ a C dx fs v, x = .ref a ∧ H1 a = some (.ins C dx fs) ∧ Cls K C ∧ NoAttr K C f ∧ fs.lookup f = some v ∧
  tv σ H1 fun y H2 => rd v y H2 fun z H3 => ∃ dx' fs', H3 a = some (.ins C dx' fs') ∧ fs'.length < 1000 ∧ D.nx σ (upd H3 a (.ins C dx' (putF f z fs')))

section
variable {X : Cx} {o e value : Expr} {f : Str} {pos pos' tpos : Pos} {ta tv : TE}
theorem pe_fld (he : PE X e ta) (hb : attributeBase e f X.env (eval e X.env) = eval e X.env) : PE X (.Attribute e f pos) (tFld X.K ta f) := by
  intro pins s σ H Q I h
  refine attr_of hb (thn (he pins s σ H _ I h) fun u s1 ⟨x, H1, I1, rx, a, C, dx, fs, v, ex, ea, c, n, l, q⟩ => ?_)
  subst ex
  obtain rfl : u = Value.ref a := rx
  exact getattr_ok I1 ea c n l fun u' s2 I2 ru => ⟨v, H1, I2, ru, q⟩
theorem ps_fld (ha : PE X o ta) (hv : PE X value tv) (hs : swapsWith value (some (.Attribute o f pos')) pos.line X.env = pure false) : PS X (.Assign [.Attribute o f pos'] value pos) (sFld X.K ta tv f) := by
  intro pins s σ H D I h
  refine plainObj_wpAny_Assign_Attribute (thn (hv pins s σ H _ I h) fun u s1 ⟨y, H1, I1, ry, q⟩ => thn (ha pins s1 σ H1 _ I1 q) fun ov s2 ⟨x, H2, I2, rx, a, C, dx, fs, ex, ea, c, n, l, q2⟩ => ?_) hs
  subst ex
  obtain rfl : ov = Value.ref a := rx
  exact setattr_ok I2 ea c n l ry fun s3 I3 => ⟨σ, _, I3, q2⟩
def rAdd : V → V → Hp → VK → Prop := fun x y H Q => ∃ i j, x = .int i ∧ y = .int j ∧ Q (.int (i + j)) H
def rSub : V → V → Hp → VK → Prop := fun x y H Q => ∃ i j, x = .int i ∧ y = .int j ∧ Q (.int (i - j)) H
end

/-! ### isinstance -/
section
variable {X : Cx} {pins : List (Addr × Obj)} {σ : St} {H : Hp} {s : Shared} {A : Around} {E : Value → Shared → Prop} {Q : Value → Shared → Prop} {c : Value} {b : Bool}
inductive TyOf (K : PySem.W.Frag) (H : Hp) : V → Value → Prop where
  | non : TyOf K H .non (.type "NoneType")
  | bl (x : Bool) : TyOf K H (.bl x) (.type "bool")
  | int (i : Int) : TyOf K H (.int i) (.type "int")
  | str (x : Str) : TyOf K H (.str x) (.type "str")
  | flt (x : UInt64) : TyOf K H (.flt x) (.type "float")
  | lst {a : Addr} {xs : List V} (e : H a = some (.lst xs)) : TyOf K H (.ref a) (.type "list")
  | frz {a : Addr} {o : Obj} {xs : List V} (e : H a = some (.frz o (.lst xs))) : TyOf K H (.ref a) (.type "list")
  | tup {a : Addr} {xs : List V} (e : H a = some (.tup xs)) : TyOf K H (.ref a) (.type "tuple")
  | dK {a : Addr} {kvs : List (Key × V)} (e : H a = some (.dK kvs)) : TyOf K H (.ref a) (.type "dict")
  | dT {a : Addr} {kvs : List (List Key × V)} (e : H a = some (.dT kvs)) : TyOf K H (.ref a) (.type "dict")
  | ins {a C dx : Addr} {fs : List (Str × V)} (e : H a = some (.ins C dx fs)) (cl : Cls K C) (ha : PySem.W.findIn K (.ref C) "__class__" = some (some (.builtin "object.__class__")))
      (hn : PySem.W.specialIn K (.builtin "object.__class__") "__get__" = some (some (.builtin "getset_descriptor.__get__"))) (htk : PySem.W.takesIn K (.builtin "object.__class__") = some true)
      (hm : PySem.W.mroIn K C (.type "object") = some true) : TyOf K H (.ref a) (.ref C)
theorem isinst_ok {x : V} {u t : Value} (I : Inv X pins σ H s) (rx : RelV x u) (ty : TyOf X.K H x t) (e : PySem.W.kitOne X.K t c = some b) (h : ∀ tk, Q (.bool b) { s with toks := tk }) :
    wpAny (model X.prog X.w) A (call (.builtin "isinstance") [u, c]) Q E s := by
  cases ty with
  | non => cases (show u = Value.none from rx); exact PySem.W.kia_one PySem.W.kitx_none I.kIn True.intro e (fun z => nomatch z) h
  | bl y => cases (show u = Value.bool y from rx); exact PySem.W.kia_one PySem.W.kitx_bool I.kIn True.intro e (fun z => nomatch z) h
  | int i => obtain ⟨t, q⟩ := (show ∃ t, u = Value.int i t from rx); cases q; exact PySem.W.kia_one PySem.W.kitx_int I.kIn True.intro e (fun z => nomatch z) h
  | str y => obtain ⟨t, q⟩ := (show ∃ t, u = Value.str y t from rx); cases q; exact PySem.W.kia_one PySem.W.kitx_str I.kIn True.intro e (fun z => nomatch z) h
  | flt y => obtain ⟨t, q⟩ := (show ∃ t, u = Value.float y t from rx); cases q; exact PySem.W.kia_one PySem.W.kitx_float I.kIn True.intro e (fun z => nomatch z) h
  | @lst a xs ea =>
    cases (show u = Value.ref a from rx)
    obtain ⟨_, _, n, _, h1⟩ := (show ObjOk X.prog X.w H s.heap a (.lst xs) from I.hok a _ ea)
    exact PySem.W.kia_one PySem.W.kitx_list I.kIn ⟨_, h1, rfl⟩ e (fun z => nomatch z) h
  | @frz a ob xs ea =>
    cases (show u = Value.ref a from rx)
    obtain ⟨_, _, _, n, _, h1⟩ := (show ObjOk X.prog X.w H s.heap a (.frz ob (.lst xs)) from I.hok a _ ea)
    exact PySem.W.kia_one PySem.W.kitx_list I.kIn ⟨_, h1, rfl⟩ e (fun z => nomatch z) h
  | @tup a xs ea =>
    cases (show u = Value.ref a from rx)
    obtain ⟨_, _, _, p⟩ := (show ObjOk X.prog X.w H s.heap a (.tup xs) from I.hok a _ ea)
    obtain ⟨o, h1, h2, _⟩ := p
    exact PySem.W.kia_one PySem.W.kitx_tuple I.kIn ⟨o, h1, h2⟩ e (fun z => nomatch z) h
  | @dK a kvs ea =>
    cases (show u = Value.ref a from rx)
    obtain ⟨_, _, vs, _, p⟩ := (show ObjOk X.prog X.w H s.heap a (.dK kvs) from I.hok a _ ea)
    obtain ⟨o, es, ep, h1, h2, _⟩ := p
    exact PySem.W.kia_one PySem.W.kitx_dict I.kIn ⟨o, h1, h2.1⟩ e (fun z => nomatch z) h
  | @dT a kvs ea =>
    cases (show u = Value.ref a from rx)
    obtain ⟨_, _, xs, _, o, es, ep, h1, h2, _⟩ := (show ObjOk X.prog X.w H s.heap a (.dT kvs) from I.hok a _ ea)
    exact PySem.W.kia_one PySem.W.kitx_dict I.kIn ⟨o, h1, h2.1⟩ e (fun z => nomatch z) h
  | @ins a C dx fs ea cl ha hn htk hm =>
    cases (show u = Value.ref a from rx)
    obtain ⟨mA, O, _⟩ := ins_get I.hok ea
    obtain ⟨od, J, _⟩ := O.look
    exact PySem.W.kia_one (PySem.W.kitx_own (cl.get _) cl.hd ha hn htk hm) I.kIn J e (fun z => nomatch z) h
end
end L2

namespace L2
open PySem PySem.Spec PyProof.Rows

/-! ### room -/
structure Room (k : Nat) (A : Around) : Prop where
  hd : A.handled = none
  dp : A.depth + 3 * k + 5 < recursionLimit
  un : A.units + 16 * k + 200 < cLine
theorem Room.mono {j k : Nat} {A : Around} (r : Room k A) (h : j ≤ k) : Room j A := ⟨r.hd, by have := r.dp; omega, by have := r.un; omega⟩
theorem Room.deeper {k : Nat} {A : Around} (r : Room (k + 1) A) (env : Env) : Room k (A.deeper env) :=
  ⟨r.hd, by have := r.dp; show A.depth + 1 + 3 * k + 5 < _; omega, by have := r.un; show A.units + 3 + 16 * k + 200 < _; omega⟩
theorem make_depth {A : Around} {C : Addr} {us : List Value} {kw : List (Str × Value)} : (A.under (.builtin "type.__call__" ⟨.ref C :: us, kw⟩)).depth = A.depth + 1 := by
  first | rfl | simp [Around.under, Code.weight, Code.isCreation, Code.isGuard, Code.isCaller, Code.frames, Code.isFrame, guardIds]
theorem make_units {A : Around} {C : Addr} {us : List Value} {kw : List (Str × Value)} : (A.under (.builtin "type.__call__" ⟨.ref C :: us, kw⟩)).units = A.units + 1 := by
  first | rfl | simp [Around.under, Code.cUnits, Code.frames, Code.isFrame]
theorem Room.make {k : Nat} {A : Around} (r : Room (k + 1) A) (C : Addr) (us : List Value) (kw : List (Str × Value)) : Room k (A.under (.builtin "type.__call__" ⟨.ref C :: us, kw⟩)) :=
  ⟨r.hd, by have := r.dp; rw [make_depth]; omega, by have := r.un; rw [make_units]; omega⟩
theorem Room.depth {k : Nat} {A : Around} (r : Room k A) : A.depth < recursionLimit := by have := r.dp; omega
theorem Room.units {k : Nat} {A : Around} (r : Room k A) : A.units + 64 < cLine := by have := r.un; omega
/-! ### argument lists and displays -/
def tNil : TA := fun _ H Q => Q [] H
def tCons (ta : TE) (tr : TA) : TA := fun σ H Q => ta σ H fun x H1 => tr σ H1 fun xs H2 => Q (x :: xs) H2
section
variable {X : Cx} {e : Expr} {es : List Expr} {te : TE} {t : TA} {pos : Pos}
theorem pa_nil : PA X [] tNil := fun _ _ _ _ H Q I h => Calls.spliced_nil ⟨[], H, I, .nil, h⟩
theorem pa_cons (ha : PE X e te) (hr : PA X es t) (hs : starEach (e :: es) X.env = (false, eval e X.env) :: starEach es X.env := by rfl) : PA X (e :: es) (tCons te t) := by
  intro pos pins s σ H Q I h
  rw [hs]
  show wpAny _ _ (spliced ((false, eval e X.env) :: backTo pos (starEach es X.env))) _ _ s
  refine Calls.spliced_cons (thn (ha pins s σ H _ I h) fun u s1 ⟨x, H1, I1, r1, q1⟩ => ?_)
  exact thn (hr pos pins s1 σ H1 _ I1 q1) fun us s2 ⟨xs, H2, I2, r2, q2⟩ => ⟨x :: xs, H2, I2, .cons r1 r2, q2⟩

def tTup (t : TA) : TE := fun σ H Q => t σ H fun xs H1 => xs.length ≤ sizeLine ∧ ∀ p, H1 p = none → Q (.ref p) (upd H1 p (.tup xs))
def tLst (t : TA) : TE := fun σ H Q => t σ H fun xs H1 => xs.length ≤ sizeLine ∧ ∀ p, H1 p = none → Q (.ref p) (upd H1 p (.lst xs))
theorem pe_tup {x1} (h : PA X es t) : PE X (.Tuple es x1 pos) (tTup t) := by
  intro pins s σ H Q I hq
  refine wpAny_Tuple_spliced (thn (h pos pins s σ H _ I hq) fun us s1 ⟨xs, H1, I1, r, z, q⟩ => ⟨by rw [← r.length]; exact z, ?_⟩)
  have hf : H1 s1.heap.objs.size = none := I1.hok.fresh (Nat.le_refl _)
  refine ⟨.ref s1.heap.objs.size, upd H1 s1.heap.objs.size (.tup xs), I1.laid (t' := s1.toks) (fun b u e => Heap.get?_push_of_some _ e) (Nat.le_refl _) ?_, rfl, q _ hf⟩
  exact ⟨z, us, r, ⟨_, Heap.get?_push_size _ rfl, rfl, _, rfl⟩⟩
theorem pe_lst (h : PA X es t) : PE X (.List es pos) (tLst t) := by
  intro pins s σ H Q I hq
  refine wpAny_List_spliced (thn (h pos pins s σ H _ I hq) fun us s1 ⟨xs, H1, I1, r, z, q⟩ => ⟨by rw [← r.length]; exact z, ?_⟩)
  have hf : H1 s1.heap.objs.size = none := I1.hok.fresh (Nat.le_refl _)
  refine ⟨.ref s1.heap.objs.size, upd H1 s1.heap.objs.size (.lst xs), I1.laid (t' := s1.toks) (fun b u e => Heap.get?_push_of_some _ e) (Nat.le_refl _) ?_, rfl, q _ hf⟩
  exact ⟨z, us, 0, r, Heap.get?_push_size _ rfl⟩
end

/-! ### what a def promises -/
abbrev Sp := List V → Hp → VK → XK → Prop
abbrev CXT := List Env → Hp → Shared → XK → Value → Shared → Prop

structure Env0 (P : Program) (w : World) (K : PySem.W.Frag) (mg : Str → Option Value) (base : Heap) (A : Around) (outer : List Env) (s : Shared) (H : Hp) : Prop where
  frames : A.frames = some outer
  mod : Mod K mg base
  bs : ∀ b o, base.get? b = some o → s.heap.get? b = some o ∧ H b = none
  bsz : base.objs.size ≤ s.heap.objs.size
  funs : s.heap.FunFrames base outer
  frf : ∀ b ∈ frs outer, H b = none
  hok : HOk P w H s.heap
  bare : AllBare s.gens
def CE (outer : List Env) (P : Program) (w : World) (H : Hp) (s : Shared) (Q : VK) (u : Value) (s' : Shared) : Prop :=
  ∃ v H', s'.os = s.os ∧ AllBare s'.gens ∧ Un (frs outer) [] H H' s.heap s'.heap ∧ HOk P w H' s'.heap ∧ RelV v u ∧ Q v H'
def CR (CX : CXT) (outer : List Env) (P : Program) (w : World) (H : Hp) (s : Shared) (Q : VK) (E : XK) (r : Result) (s' : Shared) : Prop :=
  match r with
  | .ok (.ret u) => CE outer P w H s Q u s'
  | .ok _ => False
  | .error e => CX outer H s E e s'
structure FnOk (P : Program) (w : World) (K : PySem.W.Frag) (mg : Str → Option Value) (base : Heap) (CX : CXT) (k : Nat) (f : Addr) (fd : FuncData) (ps : List Str) (sp : Sp) : Prop where
  len : ∀ vs H Q E, sp vs H Q E → vs.length = ps.length
  run : ∀ (A : Around) (outer : List Env) (s : Shared) (H : Hp) (args : Args) (us : List Value) (vs : List V) (Q : VK) (E : XK), Room k A → Env0 P w K mg base A outer s H → BindsTo s fd args (ps.zip us) → Vals vs us → sp vs H Q E →
    codeAny (model P w) A (.call (.ref f) args) (CR CX outer P w H s Q E) s
theorem Env0.make {P : Program} {w : World} {K : PySem.W.Frag} {mg : Str → Option Value} {base : Heap} {A : Around} {outer : List Env} {s : Shared} {H : Hp} (e : Env0 P w K mg base A outer s H) (C : Addr) (us : List Value) (kw : List (Str × Value)) :
    Env0 P w K mg base (A.under (.builtin "type.__call__" ⟨.ref C :: us, kw⟩)) outer s H := ⟨by first | exact e.frames | (simpa [Around.under, Code.envs, Code.isFrame, pushEnvs] using e.frames), e.mod, e.bs, e.bsz, e.funs, e.frf, e.hok, e.bare⟩
section
variable {X : Cx} {pins : List (Addr × Obj)} {σ : St} {H : Hp} {s s' : Shared}
theorem Inv.env0 (I : Inv X pins σ H s) : Env0 X.prog X.w X.K X.mg X.base X.A X.stack s H :=
  ⟨I.ok.frames, I.ok.mod, I.bs, Nat.le_trans I.ok.bsz I.sz, I.stack, I.stkFree, I.hok, I.bare⟩
theorem Inv.after {Q : VK} {u : Value} (I : Inv X pins σ H s) (h : CE X.stack X.prog X.w H s Q u s') : EP X pins σ Q u s' := by
  obtain ⟨v, H', os, bare, un, hok, r, q⟩ := h
  obtain ⟨hh, g, d, t, os'⟩ := s'
  obtain rfl : os' = s.os := os
  exact ⟨v, H', I.call (h' := hh) (g' := g) (d' := d) (t' := t) (ch := []) un hok bare (fun b z => absurd z (by simp)), r, q⟩
end

/-! ### calls -/
def tCall (sp : Sp) (dvs : List V) (E : XK) (t : TA) : TE := fun σ H Q => t σ H fun vs H1 => sp (vs ++ dvs) H1 Q E
def tMeth (C : Addr) (m : Str) (sp : Sp) (dvs : List V) (E : XK) (ta : TE) (t : TA) : TE := fun σ H Q => ta σ H fun x H1 => ∃ a dx fs, x = .ref a ∧ H1 a = some (.ins C dx fs) ∧ fs.lookup m = none ∧
  t σ H1 fun vs H2 => sp (x :: (vs ++ dvs)) H2 Q E
def tMake (C : Addr) (sp : Sp) (dvs : List V) (E : XK) (t : TA) : TE := fun σ H Q => t σ H fun vs H1 => ∀ x dx, H1 x = none → H1 dx = none → dx ≠ x →
  sp (.ref x :: (vs ++ dvs)) (upd (upd H1 dx (.own x)) x (.ins C dx [])) (fun v H2 => v = .non ∧ Q (.ref x) H2) E

def Binds (K : PySem.W.Frag) (fd : FuncData) (ps : List Str) (ds : List Value) : Prop :=
  ∀ (s : Shared) (us : List Value), K.In s.heap → (us ++ ds).length = ps.length → BindsTo s fd ⟨us, []⟩ (ps.zip (us ++ ds))
theorem Binds.all {K : PySem.W.Frag} {fd : FuncData} {ps : List Str} (h : ∀ us : List Value, us.length = ps.length → bindArgs fd ⟨us, []⟩ = pure (ps.zip us)) : Binds K fd ps [] := fun s us _ hl => by
  rw [List.append_nil] at hl ⊢
  exact .of_eq (h us hl)

def Passes (CX : CXT) (X : Cx) (E : XK) : Prop := ∀ (pins : List (Addr × Obj)) (σ : St) (H : Hp) (s : Shared) (e : Value) (s' : Shared), Inv X pins σ H s → CX X.stack H s E e s' → X.xe e s'

section
variable {X : Cx} {CX : CXT} {k : Nat} {f C : Addr} {fd : FuncData} {ps : List Str} {sp : Sp} {dvs : List V} {ds : List Value} {E : XK} {x m : Str} {p pos apos : Pos} {e o : Expr} {es : List Expr} {ta : TE} {t : TA}

theorem run_fn {pins : List (Addr × Obj)} {σ : St} {H : Hp} {s : Shared} {Q : VK} {us : List Value} {vs : List V} (F : FnOk X.prog X.w X.K X.mg X.base CX k f fd ps sp) (hr : Room k X.A) (hb : Binds X.K fd ps ds) (hd : Vals dvs ds) (hx : Passes CX X E)
    (I : Inv X pins σ H s) (r : Vals vs us) (h : sp (vs ++ dvs) H Q E) : wpAny (model X.prog X.w) X.A (call (.ref f) us) (EP X pins σ Q) X.xe s := by
  have r2 : Vals (vs ++ dvs) (us ++ ds) := r.append hd
  have hl : (us ++ ds).length = ps.length := by rw [← r2.length]; exact F.len _ _ _ _ h
  refine wpAny_call (codeAny_mono (F.run X.A X.stack s H ⟨us, []⟩ (us ++ ds) (vs ++ dvs) Q E hr I.env0 (hb s us I.kIn hl) r2 h) fun r s' hq => ?_)
  cases r with
  | error e => exact hx pins σ H s e s' I hq
  | ok fl =>
    cases fl with
    | ret u => exact I.after hq
    | next => exact False.elim hq
    | brk => exact False.elim hq
    | cont => exact False.elim hq

theorem pe_call (F : FnOk X.prog X.w X.K X.mg X.base CX k f fd ps sp) (hr : Room k X.A) (hg : Gl X x) (hm : X.mg x = some (.ref f)) (hk : PySem.W.keepIn X.K (.ref f) = true) (hb : Binds X.K fd ps ds) (hd : Vals dvs ds) (hx : Passes CX X E)
    (ha : PA X (e :: es) t) (hdb : (x == ("__debug__" : Str)) = false := by decide) (he : starEach (e :: es) X.env = (false, eval e X.env) :: starEach es X.env := by rfl) (hpl : (backTo pos (starEach es X.env)).any (·.1) = false := by rfl) :
    PE X (.Call (.Name x p) (e :: es) [] pos) (tCall sp dvs E t) := by
  intro pins s σ H Q I h
  refine wpAny_Call_Name_kw (ld_glob I hg hm ?_ hdb)
  refine PySem.W.callWith_K (h₀ := X.base) I.ok.mod.kin hk (thn (ha pos pins s σ H _ I h) fun us s1 ⟨vs, H1, I1, r, q⟩ => ⟨I1.kIn, ?_⟩) he hpl
  exact run_fn F hr hb hd hx I1 r q
theorem pe_meth {pl : Sem Bool} (he : PE X o ta) (c : Cls X.K C) (hm : Meth X.K C m f) (F : FnOk X.prog X.w X.K X.mg X.base CX k f fd ps sp) (hr : Room k X.A) (hb : Binds X.K fd ps ds) (hd : Vals dvs ds) (hx : Passes CX X E) (ha : PA X (e :: es) t)
    (hst : starEach (e :: es) X.env = (false, eval e X.env) :: starEach es X.env := by rfl) (hpl : (backTo pos (starEach es X.env)).any (·.1) = false := by rfl)
    (ht : eval (.Call (.Attribute o m apos) (e :: es) [] pos) X.env = (do
      let ov ← eval o X.env
      standAt apos.atName
      let (f, first) ← holding [ov] (getMethod ov m pl)
      callWith pos f first (backTo pos (starEach (e :: es) X.env)) (backToKw pos (keywordEach [] X.env))) := by rfl) :
    PE X (.Call (.Attribute o m apos) (e :: es) [] pos) (tMeth C m sp dvs E ta t) := by
  intro pins s σ H Q I h
  refine PySem.W.methodCall_KW (pl := pl) (thn (he pins s σ H _ I h) fun u s1 ⟨x, H1, I1, rx, a, dx, fs, ex, ea, l, q⟩ => ?_) ht
  subst ex
  obtain rfl : u = Value.ref a := rx
  refine getmeth_ok I1 ea c hm l ?_
  refine PySem.W.callWith_K (first := [.ref a]) (h₀ := X.base) I.ok.mod.kin hm.kp (thn (ha pos pins s1 σ H1 _ I1 q) fun us s2 ⟨vs, H2, I2, r, q2⟩ => ⟨I2.kIn, ?_⟩) hst hpl
  exact run_fn (us := .ref a :: us) (vs := .ref a :: vs) F hr hb hd hx I2 (.cons rfl r) q2
theorem pe_meth0 {pl : Sem Bool} (he : PE X o ta) (c : Cls X.K C) (hm : Meth X.K C m f) (F : FnOk X.prog X.w X.K X.mg X.base CX k f fd ps sp) (hr : Room k X.A) (hb : Binds X.K fd ps ds) (hd : Vals dvs ds) (hx : Passes CX X E)
    (ht : eval (.Call (.Attribute o m apos) [] [] pos) X.env = (do
      let ov ← eval o X.env
      standAt apos.atName
      let (f, first) ← holding [ov] (getMethod ov m pl)
      callWith pos f first (backTo pos (starEach [] X.env)) (backToKw pos (keywordEach [] X.env))) := by rfl) :
    PE X (.Call (.Attribute o m apos) [] [] pos) (tMeth C m sp dvs E ta tNil) := by
  intro pins s σ H Q I h
  refine PySem.W.methodCall_KW (pl := pl) (thn (he pins s σ H _ I h) fun u s1 ⟨x, H1, I1, rx, a, dx, fs, ex, ea, l, q⟩ => ?_) ht
  subst ex
  obtain rfl : u = Value.ref a := rx
  refine getmeth_ok I1 ea c hm l ?_
  exact PySem.W.callWith_K0 (first := [.ref a]) I1.kIn hm.kp (run_fn (us := [.ref a]) (vs := [.ref a]) F hr hb hd hx I1 (.cons rfl .nil) q)

structure Mk (K : PySem.W.Frag) (C f : Addr) : Prop where
  makes : PySem.W.makesIn K C = true
  init : PySem.W.findIn K (.ref C) "__init__" = some (some (.ref f))
  fn : PySem.W.isFn K (.ref f) = true
  kp : PySem.W.keepIn K (.ref C) = true

theorem run_make {pins : List (Addr × Obj)} {σ : St} {H : Hp} {s : Shared} {Q : VK} {us : List Value} {vs : List V} (M : Mk X.K C f) (F : FnOk X.prog X.w X.K X.mg X.base CX k f fd ps sp) (hr : Room (k + 1) X.A) (hb : Binds X.K fd ps ds) (hd : Vals dvs ds)
    (hx : Passes CX X E) (I : Inv X pins σ H s) (r : Vals vs us)
    (h : ∀ x dx, H x = none → H dx = none → dx ≠ x → sp (.ref x :: (vs ++ dvs)) (upd (upd H dx (.own x)) x (.ins C dx [])) (fun v H2 => v = .non ∧ Q (.ref x) H2) E) :
    wpAny (model X.prog X.w) X.A (call (.ref C) us) (EP X pins σ Q) X.xe s := by
  have hq := h (s.heap.objs.size + 1) s.heap.objs.size (I.hok.fresh (Nat.le_succ _)) (I.hok.fresh (Nat.le_refl _)) (Nat.ne_of_lt (Nat.lt_succ_self _))
  have I2 := Inv.made (C := C) I
  have r2 : Vals (V.ref (s.heap.objs.size + 1) :: (vs ++ dvs)) (Value.ref (s.heap.objs.size + 1) :: (us ++ ds)) := .cons rfl (r.append hd)
  have hl : (Value.ref (s.heap.objs.size + 1) :: us ++ ds).length = ps.length := by
    have e := r2.length
    rw [F.len _ _ _ _ hq] at e
    exact e.symm
  refine wpAny_call (make_map (f := f) I.kIn M.makes M.init (beq_iff_eq.mp M.fn) (codeAny_mono (F.run _ X.stack _ _ ⟨Value.ref (s.heap.objs.size + 1) :: us, []⟩ (Value.ref (s.heap.objs.size + 1) :: (us ++ ds)) _ _ E (hr.make C us [])
    (I2.env0.make C us []) (hb _ (Value.ref (s.heap.objs.size + 1) :: us) I2.kIn hl) r2 hq) fun r s' hq' => ?_))
  cases r with
  | error e => exact hx pins σ _ _ e s' I2 hq'
  | ok fl =>
    cases fl with
    | ret u =>
      obtain ⟨v, H', I3, rv, ev, q3⟩ := I2.after hq'
      subst ev
      exact ⟨rv, ⟨V.ref (s.heap.objs.size + 1), H', I3, rfl, q3⟩⟩
    | next => exact False.elim hq'
    | brk => exact False.elim hq'
    | cont => exact False.elim hq'
theorem pe_make (M : Mk X.K C f) (F : FnOk X.prog X.w X.K X.mg X.base CX k f fd ps sp) (hr : Room (k + 1) X.A) (hg : Gl X x) (hm : X.mg x = some (.ref C)) (hb : Binds X.K fd ps ds) (hd : Vals dvs ds) (hx : Passes CX X E)
    (ha : PA X (e :: es) t) (hdb : (x == ("__debug__" : Str)) = false := by decide) (he : starEach (e :: es) X.env = (false, eval e X.env) :: starEach es X.env := by rfl) (hpl : (backTo pos (starEach es X.env)).any (·.1) = false := by rfl) :
    PE X (.Call (.Name x p) (e :: es) [] pos) (tMake C sp dvs E t) := by
  intro pins s σ H Q I h
  refine wpAny_Call_Name_kw (ld_glob I hg hm ?_ hdb)
  refine PySem.W.callWith_K (h₀ := X.base) I.ok.mod.kin M.kp (thn (ha pos pins s σ H _ I h) fun us s1 ⟨vs, H1, I1, r, q⟩ => ⟨I1.kIn, ?_⟩) he hpl
  exact run_make M F hr hb hd hx I1 r q
end

/-! ### keywords -/
def PK (X : Cx) (kws : List Keyword) (t : TA) : Prop :=
  ∀ (pos : Pos) (pins : List (Addr × Obj)) (s : Shared) (σ : St) (H : Hp) (Q : List V → Hp → Prop), Inv X pins σ H s → t σ H Q → wpAny (model X.prog X.w) X.A (evalAll ((backToKw pos (keywordEach kws X.env)).map (·.2))) (AP X pins σ Q) X.xe s
section
variable {X : Cx} {CX : CXT} {k : Nat} {f C : Addr} {fd : FuncData} {ps ks : List Str} {sp : Sp} {E : XK} {x m : Str} {p pos apos kpos : Pos} {e o : Expr} {es : List Expr} {kws : List Keyword} {te ta : TE} {t tk : TA} {nm : Option Str}
structure KBinds (K : PySem.W.Frag) (fd : FuncData) (ps ks : List Str) (g : List Value → List Value → List Value) (gV : List V → List V → List V) : Prop where
  to : ∀ (s : Shared) (us ws : List Value), K.In s.heap → (g us ws).length = ps.length → BindsTo s fd ⟨us, ks.zip ws⟩ (ps.zip (g us ws))
  rel : ∀ {vs : List V} {us : List Value} {zs : List V} {ws : List Value}, Vals vs us → Vals zs ws → Vals (gV vs zs) (g us ws)
def tCallK (sp : Sp) (gV : List V → List V → List V) (E : XK) (t tk : TA) : TE := fun σ H Q => t σ H fun vs H1 => tk σ H1 fun zs H2 => sp (gV vs zs) H2 Q E
variable {g : List Value → List Value → List Value} {gV : List V → List V → List V}
end

/-! ### a def's body keeps its promise -/
structure FnScope (N P : List Str) (sc : Scope) : Prop where
  kind : sc.kind = .function
  co : sc.isCoroutine = false
  gen : sc.isGenerator = false
  nd : N.Nodup
  pre : N.take P.length = P
  par : ∀ x ∈ P, sc.names.lookup x = some .local ∨ sc.names.lookup x = some .cell
  nofree : ∀ y ∈ sc.names, y.2 ≠ .free

theorem bindL_out {kindOf : Str → Option NameKind} {x : Str} : ∀ {binds : List (Str × Value)} {m : Str → Option Value}, (∀ v, (x, v) ∉ binds) → bindL kindOf binds m x = m x
  | [], _, _ => rfl
  | (n, v) :: r, m, h => by
    unfold bindL
    rw [bindL_out fun w hw => h w (List.mem_cons_of_mem _ hw)]
    split
    · have : x ≠ n := by rintro rfl; exact h v List.mem_cons_self
      simp [this]
    · rfl
theorem bindC_out {kindOf : Str → Option NameKind} {x : Str} : ∀ {binds : List (Str × Value)} {m : Str → Option Value}, (∀ v, (x, v) ∉ binds) → bindC kindOf binds m x = m x
  | [], _, _ => rfl
  | (n, v) :: r, m, h => by
    unfold bindC
    rw [bindC_out fun w hw => h w (List.mem_cons_of_mem _ hw)]
    split
    · rfl
    · have : x ≠ n := by rintro rfl; exact h v List.mem_cons_self
      simp [this]
theorem bindL_get {kindOf : Str → Option NameKind} {x : Str} {v : Value} : ∀ {P : List Str} {vs : List Value} {i : Nat} {m : Str → Option Value}, P.Nodup → P[i]? = some x → vs[i]? = some v → kindOf x = some .local →
    bindL kindOf (P.zip vs) m x = some v
  | [], _, _, _, _, h, _, _ => by simp at h
  | _ :: _, [], _, _, _, _, h, _ => by simp at h
  | p :: P, w :: vs, 0, m, nd, h1, h2, hk => by
    simp at h1 h2; subst h1; subst h2
    show bindL kindOf ((p, w) :: P.zip vs) m p = _
    unfold bindL
    rw [bindL_out fun v hv => (List.nodup_cons.mp nd).1 (List.of_mem_zip hv).1, if_pos hk]
    simp
  | p :: P, w :: vs, i + 1, m, nd, h1, h2, hk => by
    show bindL kindOf ((p, w) :: P.zip vs) m x = _
    unfold bindL
    exact bindL_get (i := i) (List.nodup_cons.mp nd).2 (by simpa using h1) (by simpa using h2) hk
theorem bindC_get {kindOf : Str → Option NameKind} {x : Str} {v : Value} : ∀ {P : List Str} {vs : List Value} {i : Nat} {m : Str → Option Value}, P.Nodup → P[i]? = some x → vs[i]? = some v → kindOf x ≠ some .local →
    bindC kindOf (P.zip vs) m x = some v
  | [], _, _, _, _, h, _, _ => by simp at h
  | _ :: _, [], _, _, _, _, h, _ => by simp at h
  | p :: P, w :: vs, 0, m, nd, h1, h2, hk => by
    simp at h1 h2; subst h1; subst h2
    show bindC kindOf ((p, w) :: P.zip vs) m p = _
    unfold bindC
    rw [bindC_out fun v hv => (List.nodup_cons.mp nd).1 (List.of_mem_zip hv).1, if_neg hk]
    simp
  | p :: P, w :: vs, i + 1, m, nd, h1, h2, hk => by
    show bindC kindOf ((p, w) :: P.zip vs) m x = _
    unfold bindC
    exact bindC_get (i := i) (List.nodup_cons.mp nd).2 (by simpa using h1) (by simpa using h2) hk

def start (N : List Str) (vs : List V) : St := vs.map some ++ List.replicate (N.length - vs.length) none

def cxOf (CX : CXT) (P : Program) (w : World) (K : PySem.W.Frag) (mg : Str → Option Value) (base : Heap) (N : List Str) (qual : Str) (scope : Scope) (f : Addr) (cd : Value) (A : Around) (outer : List Env) (s : Shared) (H : Hp) (E : XK) : Cx where
  prog := P
  w := w
  K := K
  mg := mg
  base := base
  A := A.deeper (envOfC qual scope s.heap.objs.size f cd)
  N := N
  s₀ := s
  H₀ := H
  env := envOfC qual scope s.heap.objs.size f cd
  outer := outer
  stack := envOfC qual scope s.heap.objs.size f cd :: outer
  ex := []
  calm := true
  fn := fun _ => true
  pn := []
  xe := fun e s' => wpAny (model P w) (A.deeper (envOfC qual scope s.heap.objs.size f cd)) (leaving (envOfC qual scope s.heap.objs.size f cd) e) (fun _ s'' => CX outer H s E e s'') (fun e' s'' => CX outer H s E e' s'') s'

theorem cell_has {sc : Scope} {n : Nat} {x : Str} (h : sc.names.lookup x = some .cell) : ∃ c, (cellsFrom n sc.names []).lookup x = some c := by
  have q := PySem.W.cellsFrom_some sc.names n [] (.inl h)
  exact Option.isSome_iff_exists.mp q

theorem inv_start {CX : CXT} {P : Program} {w : World} {K : PySem.W.Frag} {mg : Str → Option Value} {base : Heap} {N ps : List Str} {qual : Str} {scope : Scope} {f : Addr} {cd : Value} {A : Around} {outer : List Env} {s s1 : Shared} {H : Hp} {E : XK} {us : List Value} {vs : List V}
    (S : FnScope N ps scope) (hd : A.handled = none) (e0 : Env0 P w K mg base A outer s H) (hl : vs.length = ps.length) (r : Vals vs us)
    (x : InCallC s s.heap.objs.size (bindL (envOfC qual scope s.heap.objs.size f cd).kindOf (ps.zip us) fun _ => none) (cellsFrom (s.heap.objs.size + 1) scope.names []) (bindC (envOfC qual scope s.heap.objs.size f cd).kindOf (ps.zip us) fun _ => none) s1) :
    Inv (cxOf CX P w K mg base N qual scope f cd A outer s H E) [] (start N vs) H s1 := by
  have hpl : ps.length ≤ N.length := by have := congrArg List.length S.pre; rw [List.length_take] at this; omega
  obtain ⟨h1, tk, rfl, hk⟩ := x.done
  have noA : ∀ b : Addr, b ∉ (cxOf CX P w K mg base N qual scope f cd A outer s H E).ex := fun b z => absurd (show b ∈ ([] : List Addr) from z) (by simp)
  refine ⟨⟨e0.mod, S.kind, rfl, rfl, Nat.le_refl _, fun y z c h1 h2 => ?_, fun y hy => ?_, fun y c _ h => ?_, fun _ => hd, Around.frames_deeper e0.frames, .inr ⟨rfl, rfl⟩, fun b z => absurd z (noA b), e0.bs, e0.bsz, fun b _ _ => noA b, fun b z => absurd z (noA b), e0.funs, e0.frf⟩,
    rfl, e0.bare, Un.kept hk, ⟨_, x.toInCall.ns, fun i y v h1 h2 h3 => ?_⟩, fun y c h => ⟨_, x.cell y c h⟩, e0.hok.fresh (Nat.le_refl _), fun y c h => ?_, fun p hp => absurd (show p ∈ ([] : List (Addr × Obj)) from hp) (by simp), e0.hok.kept hk, ?_⟩
  · exact name_of_addr x.apart (PySem.mem_of_lookup h1) (PySem.mem_of_lookup h2)
  · have hy : scope.names.lookup y = some .cell ∨ scope.names.lookup y = some .free := hy
    rcases hy with hy | hy
    · exact cell_has hy
    · exact absurd rfl (S.nofree _ (PySem.mem_of_lookup hy))
  · exact Nat.le_of_lt (x.above y c (PySem.mem_of_lookup h))
  · have hi : i < vs.length := by
      unfold start at h2
      by_cases hi : i < vs.length
      · exact hi
      · rw [List.getElem?_append_right (by simpa using hi)] at h2
        rw [List.getElem?_replicate] at h2
        split at h2 <;> cases h2
    have ha : vs[i]? = some v := by
      unfold start at h2
      rw [List.getElem?_append_left (by simpa using hi), List.getElem?_map] at h2
      cases e : vs[i]? with
      | none => rw [e] at h2; cases h2
      | some a => rw [e] at h2; cases h2; rfl
    obtain ⟨u, hu, rv⟩ := r.get ha
    have hp : ps[i]? = some y := by
      rw [← S.pre, List.getElem?_take_of_lt (by omega)]; exact h1
    have ndP : ps.Nodup := by rw [← S.pre]; exact S.nd.sublist (List.take_sublist _ _)
    refine ⟨u, rv, ?_⟩
    rcases S.par y (List.mem_of_getElem? hp) with k | k
    · exact .inl ⟨k, bindL_get ndP hp hu k⟩
    · obtain ⟨c, e⟩ := cell_has (n := s.heap.objs.size + 1) k
      refine .inr ⟨.inl k, c, e, ?_⟩
      have q := x.cell y c e
      rw [bindC_get ndP hp hu (by show scope.names.lookup y ≠ _; rw [k]; decide)] at q
      exact q
  · exact e0.hok.fresh (Nat.le_of_lt (x.above y c (PySem.mem_of_lookup h)))
  · unfold start
    show _ = N.length
    rw [List.length_append, List.length_map, List.length_replicate]
    omega

theorem fn_of {CX : CXT} {P : Program} {w : World} {K : PySem.W.Frag} {mg : Str → Option Value} {base : Heap} {k : Nat} {f : Addr} {name qual : Str} {params : Arguments} {body : List Stmt} {scope : Scope} {dV kV doc pm cdv ct oc : Value} {an od : Option Addr}
    {osl : Array (Option Value)} {N ps : List Str} {sp : Sp} (lk : K.lookup f = some ⟨oc, od, .func (PySem.W.fnOf name qual params body scope dV kV doc pm an cdv ct), osl⟩) (hcd : PySem.W.codeIn K cdv qual = true) (S : FnScope N ps scope)
    (len : ∀ vs H Q E, sp vs H Q E → vs.length = ps.length)
    (hbody : ∀ (A : Around) (outer : List Env) (s : Shared) (H : Hp) (vs : List V) (Q : VK) (E : XK), Room k (A.deeper (envOfC qual scope s.heap.objs.size f cdv)) → sp vs H Q E →
      ∃ t, PSs (cxOf CX P w K mg base N qual scope f cdv A outer s H E) body t ∧ t { nx := fun _ H' => Q .non H', rt := Q } (start N vs) H) :
    FnOk P w K mg base CX (k + 1) f (PySem.W.fnOf name qual params body scope dV kV doc pm an cdv ct) ps sp := by
  refine ⟨len, fun A outer s H args us vs Q E hr e0 hb r hsp => ?_⟩
  have hl := len _ _ _ _ hsp
  have KX : K.In s.heap := e0.mod.kin.keeps fun b o e => (e0.bs b o e).1
  have lim : s.heap.NoLimit := e0.mod.nolimit.keeps fun b o e => (e0.bs b o e).1
  have hkind : ∀ y ∈ ps.zip us, scope.names.lookup y.1 = some .local ∨ (scope.names.lookup y.1 = some .cell ∧ ((cellsFrom (s.heap.objs.size + 1) scope.names []).lookup y.1).isSome = true) := fun ⟨n, v⟩ hy => by
    rcases S.par n (List.of_mem_zip hy).1 with q | q
    · exact .inl q
    · exact .inr ⟨q, PySem.W.cellsFrom_some _ _ _ (.inl q)⟩
  refine codeAny_call_function hr.depth (KX _ _ lk) rfl S.co S.gen rfl (PySem.W.codeRec_of KX hcd) (hb _ _ _ _ ?_)
  refine wpAny_newFunctionEnv_cells S.kind hkind fun env he s1 x => ?_
  subst he
  refine ⟨lim.keeps x.toInCall.keep, codeAny_func ?_⟩
  obtain ⟨t, ht, hq⟩ := hbody A outer s H vs Q E (hr.deeper _) hsp
  have I : Inv (cxOf CX P w K mg base N qual scope f cdv A outer s H E) [] (start N vs) H s1 := inv_start S hr.hd e0 hl r x
  refine wpAny_mono (ht [] s1 (start N vs) H _ I hq) (fun fl s' hs => ?_) fun e s' hs => hs
  have fin : ∀ {σ' : St} {H' : Hp} {v : V} {u : Value}, Inv (cxOf CX P w K mg base N qual scope f cdv A outer s H E) [] σ' H' s' → RelV v u → Q v H' → CE outer P w H s Q u s' :=
    fun {σ' H' v u} J rv q => ⟨v, H', J.os, J.bare, J.base, J.hok, rv, q⟩
  cases fl with
  | ret u =>
    obtain ⟨v, σ', H', J, rv, q⟩ := hs
    exact fin J rv q
  | next =>
    obtain ⟨σ', H', J, q⟩ := hs
    exact fin (v := V.non) (u := Value.none) J rfl q
  | brk =>
    obtain ⟨_, _, _, q⟩ := hs
    exact False.elim q
  | cont =>
    obtain ⟨_, _, _, q⟩ := hs
    exact False.elim q
end L2

namespace L2
open PySem PySem.Spec PyProof.Rows
section
variable {X : Cx} {x : Str} {p pos : Pos} {e : Expr} {es : List Expr} {t : TA} {id T : String} {r : List V → Hp → VK → Prop}

def tCB (r : List V → Hp → VK → Prop) (t : TA) : TE := fun σ H Q => t σ H fun vs H1 => r vs H1 Q
theorem pe_callB (hc : CallR X (.builtin id) r) (hg : Gl X x) (hm : X.mg x = none) (hv : bootBuiltins x = some (.builtin id)) (ha : PA X (e :: es) t) (hn : x ≠ "__name__" := by decide) (hdb : (x == ("__debug__" : Str)) = false := by decide)
    (he : starEach (e :: es) X.env = (false, eval e X.env) :: starEach es X.env := by rfl) (hpl : (backTo pos (starEach es X.env)).any (·.1) = false := by rfl) : PE X (.Call (.Name x p) (e :: es) [] pos) (tCB r t) := by
  intro pins s σ H Q I h
  refine wpAny_Call_Name_kw (ld_blt I hg hm hv ?_ hn hdb)
  exact PyProof.Rows.callWith_builtin1 (thn (ha pos pins s σ H _ I h) fun us s1 ⟨vs, H1, I1, r1, q1⟩ => hc pins s1 σ H1 vs us Q I1 r1 q1) he hpl
theorem pe_callTy (hc : CallR X (.type T) r) (hg : Gl X x) (hm : X.mg x = none) (hv : bootBuiltins x = some (.type T)) (ha : PA X (e :: es) t) (hn : x ≠ "__name__" := by decide) (hdb : (x == ("__debug__" : Str)) = false := by decide)
    (he : starEach (e :: es) X.env = (false, eval e X.env) :: starEach es X.env := by rfl) (hpl : (backTo pos (starEach es X.env)).any (·.1) = false := by rfl) : PE X (.Call (.Name x p) (e :: es) [] pos) (tCB r t) := by
  intro pins s σ H Q I h
  refine wpAny_Call_Name_kw (ld_blt I hg hm hv ?_ hn hdb)
  exact PyProof.Rows.callWith_type1 (thn (ha pos pins s σ H _ I h) fun us s1 ⟨vs, H1, I1, r1, q1⟩ => hc pins s1 σ H1 vs us Q I1 r1 q1) he hpl
end
end L2

namespace HT
open PySem PyProof.Rows

def lexLt : List Int → List Int → Bool
  | [], [] => false
  | [], _ :: _ => true
  | _ :: _, [] => false
  | x :: xs, y :: ys => if x = y then lexLt xs ys else decide (x < y)
section
open PySem.SeqAt
open PySem.AutoSeq1 (wpAny_loadPart')
open PySem.MeetsSeq PySem.MeetsSeq2 PySem.MeetsSeq3

end

section
variable {prog : Program} {w : World} {A : Around} {E : Value → Shared → Prop} {s : Shared}

/-! ### t[a:b], not the whole -/
def sIx (n d : Nat) : Option Int → Nat
  | none => d
  | some v => if v < 0 then (v + (n : Int)).toNat else min v.toNat n
end
end HT

namespace L2
open PySem PySem.Spec PyProof.Rows

/-! ### the parts of a slice -/
abbrev TO := St → Hp → (Option Int → Hp → Prop) → Prop
def PO (X : Cx) (e : Option Expr) (t : TO) : Prop :=
  ∀ (pins : List (Addr × Obj)) (s : Shared) (σ : St) (H : Hp) (Q : Option Int → Hp → Prop), Inv X pins σ H s → t σ H Q →
    wpAny (model X.prog X.w) X.A (evalPart e X.env) (fun u s' => ∃ o H', Inv X pins σ H' s' ∧ IsPart u o ∧ Q o H') X.xe s
def tNoPart : TO := fun _ H Q => Q none H
def tPart (t : TE) : TO := fun σ H Q => t σ H fun x H1 => ∃ i, x = .int i ∧ Q (some i) H1

section
variable {X : Cx} {e : Expr} {te : TE} {lo hi : Option Expr} {tl th : TO} {pos p2 : Pos}

theorem po_some (h : PE X e te) : PO X (some e) (tPart te) := by
  intro pins s σ H Q I hw
  rw [evalPart_some]
  refine thn (h pins s σ H _ I hw) fun u s1 ⟨x, H1, I1, r1, q1⟩ => ?_
  obtain ⟨i, rfl, q⟩ := q1
  obtain ⟨t, rfl⟩ := r1
  exact ⟨some i, H1, I1, .int i t, q⟩

def SlR (X : Cx) (r : V → Option Int → Option Int → Hp → VK → Prop) : Prop :=
  ∀ (pins : List (Addr × Obj)) (s : Shared) (σ : St) (H : Hp) (x : V) (v vl vu : Value) (lo hi : Option Int) (sl : Addr) (Q : VK), Inv X pins σ H s → RelV x v → s.heap.IsSliceOf sl vl vu .none → IsPart vl lo → IsPart vu hi → r x lo hi H Q →
    ∃ T id, typeLookup (.type T) "__getitem__" = pure (some (.builtin id)) ∧ s.TypeIs v T ∧ wpAny (model X.prog X.w) X.A (getItem v (.ref sl)) (EP X pins σ Q) X.xe s
def tSl (r : V → Option Int → Option Int → Hp → VK → Prop) (te : TE) (tl th : TO) : TE := fun σ H Q => te σ H fun x H1 => tl σ H1 fun l H2 => th σ H2 fun u H3 => r x l u H3 Q
theorem pe_slice {r : V → Option Int → Option Int → Hp → VK → Prop} (hr : SlR X r) (he : PE X e te) (hl : PO X lo tl) (hu : PO X hi th) : PE X (.Subscript e (.Slice lo hi none p2) pos) (tSl r te tl th) := by
  intro pins s σ H Q I h
  refine Subscript_ (thn (he pins s σ H _ I h) fun v s1 ⟨x, H1, I1, r1, q1⟩ => ?_)
  refine wpAny_Slice (thn (hl pins s1 σ H1 _ I1 q1) fun vl s2 ⟨l, H2, I2, pl, q2⟩ => thn (hu pins s2 σ H2 _ I2 q2) fun vu s3 ⟨u, H3, I3, pu, q3⟩ => ?_)
  rw [evalPart_none]
  refine wpAny_pure ?_
  have I4 : Inv X pins σ H3 { s3 with heap := s3.heap.push { cls := .type "slice", data := .fields #[vl, vu, .none] } } := I3.kept (t' := s3.toks) fun b ob q => Heap.get?_push_of_some _ q
  obtain ⟨T, id, hT, ht, hg⟩ := hr pins { s3 with heap := s3.heap.push { cls := .type "slice", data := .fields #[vl, vu, .none] } } σ H3 x v vl vu l u s3.heap.objs.size Q I4 r1 (Heap.IsSliceOf.new ..) pl pu q3
  show wpAny (model X.prog X.w) X.A (subscriptTail e (.Slice lo hi none p2) v (.ref s3.heap.objs.size)) (EP X pins σ Q) X.xe { s3 with heap := s3.heap.push { cls := .type "slice", data := .fields #[vl, vu, .none] } }
  exact tail_any (ops := [.ref s3.heap.objs.size, v]) ht hT hg (by with_unfolding_all rfl)

def cutV (xs : List V) (lo hi : Option Int) : List V := (xs.drop (HT.sIx xs.length 0 lo)).take (HT.sIx xs.length xs.length hi - HT.sIx xs.length 0 lo)
theorem cutV_length (xs : List V) (lo hi : Option Int) : (cutV xs lo hi).length ≤ xs.length := by
  unfold cutV
  rw [List.length_take, List.length_drop]
  omega
def rSlT (K : PySem.W.Frag) : V → Option Int → Option Int → Hp → VK → Prop := fun x lo hi H Q => ∃ a xs, x = .ref a ∧ SqT K H a xs ∧
  ¬ (HT.sIx xs.length 0 lo = 0 ∧ HT.sIx xs.length xs.length hi = xs.length) ∧ ∀ p, H p = none → Q (.ref p) (upd H p (.tup (cutV xs lo hi)))
/-! ### t < u, t + u -/
def rLtT (K : PySem.W.Frag) : R2 := fun x y H Q => ∃ a b ns ms, x = .ref a ∧ y = .ref b ∧ SqT K H a (ns.map V.int) ∧ SqT K H b (ms.map V.int) ∧ Q (.bl (HT.lexLt ns ms)) H
def rCatT (K : PySem.W.Frag) : R2 := fun x y H Q => ∃ a b xs ys, x = .ref a ∧ y = .ref b ∧ SqT K H a xs ∧ SqT K H b ys ∧ xs ≠ [] ∧ xs.length + ys.length ≤ sizeLine ∧
  (ys = [] → Q (.ref a) H) ∧ (ys ≠ [] → ∀ p, H p = none → Q (.ref p) (upd H p (.tup (xs ++ ys))))
end
end L2

namespace L2
open PySem PySem.Spec PyProof.Rows

/-! ### places -/
def ixN (n : Nat) (i : Int) : Option Nat := if 0 ≤ i then (if i < n then some i.toNat else none) else if -(n : Int) ≤ i then some (i + n).toNat else none
def atI {α : Type} (xs : List α) (i : Int) : Option α := (ixN xs.length i).bind fun j => xs[j]?
theorem ixN_seq {n : Nat} {i : Int} {j : Nat} (h : ixN n i = some j) : seqIndex? i n = some j ∧ j < n ∧ -(n : Int) ≤ i ∧ i < n := by
  unfold ixN at h
  by_cases h0 : 0 ≤ i
  · rw [if_pos h0] at h
    by_cases h1 : i < n
    · rw [if_pos h1] at h
      have e : i.toNat = j := Option.some.inj h
      exact ⟨by rw [seqIndex_of h0 h1, e], by omega, by omega, h1⟩
    · rw [if_neg h1] at h; cases h
  · rw [if_neg h0] at h
    by_cases h1 : -(n : Int) ≤ i
    · rw [if_pos h1] at h
      have e : (i + n).toNat = j := Option.some.inj h
      exact ⟨by rw [seqIndex_neg (by omega) h1, e], by omega, h1, by omega⟩
    · rw [if_neg h1] at h; cases h
theorem atI_get {α : Type} {xs : List α} {i : Int} {v : α} (h : atI xs i = some v) : ∃ j, seqIndex? i xs.length = some j ∧ xs[j]? = some v ∧ j < xs.length ∧ -(xs.length : Int) ≤ i ∧ i < xs.length := by
  unfold atI at h
  cases e : ixN xs.length i with
  | none => rw [e] at h; cases h
  | some j =>
    rw [e] at h
    obtain ⟨h1, h2, h3, h4⟩ := ixN_seq e
    exact ⟨j, h1, h, h2, h3, h4⟩
theorem atI_nat {α : Type} {xs : List α} {j : Nat} {v : α} (h : xs[j]? = some v) : atI xs (j : Int) = some v := by
  have hj : j < xs.length := (List.getElem?_eq_some_iff.mp h).1
  have e : ixN xs.length (j : Int) = some j := by
    unfold ixN
    rw [if_pos (by omega), if_pos (by omega)]; simp
  unfold atI; rw [e]; exact h
/-! ### what may be subscripted -/
def PlainIx (b : Expr) : Prop := ∀ o i, subscripted b false o i = operate [o, i] (getItem o i)
def IxR (X : Cx) (r : R2) : Prop :=
  ∀ (value slice : Expr) (pins : List (Addr × Obj)) (s : Shared) (σ : St) (H : Hp) (x y : V) (v u : Value) (Q : VK), Inv X pins σ H s → RelV x v → RelV y u → r x y H Q →
    subscripted slice false v u = operate [v, u] (getItem v u) → wpAny (model X.prog X.w) X.A (subscriptTail value slice v u) (EP X pins σ Q) X.xe s
def MtR (X : Cx) (id : String) (r : V → List V → Hp → VK → Prop) : Prop :=
  ∀ (pins : List (Addr × Obj)) (s : Shared) (σ : St) (H : Hp) (x : V) (xs : List V) (v : Value) (us : List Value) (Q : VK), Inv X pins σ H s → RelV x v → Vals xs us → r x xs H Q →
    wpAny (model X.prog X.w) X.A (call (.builtin id) (v :: us)) (EP X pins σ Q) X.xe s
section
variable {X : Cx} {a b : Expr} {ta tb : TE} {pos : Pos}
theorem pe_ix {r : R2} (hr : IxR X r) (ha : PE X a ta) (hb : PE X b tb) (hs : PlainIx b) : PE X (.Subscript a b pos) (tOp r ta tb) := by
  intro pins s σ H Q I h
  exact Subscript_ (binT ha hb I h fun v u s2 x y H2 I2 rx ry q => hr a b pins s2 σ H2 x y v u Q I2 rx ry q (hs _ _))

def rIxL (K : PySem.W.Frag) : R2 := fun x y H Q => ∃ p xs i v, x = .ref p ∧ y = .int i ∧ SqL K H p xs ∧ atI xs i = some v ∧ Q v H
def rIxT (K : PySem.W.Frag) : R2 := fun x y H Q => ∃ p xs i v, x = .ref p ∧ y = .int i ∧ SqT K H p xs ∧ atI xs i = some v ∧ Q v H
def rIxS : R2 := fun x y H Q => ∃ z i c, x = .str z ∧ y = .int i ∧ z.length ≤ sizeLine ∧ atI z.cps.toList i = some c ∧ Q (.str ⟨#[c]⟩) H
theorem ix_list : IxR X (rIxL X.K) := by
  intro value slice pins s σ H x y v u Q I rx ry h hs
  obtain ⟨p, xs, i, z, rfl, rfl, hq, he, q⟩ := h
  cases rx
  obtain ⟨t, rfl⟩ := ry
  obtain ⟨its, r, pl, hz⟩ := I.list hq
  obtain ⟨j, h1, h2, h3, h4, h5⟩ := atI_get he
  obtain ⟨w, ew, rw'⟩ := r.get h2
  have hl := r.length
  have hn := line63
  have fin : EP X pins σ Q w s := ⟨z, H, I, rw', q⟩
  by_cases h0 : 0 ≤ i
  · have hj : i.toNat = j := by
      rw [seqIndex_of h0 h5] at h1
      exact Option.some.inj h1
    exact item_listR pl.isList h0 (by omega) (by rw [hj]; simpa using ew) fin hs
  · have hj : (i + (its.toArray.size : Int)).toNat = j := by
      rw [seqIndex_neg (by omega) h4] at h1
      rw [List.size_toArray, ← hl]
      exact Option.some.inj h1
    exact subscriptTail_builtinR (x := w) pl.isList.typeIs slot_list_getitem.lookup
      (wpAny_getItem_list_neg (Q := fun r s' => r = w ∧ EP X pins σ Q r s') pl.isList (by omega) (by rw [List.size_toArray] <;> omega) (by omega) (by rw [hj]; simpa using ew) ⟨rfl, fin⟩) hs
def rIx (K : PySem.W.Frag) : R2 := fun x y H Q => rIxL K x y H Q ∨ rIxT K x y H Q ∨ rIxS x y H Q
/-! ### xs[i] = v, any sign -/
theorem mapSeq_set (its : List Value) (n j : Nat) (u : Value) : Obj.mapSeq (·.setIfInBounds j u) { cls := .type "list", data := .seq its.toArray n } = { cls := .type "list", data := .seq (its.set j u).toArray n } := by
  simp [Obj.mapSeq]
theorem Inv.lst {pins : List (Addr × Obj)} {σ : St} {H : Hp} {s : Shared} {p : Addr} {xs : List V} (I : Inv X pins σ H s) (h : H p = some (.lst xs)) :
    ∃ (its : List Value) (n : Nat), Vals xs its ∧ s.heap.get? p = some { cls := .type "list", data := .seq its.toArray n } ∧ xs.length ≤ sizeLine := by
  obtain ⟨z, its, n, r, e⟩ := I.hok p _ h
  exact ⟨its, n, r, e, z⟩
theorem Inv.lstUpd {pins : List (Addr × Obj)} {σ : St} {H : Hp} {s : Shared} {p : Addr} {xs ys : List V} {its its' : List Value} {n n' : Nat} {f : Obj → Obj} (I : Inv X pins σ H s) (h : H p = some (.lst xs))
    (ho : s.heap.get? p = some { cls := .type "list", data := .seq its.toArray n }) (hf : f { cls := .type "list", data := .seq its.toArray n } = { cls := .type "list", data := .seq its'.toArray n' }) (r : Vals ys its') (hz : ys.length ≤ sizeLine) (t : Nat) :
    Inv X pins σ (upd H p (.lst ys)) { s with heap := s.heap.update p f, toks := t } := by
  have e : (s.heap.update p f).get? p = some { cls := .type "list", data := .seq its'.toArray n' } := by
    rw [Heap.get?_update_self f ho (by rw [hf] <;> rfl), hf]
  refine I.write (x := p) (e := p) (by rw [h]; trivial) (.inl rfl) (fun b u hb q => (Heap.get?_update_other _ _ (Ne.symm hb)).trans q) ⟨_, e⟩ ?_
  exact ⟨hz, its', n', r, e⟩
def rSetL : V → V → V → Hp → (Hp → Prop) → Prop := fun o i v H Q => ∃ p xs k j, o = .ref p ∧ i = .int k ∧ H p = some (.lst xs) ∧ ixN xs.length k = some j ∧ Q (upd H p (.lst (xs.set j v)))
theorem set_list : PSet X rSetL := by
  intro pins s σ H o i v ov iv u Q I ro ri rv h
  obtain ⟨p, xs, k, j, rfl, rfl, hp, hj, q⟩ := h
  cases ro
  obtain ⟨t, rfl⟩ := ri
  obtain ⟨its, n, r, ho, hz⟩ := I.lst hp
  obtain ⟨h1, h2, h3, h4⟩ := ixN_seq hj
  have hl := r.length
  have hn := line63
  have I' : Inv X pins σ (upd H p (.lst (xs.set j v))) { s with heap := s.heap.update p (Obj.mapSeq (·.setIfInBounds j u)) } :=
    I.lstUpd hp ho (mapSeq_set its n j u) (r.set rv j) (by rw [List.length_set]; exact hz) s.toks
  by_cases h0 : 0 ≤ k
  · have hk : k.toNat = j := by
      rw [seqIndex_of h0 h4] at h1
      exact Option.some.inj h1
    exact PySem.W.ki_setAt ho h0 (by omega) (by rw [List.size_toArray, ← hl]; exact h4) (by rw [hk]; exact ⟨_, I', q⟩)
  · have hk : (k + (its.toArray.size : Int)).toNat = j := by
      rw [seqIndex_neg (by omega) h3] at h1
      rw [List.size_toArray, ← hl]
      exact Option.some.inj h1
    exact PySem.W.ki_setBack ho (by omega) (by rw [List.size_toArray, ← hl]; exact h3) (by omega) (by rw [hk]; exact ⟨_, I', q⟩)

/-! ### slices -/
theorem slice_bounds (lo hi : Option Int) (n : Nat) : (sliceBounds lo hi none n).1 = ((HT.sIx n 0 lo : Nat) : Int) ∧ (sliceBounds lo hi none n).2.1 = ((HT.sIx n n hi : Nat) : Int) ∧ (sliceBounds lo hi none n).2.2 = 1 := by
  refine ⟨?_, ?_, rfl⟩
  · cases lo with
    | none => simp [sliceBounds, HT.sIx]
    | some i =>
      simp only [sliceBounds, HT.sIx, Option.getD_none, show (1 : Int) > 0 by decide, if_true]
      by_cases h : i < 0
      · simp only [h, if_true] <;> omega
      · simp only [h, if_false] <;> omega
  · cases hi with
    | none => simp [sliceBounds, HT.sIx]
    | some i =>
      simp only [sliceBounds, HT.sIx, Option.getD_none, show (1 : Int) > 0 by decide, if_true]
      by_cases h : i < 0
      · simp only [h, if_true] <;> omega
      · simp only [h, if_false] <;> omega
theorem slicePick_cut (its : List Value) (lo hi : Option Int) : slicePick its.toArray lo hi none = ((its.drop (HT.sIx its.length 0 lo)).take (HT.sIx its.length its.length hi - HT.sIx its.length 0 lo)).toArray := by
  obtain ⟨h1, h2, h3⟩ := slice_bounds lo hi its.toArray.size
  unfold slicePick
  rw [h1, h2, h3]
  simp only [sliceRange_one, pick_run, List.size_toArray] <;> rfl
def rSlL (K : PySem.W.Frag) : V → Option Int → Option Int → Hp → VK → Prop := fun x lo hi H Q => ∃ a xs, x = .ref a ∧ SqL K H a xs ∧ ∀ p, H p = none → Q (.ref p) (upd H p (.lst (cutV xs lo hi)))
theorem sl_list : SlR X (rSlL X.K) := by
  intro pins s σ H x v vl vu lo hi sl Q I rx hs pl pu h
  obtain ⟨a, xs, rfl, hx, q⟩ := h
  cases rx
  obtain ⟨its, r, ht, hz⟩ := I.list hx
  have hlen := r.length
  refine ⟨"list", _, slot_list_getitem.lookup, ht.isList.typeIs, ?_⟩
  refine wpAny_getItem_list_slice ht.isList hs pl pu .none (by simp) ?_ (by rw [List.size_toArray] <;> omega)
  rw [slicePick_cut, ← hlen]
  refine ⟨.ref s.heap.objs.size, _, I.laid (t' := s.toks) (o := .lst (cutV xs lo hi)) (fun b ob q => Heap.get?_push_of_some _ q) (Nat.le_refl _) ?_, rfl, q _ (I.hok.fresh (Nat.le_refl _))⟩
  exact ⟨Nat.le_trans (cutV_length xs lo hi) hz, _, 0, (r.drop (HT.sIx xs.length 0 lo)).take (HT.sIx xs.length xs.length hi - HT.sIx xs.length 0 lo), Heap.get?_push_size _ rfl⟩

/-! ### in, not in: flat items -/
def flatV : V → Bool
  | .non => true
  | .bl _ => true
  | .int _ => true
  | .str _ => true
  | _ => false
def eqV : V → V → Bool
  | .non, .non => true
  | .bl a, .bl b => a == b
  | .bl a, .int b => (if a then 1 else 0) == b
  | .int a, .bl b => a == (if b then 1 else 0)
  | .int a, .int b => a == b
  | .str a, .str b => a == b
  | _, _ => false
theorem eqAt_V {A : Around} {s : Shared} {y x : V} {u v : Value} (ry : RelV y u) (rx : RelV x v) (fy : flatV y = true) (fx : flatV x = true) : SeqAt.EqAt A s u v (eqV y x) := by
  cases y with
  | non =>
    cases ry
    cases x with
    | non => cases rx; exact SeqAt.EqAt.same _
    | bl b => cases rx; exact SeqAt.EqAt.none_bool b
    | int b => obtain ⟨t, rfl⟩ := rx; exact SeqAt.EqAt.none_int b t
    | str b => obtain ⟨t, rfl⟩ := rx; exact SeqAt.EqAt.none_str b t
    | _ => exact absurd (show false = true from fx) Bool.false_ne_true
  | bl a =>
    cases ry
    cases x with
    | non => cases rx; exact SeqAt.EqAt.bool_none a
    | bl b => cases rx; exact SeqAt.EqAt.bool_bool a b
    | int b => obtain ⟨t, rfl⟩ := rx; exact SeqAt.EqAt.bool_int a b t
    | str b => obtain ⟨t, rfl⟩ := rx; exact SeqAt.EqAt.bool_str a b t
    | _ => exact absurd (show false = true from fx) Bool.false_ne_true
  | int a =>
    obtain ⟨t', rfl⟩ := ry
    cases x with
    | non => cases rx; exact SeqAt.EqAt.int_none a t'
    | bl b => cases rx; exact SeqAt.EqAt.int_bool a t' b
    | int b => obtain ⟨t, rfl⟩ := rx; exact SeqAt.EqAt.int_int a t' b t
    | str b => obtain ⟨t, rfl⟩ := rx; exact SeqAt.EqAt.int_str a t' b t
    | _ => exact absurd (show false = true from fx) Bool.false_ne_true
  | str a =>
    obtain ⟨t', rfl⟩ := ry
    cases x with
    | non => cases rx; exact SeqAt.EqAt.str_none a t'
    | bl b => cases rx; exact SeqAt.EqAt.str_bool a t' b
    | int b => obtain ⟨t, rfl⟩ := rx; exact SeqAt.EqAt.str_int a t' b t
    | str b => obtain ⟨t, rfl⟩ := rx; exact SeqAt.EqAt.str_str a t' b t
    | _ => exact absurd (show false = true from fx) Bool.false_ne_true
  | _ => exact absurd (show false = true from fy) Bool.false_ne_true
def eqU (x : V) (u : Value) : Bool := match u with
  | .none => eqV .non x
  | .bool b => eqV (.bl b) x
  | .int i _ => eqV (.int i) x
  | .str z _ => eqV (.str z) x
  | _ => false
theorem eqU_of {x y : V} {u : Value} (r : RelV y u) (f : flatV y = true) : eqU x u = eqV y x := by
  cases y with
  | non => cases r; rfl
  | bl b => cases r; rfl
  | int i => obtain ⟨t, rfl⟩ := r; rfl
  | str z => obtain ⟨t, rfl⟩ := r; rfl
  | _ => exact absurd (show false = true from f) Bool.false_ne_true
theorem any_eqU {x : V} : ∀ {xs : List V} {us : List Value}, Vals xs us → xs.all flatV = true → us.any (eqU x) = xs.any fun y => eqV y x
  | _, _, .nil, _ => rfl
  | y :: xs, u :: us, .cons r t, f => by
    rw [List.all_cons, Bool.and_eq_true] at f
    rw [List.any_cons, List.any_cons, eqU_of r f.1, any_eqU t f.2]
theorem mem_eqAt {A : Around} {s : Shared} {x : V} {v : Value} (rx : RelV x v) (fx : flatV x = true) : ∀ {xs : List V} {us : List Value}, Vals xs us → xs.all flatV = true → ∀ u ∈ us, SeqAt.EqAt A s u v (eqU x u)
  | _, _, .nil, _ => fun u hu => by cases hu
  | y :: xs, u :: us, .cons r t, f => fun u' hu => by
    rw [List.all_cons, Bool.and_eq_true] at f
    rcases List.mem_cons.mp hu with rfl | hu
    · rw [eqU_of r f.1]; exact eqAt_V r rx f.1 fx
    · exact mem_eqAt rx fx t f.2 u' hu
def inV (x : V) (xs : List V) : Bool := xs.any fun y => eqV y x
def rIn (K : PySem.W.Frag) (neg : Bool) : R2 := fun x y H Q => ∃ p xs, y = .ref p ∧ (SqL K H p xs ∨ SqT K H p xs) ∧ flatV x = true ∧ xs.all flatV = true ∧ Q (.bl (if neg then !inV x xs else inV x xs)) H
theorem op_in_seq : OpR X (compareOp .In) (rIn X.K false) := by
  intro pins s σ H x y v u Q I rx ry h
  obtain ⟨p, xs, rfl, hq, fx, fs, q⟩ := h
  cases ry
  rcases hq with hq | hq
  · obtain ⟨its, r, pl, hz⟩ := I.list hq
    refine SeqAt.in_listAt (eqU x) pl.isList (fun w hw => mem_eqAt rx fx r fs w (by simpa using hw)) ⟨.bl _, H, I, rfl, ?_⟩
    rw [show its.toArray.any (eqU x) = its.any (eqU x) by simp, any_eqU r fs]
    exact q
  · obtain ⟨its, r, pl, hz⟩ := I.tuple hq
    refine SeqAt.in_tupleAt (eqU x) pl (fun w hw => mem_eqAt rx fx r fs w (by simpa using hw)) ⟨.bl _, H, I, rfl, ?_⟩
    rw [show its.toArray.any (eqU x) = its.any (eqU x) by simp, any_eqU r fs]
    exact q
/-! ### len, list(x), tuple(x) of any list or tuple that is read -/
theorem call_len_seq : CallR X (.builtin "len") (fun xs H Q => ∃ p ys, xs = [.ref p] ∧ (SqL X.K H p ys ∨ SqT X.K H p ys) ∧ Q (.int ys.length) H) := by
  intro pins s σ H xs us Q I r h
  obtain ⟨p, ys, rfl, hq, q⟩ := h
  obtain ⟨u, rfl, rx⟩ := vals1 r
  cases rx
  have hn := line63
  rcases hq with hq | hq
  · obtain ⟨its, r', pl, hz⟩ := I.list hq
    have hlen := r'.length
    exact Calls.call_len_list pl.isList (by simp only [List.size_toArray] <;> omega) ⟨.int ys.length, H, I.tok _, ⟨s.toks + 1, by rw [List.size_toArray, hlen]⟩, q⟩
  · obtain ⟨its, r', pl, hz⟩ := I.tuple hq
    have hlen := r'.length
    exact len_tuple pl (by simp only [List.size_toArray] <;> omega) ⟨.int ys.length, H, I.tok _, ⟨s.toks + 1, by rw [List.size_toArray, hlen]⟩, q⟩
theorem call_list_of : CallR X (.type "list") (fun xs H Q => ∃ p ys, xs = [.ref p] ∧ (SqL X.K H p ys ∨ SqT X.K H p ys) ∧ ∀ l, H l = none → Q (.ref l) (upd H l (.lst ys))) := by
  intro pins s σ H xs us Q I r h
  obtain ⟨p, ys, rfl, hq, q⟩ := h
  obtain ⟨u, rfl, rx⟩ := vals1 r
  cases rx
  have fin : ∀ (its : List Value), Vals ys its → ys.length ≤ sizeLine → ∀ (h' : Heap) (c' : Nat), (∀ b o', s.heap.get? b = some o' → h'.get? b = some o') →
      h'.get? s.heap.objs.size = some { cls := .type "list", dict := none, data := .seq its.toArray c', slots := #[] } → EP X pins σ Q (.ref s.heap.objs.size) { s with heap := h' } := fun its r' hz h' c' kp e =>
    ⟨.ref s.heap.objs.size, _, I.laid (t' := s.toks) kp (Nat.le_refl _) (show ObjOk X.prog X.w _ h' _ (.lst ys) from ⟨hz, its, c', r', e⟩), rfl, q _ (I.hok.fresh (Nat.le_refl _))⟩
  rcases hq with hq | hq
  · obtain ⟨its, r', pl, hz⟩ := I.list hq
    have hlen := r'.length
    obtain ⟨o, ho, hc, n, hd⟩ := pl.isList
    exact call_list_seq p (.inl rfl) ho hc hd (fun h' c' kp e => fin its r' hz h' c' kp e) (by simp only [List.size_toArray] <;> omega)
  · obtain ⟨its, r', pl, hz⟩ := I.tuple hq
    have hlen := r'.length
    obtain ⟨o, ho, hc, n, hd⟩ := pl
    exact call_list_seq p (.inr rfl) ho hc hd (fun h' c' kp e => fin its r' hz h' c' kp e) (by simp only [List.size_toArray] <;> omega)
/-! ### the call of a builtin's method: o.m(..) -/
def tyV (K : PySem.W.Frag) (T : String) (x : V) (H : Hp) : Prop := match x with
  | .str _ => T = "str"
  | .int _ => T = "int"
  | .ref p => (T = "list" ∧ ∃ xs, SqL K H p xs) ∨ (T = "tuple" ∧ ∃ o, K.lookup p = some o ∧ o.cls = .type "tuple" ∧ o.dict = none) ∨
      (T = "dict" ∧ ((∃ kvs, H p = some (.dK kvs)) ∨ ∃ kvs, H p = some (.dT kvs))) ∨ (T = "set" ∧ ∃ S n, H p = some (.set S n))
  | _ => False
theorem tyV_is {pins : List (Addr × Obj)} {σ : St} {H : Hp} {s : Shared} {T : String} {x : V} {v : Value} (I : Inv X pins σ H s) (r : RelV x v) (ty : tyV X.K T x H) :
    s.TypeIs v T ∧ ∀ a, v = .ref a → ∃ ob, s.heap.get? a = some ob ∧ ob.dict = none := by
  cases x with
  | str z =>
    obtain ⟨t, rfl⟩ := r
    cases (show T = "str" from ty)
    exact ⟨typeIs_str s z t, fun _ e => nomatch e⟩
  | int i =>
    obtain ⟨t, rfl⟩ := r
    cases (show T = "int" from ty)
    exact ⟨typeIs_int s i t, fun _ e => nomatch e⟩
  | ref p =>
    cases r
    rcases ty with ⟨rfl, xs, hq⟩ | ⟨rfl, o, hk, hc, hd⟩ | ⟨rfl, hk⟩ | ⟨rfl, S, n, hk⟩
    · obtain ⟨its, _, pl, _⟩ := I.list hq
      refine ⟨pl.isList.typeIs, fun a e => ?_⟩
      cases e
      obtain ⟨o, n, e, c, hd, _⟩ := pl
      exact ⟨o, e, hd⟩
    · refine ⟨⟨o, I.kIn p o hk, hc⟩, fun a e => ?_⟩
      cases e
      exact ⟨o, I.kIn _ o hk, hd⟩
    · have z : ∃ o, s.heap.get? p = some o ∧ o.ExactDict := by
        rcases hk with ⟨kvs, hk⟩ | ⟨kvs, hk⟩
        · obtain ⟨_, _, _, _, o, _, _, e, ex, _⟩ := I.hok p _ hk
          exact ⟨o, e, ex⟩
        · obtain ⟨_, _, _, _, o, _, _, e, ex, _⟩ := I.hok p _ hk
          exact ⟨o, e, ex⟩
      obtain ⟨o, e, ex⟩ := z
      refine ⟨⟨o, e, ex.1⟩, fun a e2 => ?_⟩
      cases e2
      exact ⟨o, e, ex.2.1⟩
    · obtain ⟨o, _, _, _, e, ex, _⟩ := I.hok p _ hk
      refine ⟨⟨o, e, ex.1⟩, fun a e2 => ?_⟩
      cases e2
      exact ⟨o, e, ex.2.1⟩
  | _ => exact False.elim ty
def tBM0 (K : PySem.W.Frag) (T : String) (r : V → List V → Hp → VK → Prop) (to : TE) : TE := fun σ H Q => to σ H fun x H1 => tyV K T x H1 ∧ r x [] H1 Q
def tBM (K : PySem.W.Frag) (T : String) (r : V → List V → Hp → VK → Prop) (to : TE) (t : TA) : TE := fun σ H Q => to σ H fun x H1 => tyV K T x H1 ∧ t σ H1 fun xs H2 => r x xs H2 Q
variable {o e : Expr} {es : List Expr} {to : TE} {t : TA} {name : Str} {apos cpos : Pos} {T id : String} {r : V → List V → Hp → VK → Prop}
theorem pe_bm (pa : PlainAttrs T) (slot : Slot T name id) (hty : typeOf (.builtin id) = pure (.type "method_descriptor")) (hm : MtR X id r) (ho : PE X o to) (ha : PA X (e :: es) t)
    (hbase : attributeBase o name X.env (eval o X.env) = eval o X.env := by rfl)
    (hfew : ((backTo cpos (starEach (e :: es) X.env)).all (fun x => !x.1) && (backToKw cpos (keywordEach [] X.env)).all (fun x => x.1.isSome)
      && decide ((e :: es).length + ([] : List Keyword).length + (if ([] : List Keyword).isEmpty then 0 else 1) < 30)) = true := by rfl)
    (hline : (apos.endLine == cpos.line) = true := by rfl) (hs : starEach (e :: es) X.env = (false, eval e X.env) :: starEach es X.env := by rfl) (hplain : (backTo cpos (starEach es X.env)).any (·.1) = false := by rfl) :
    PE X (.Call (.Attribute o name apos) (e :: es) [] cpos) (tBM X.K T r to t) := by
  intro pins s σ H Q I h
  refine wpAny_Call_method_late hbase hfew hline rfl (thn (ho pins s σ H _ I h) fun v s1 ⟨x, H1, I1, r1, ty, q1⟩ => ?_)
  obtain ⟨h1, h2⟩ := tyV_is I1 r1 ty
  refine ⟨T, id, pa, slot, hty, h1, h2, ?_⟩
  have hA := ha cpos pins s1 σ H1 _ I1 q1
  rw [hs] at hA ⊢
  refine Calls.callWith_builtin (by show (false || (backTo cpos (starEach es X.env)).any (·.1)) = false; rw [hplain] <;> rfl) (Calls.evalArgs_plain ?_)
  exact thn hA fun us s2 ⟨vs, H2, I2, r2, q2⟩ => hm pins s2 σ H2 x vs v us Q I2 r1 r2 q2
/- xs.append(e), list.index on a module's tuple .. are MtR facts of 06m -/
end
end L2

namespace L2
open PySem PySem.Spec PyProof.Rows

def MtM (X : Cx) (id : String) (r : V → List V → Hp → VK → Prop) : Prop :=
  ∀ (pins : List (Addr × Obj)) (s : Shared) (σ : St) (H : Hp) (x : V) (xs : List V) (v : Value) (us : List Value) (Q : VK), Inv X pins σ H s → RelV x v → Vals xs us → r x xs H Q →
    wpAny (model X.prog X.w) X.A (call (.builtin id) (v :: us)) (EP X pins σ Q) X.xe s

/-! ### lists of values -/
theorem Vals.one : ∀ {x : V} {us : List Value}, Vals [x] us → ∃ u, us = [u] ∧ RelV x u
  | _, _, .cons r .nil => ⟨_, rfl, r⟩
theorem Vals.two : ∀ {x y : V} {us : List Value}, Vals [x, y] us → ∃ u v, us = [u, v] ∧ RelV x u ∧ RelV y v
  | _, _, _, .cons r (.cons q .nil) => ⟨_, _, rfl, r, q⟩
theorem Vals.rep {xs : List V} {us : List Value} (h : Vals xs us) : ∀ k : Nat, Vals (List.replicate k xs).flatten (List.replicate k us).flatten
  | 0 => .nil
  | k + 1 => by
    rw [List.replicate_succ, List.replicate_succ, List.flatten_cons, List.flatten_cons]
    exact Vals.append h (Vals.rep h k)
theorem foldl_rep (its : List Value) : ∀ (k : Nat) (acc : List Value),
    List.foldl (fun x1 x2 => x1 ++ x2) acc.toArray (List.replicate k its.toArray) = (acc ++ (List.replicate k its).flatten).toArray
  | 0, acc => by simp
  | k + 1, acc => by
    have e : acc.toArray ++ its.toArray = (acc ++ its).toArray := by simp
    have e2 : (acc ++ its) ++ (List.replicate k its).flatten = acc ++ (List.replicate (k + 1) its).flatten := by
      rw [List.replicate_succ, List.flatten_cons, List.append_assoc]
    rw [← e2, ← foldl_rep its k (acc ++ its), ← e, List.replicate_succ, List.foldl_cons]

section
variable {X : Cx} {pins : List (Addr × Obj)} {σ : St} {H : Hp} {s : Shared} {l b : Addr} {xs ys zs : List V}

/-! ### the two steps: a tracked list is rewritten, a new list is laid -/
theorem Inv.lset {its its' : List Value} {n : Nat} {f : Array Value → Array Value} {t' : Nat} (I : Inv X pins σ H s) (hH : H l = some (.lst xs))
    (e : s.heap.get? l = some { cls := .type "list", data := .seq its.toArray n }) (hf : f its.toArray = its'.toArray) (hv : Vals ys its') (hz : ys.length ≤ sizeLine) :
    Inv X pins σ (upd H l (.lst ys)) { s with heap := s.heap.update l (Obj.mapSeq f), toks := t' } := by
  have q := PySem.IsL.update e f
  rw [hf] at q
  refine I.write (x := l) (e := l) (by rw [hH]; exact trivial) (.inl rfl) (fun b' u hb hu => (Heap.get?_update_other s.heap (Obj.mapSeq f) (Ne.symm hb)).trans hu) ⟨_, q⟩ ?_
  exact ⟨hz, its', _, hv, q⟩
theorem Inv.lnew {its : List Value} {t' : Nat} (I : Inv X pins σ H s) (hv : Vals ys its) (hz : ys.length ≤ sizeLine) :
    Inv X pins σ (upd H s.heap.objs.size (.lst ys)) { s with heap := s.heap.push { cls := .type "list", data := .seq its.toArray }, toks := t' } :=
  I.laid (fun _ _ q => Heap.get?_push_of_some _ q) (Nat.le_refl _) ⟨hz, its, 0, hv, Heap.get?_push_size _ rfl⟩
theorem Inv.fresh (I : Inv X pins σ H s) : H s.heap.objs.size = none := I.hok.fresh (Nat.le_refl _)
theorem Inv.lstM (I : Inv X pins σ H s) (hH : H l = some (.lst xs)) : xs.length ≤ sizeLine ∧ ∃ (its : List Value) (n : Nat), Vals xs its ∧ xs.length = its.length ∧ s.heap.get? l = some { cls := .type "list", data := .seq its.toArray n } := by
  obtain ⟨z, its, n, r, e⟩ := I.hok l _ hH
  exact ⟨z, its, n, r, r.length, e⟩

theorem notLongL {n : Nat} (h : n ≤ sizeLine) : Builtin.List.listTooLong n = false := by
  unfold Builtin.List.listTooLong
  exact decide_eq_false (by omega)
end

section
variable {X : Cx}

/-! ### methods -/
def rAppend : V → List V → Hp → VK → Prop := fun x vs H Q => ∃ l xs y, x = .ref l ∧ vs = [y] ∧ H l = some (.lst xs) ∧ xs.length < sizeLine ∧ Q .non (upd H l (.lst (xs ++ [y])))
theorem mt_append : MtM X "list.append" rAppend := by
  intro pins s σ H x vs v us Q I rx rv h
  obtain ⟨l, xs, y, rfl, rfl, hH, hz, q⟩ := h
  cases rx
  obtain ⟨u, rfl, ru⟩ := rv.one
  obtain ⟨z, its, n, r, hl, e⟩ := I.lstM hH
  refine call_meets F.slot_list_append ⟨_, e, rfl⟩ F.entry_list_append (F.args_list_append_2 _ _) (PySem.list_append l its.toArray n u (by rw [List.size_toArray]; omega)) ⟨e, ?_⟩
  refine ⟨.non, _, I.lset (its' := its ++ [u]) hH e (by simp) (r.append (.cons ru .nil)) ?_, rfl, q⟩
  rw [List.length_append, List.length_singleton]
  omega

def rExtend : V → List V → Hp → VK → Prop := fun x vs H Q => ∃ l b xs zs, x = .ref l ∧ vs = [.ref b] ∧ H l = some (.lst xs) ∧ H b = some (.lst zs) ∧ xs.length + zs.length ≤ sizeLine ∧ Q .non (upd H l (.lst (xs ++ zs)))
def rPop : V → List V → Hp → VK → Prop := fun x vs H Q => ∃ l xs y, x = .ref l ∧ vs = [] ∧ H l = some (.lst xs) ∧ xs[xs.length - 1]? = some y ∧ Q y (upd H l (.lst xs.dropLast))
def rPopAt : V → List V → Hp → VK → Prop := fun x vs H Q => ∃ l xs i k y, x = .ref l ∧ vs = [.int i] ∧ H l = some (.lst xs) ∧ -(2 ^ 63) ≤ i ∧ i < 2 ^ 63 ∧ seqIndex? i xs.length = some k ∧ xs[k]? = some y ∧ Q y (upd H l (.lst (xs.eraseIdx k)))
def rReverse : V → List V → Hp → VK → Prop := fun x vs H Q => ∃ l xs, x = .ref l ∧ vs = [] ∧ H l = some (.lst xs) ∧ Q .non (upd H l (.lst xs.reverse))
def rClear : V → List V → Hp → VK → Prop := fun x vs H Q => ∃ l xs, x = .ref l ∧ vs = [] ∧ H l = some (.lst xs) ∧ Q .non (upd H l (.lst []))
/-! ### list + list, list += list, list * int -/
def rCat : R2 := fun x y H Q => ∃ l b xs zs, x = .ref l ∧ y = .ref b ∧ H l = some (.lst xs) ∧ H b = some (.lst zs) ∧ xs.length + zs.length ≤ sizeLine ∧ ∀ p, H p = none → Q (.ref p) (upd H p (.lst (xs ++ zs)))
theorem op_cat : OpR X (binaryOp .Add) rCat := by
  intro pins s σ H x y v u Q I rx ry h
  obtain ⟨l, b, xs, zs, rfl, rfl, hH, hB, hz, q⟩ := h
  cases rx
  cases ry
  obtain ⟨z, its, n, r, hl, e⟩ := I.lstM hH
  obtain ⟨z2, its2, n2, r2, hl2, e2⟩ := I.lstM hB
  refine PySem.P.add_list e e2 ?_ (by rw [List.size_toArray, List.size_toArray]; omega)
  have ea : its.toArray ++ its2.toArray = (its ++ its2).toArray := by simp
  rw [ea]
  exact ⟨.ref _, _, I.lnew (t' := s.toks) (r.append r2) (by rw [List.length_append]; omega), rfl, q _ I.fresh⟩
def rRep : R2 := fun x y H Q => ∃ l k xs, x = .ref l ∧ y = .int k ∧ H l = some (.lst xs) ∧ -(2 ^ 63) ≤ k ∧ k < 2 ^ 63 ∧ xs.length * k.toNat ≤ sizeLine ∧
  ∀ p, H p = none → Q (.ref p) (upd H p (.lst (List.replicate k.toNat xs).flatten))
theorem len_rep {α : Type} (xs : List α) (k : Nat) : (List.replicate k xs).flatten.length = k * xs.length := by
  induction k with
  | zero => simp
  | succ k ih => rw [List.replicate_succ, List.flatten_cons, List.length_append, ih, Nat.succ_mul, Nat.add_comm]
theorem op_rep : OpR X (binaryOp .Mult) rRep := by
  intro pins s σ H x y v u Q I rx ry h
  obtain ⟨l, k, xs, rfl, rfl, hH, h1, h2, hz, q⟩ := h
  cases rx
  obtain ⟨t, rfl⟩ := ry
  obtain ⟨z, its, n, r, hl, e⟩ := I.lstM hH
  have hlen : its.toArray.size * k.toNat ≤ sizeLine := by rw [List.size_toArray, ← hl]; exact hz
  have hcap : ¬ its.toArray.size * k.toNat > (2 ^ 63 - 1) / 8 := by
    have : (sizeLine : Nat) ≤ (2 ^ 63 - 1) / 8 := by decide
    omega
  have hfit : ¬ (!Builtin.List.listFitsIndex k) = true := by
    rw [fitsIndex_both h1 h2]
    exact Bool.false_ne_true
  have hlong : ¬ Builtin.List.listTooLong (its.toArray.size * k.toNat) = true := by
    rw [notLongL hlen]
    exact Bool.false_ne_true
  have hnew : List.foldl (fun x1 x2 => x1 ++ x2) #[] (List.replicate (if its.toArray.isEmpty = true then 0 else k.toNat) its.toArray) = (List.replicate k.toNat its).flatten.toArray := by
    have f0 : ∀ m : Nat, List.foldl (fun x1 x2 => x1 ++ x2) #[] (List.replicate m its.toArray) = (List.replicate m its).flatten.toArray := fun m => by
      have := foldl_rep its m []
      rw [List.nil_append] at this
      exact this
    rw [f0]
    cases its with
    | nil => simp
    | cons a r' => rw [if_neg (by simp)]
  refine wpAny_binaryOp_repeat_ref (T := "list") (U := "int") (by decide) ⟨_, e, rfl⟩ (fun s' => typeIs_int s' k t) noFill_list_mul F.fills_int_mul F.slot_int_rmul repeat_list F.slot_int_index.lookup
    (call_meets F.slot_int_rmul (typeIs_int s k t) F.entry_int_rmul (F.args_int_rmul_2 _ _) (int___rmul___int_list k t l its.toArray n)
      ⟨e, rfl, ⟨_, e, rfl⟩, call_meets F.slot_list_mul ⟨_, e, rfl⟩ F.entry_list_mul (F.args_list_mul_2 _ _) (AutoListH.list___mul___list_int_3 l its.toArray n k t hfit hcap hlong) ⟨e, ?_⟩⟩)
  rw [hnew]
  exact ⟨.ref _, _, I.lnew (t' := s.toks) (r.rep k.toNat) (by rw [len_rep, Nat.mul_comm]; exact hz), rfl, q _ I.fresh⟩

/-! ### del xs[i] -/
end

/-! ### xs[a:b] = ys -/
section
variable {prog : Program} {w : World} {A : Around} {E : Value → Shared → Prop} {s : Shared}
set_option maxRecDepth 100000 in
end

section
variable {X : Cx}
end
end L2

namespace Att
open PySem PySem.W PySem.Calls PyProof.Rows

/-! ### the script -/
theorem ints_of_wellAll {P : Params} {h : Heap} : ∀ (ns : List Int) (vs : List Value), WellAll P h vs (ns.map WData.int) → IntsAre vs ns := by
  intro ns
  induction ns with
  | nil =>
    intro vs w
    rw [List.map_nil] at w
    cases w
    exact .nil
  | cons n ns ih =>
    intro vs w
    rw [List.map_cons] at w
    cases w with
    | cons a b =>
      cases a
      exact .cons _ _ (ih _ b)

theorem script_of {l : OpenLaw} {n : Nat} (hn : l.most = some n) {P : Params} {h : Heap} {args : List WData} {vals : List Value}
    (hpre : l.row.toRowW.claim.pre args = true) (hwl : WellAll P h vals args) :
    ∃ a vs ns, vals = [Value.ref a] ∧ args = [WData.list (ns.map WData.int)] ∧ h.get? a = some { cls := .type "list", data := .seq vs.toArray } ∧ IntsAre vs ns ∧ ns.length ≤ n := by
  have hsh : WShape.hasAll [] args [.list .int] = true := (pre_splitW hpre).1
  have hc : l.pre.holds [] { args := args } = true := (pre_splitW hpre).2
  obtain ⟨d, r, rfl, h1, h2⟩ := hasAllW_cons hsh
  obtain rfl := hasAllW_nil h2
  obtain ⟨xs, rfl, h3⟩ := hasW_list h1
  obtain ⟨ns, rfl⟩ := items_int h3
  have hlen : ns.length ≤ n := by
    unfold OpenLaw.pre at hc
    have h4 : (WTm.not (.lt (.lit (.int (n : Int))) (.len (.arg 0)))).holds [] { args := [.list (ns.map .int)] } = true := by
      have h4 := (holds_andW hc).1
      rw [hn] at h4
      exact h4
    have h5 := condW_of h4 (w_not (w_lt w_lit (w_len_list (w_arg rfl))))
    rw [List.length_map] at h5
    refine Nat.le_of_not_lt fun q => ?_
    have q' : (n : Int) < ((ns.length : Nat) : Int) := by omega
    first
      | (rw [decide_eq_true q'] at h5; exact absurd h5 (by decide))
      | (simp at h5; omega)
  cases hwl with
  | cons w1 w2 =>
    cases w2
    cases w1 with
    | list ho hall => exact ⟨_, _, ns, rfl, rfl, ho, ints_of_wellAll ns _ hall, hlen⟩

theorem post_true (l : OpenLaw) (args : List WData) : l.row.toRowW.claim.post args (.bool true) args = true :=
  postW_of (r := l.row.toRowW) (X := (true == true))
    (show WShape.has [] (.bool true) .bool = true by first | rfl | decide | simp [WShape.has, WShape.arms, WShape.armsAll])
    (show (WTm.eq .res (.lit (.bool true))).value [] { args := args, res := some (.bool true), after := args } = some (.bool (true == true)) from w_eq_bool (w_res rfl) w_lit) rfl

/-! ### the attachment: holds_open's last premise (the goal 'hc' behind k_head) from a wpAny of the law's body -/
theorem attach_call {l : OpenLaw} {n : Nat} {q : Program} {loose : List Str} {XP : (Str → Option Value) → Heap → Prop} {YP : World → Heap → Prop} {d : DefRec}
    (hn : l.most = some n) (hdf : d.params.defaults = [])
    (call : ∀ (w : World) (s₀ s₁ : Shared) (mg mb : Str → Option Value) (fa : Addr) (o : Obj) (pm cd doc : Value) (a : Addr) (vs : List Value) (ns : List Int),
      Ground q loose [] XP w s₀ mg mb s₁.heap → YP w s₁.heap →
      s₁.heap.get? fa = some o → o.data = .func (docDef d.name d.params d.body d.scope pm cd doc) → s₁.heap.CodeRec cd d.name → mg d.name = some (.ref fa) →
      s₁.heap.get? a = some { cls := .type "list", data := .seq vs.toArray } → IntsAre vs ns → ns.length ≤ n → s₁.gens = #[] →
      codeAny (model l.prog w) callerA (.call (.ref fa) ⟨[.ref a], []⟩) (fun r s' => r = .ok (.ret (.bool true)) ∧ OldK s₁.heap s'.heap ∧ s'.os = s₁.os ∧ AllBare s'.gens) s₁) :
    WalkO q loose XP YP l.row.toRowW d [] (fun f vs => PySem.call f vs) := by
  intro w s₀ s₁ mg mb G Y fa o pm cd doc dV kV ho hd hcd hD hmg hg args vals as hpre hlay hrd hwl hlo
  obtain rfl : dV = .none := Dflts.none hD hdf
  obtain rfl : kV = .none := Dflts.noKw hD
  obtain ⟨a, vs, ns, rfl, rfl, hobj, hints, hlen⟩ := script_of hn hpre hwl
  refine enter_call (codeAny_mono (call w s₀ s₁ mg mb fa o pm cd doc a vs ns G Y ho (fd_plain hd) hcd hmg hobj hints hlen hg) fun r s' hq => ?_)
  obtain ⟨rfl, h2, h3, h4⟩ := hq
  exact ⟨.inl ⟨.bool true, .bool true, [], rfl, fun _ => rfl, .bool true, post_true l _, fun _ => ⟨List.Pairwise.nil, fun _ hm => (nomatch hm)⟩⟩, h2, h3, h4⟩

/-! ### rules over ANY heap (no ledger) from facts about the written part K: the library's own take a ledger (News) for what they write -/
section
variable {prog : Program} {w : World} {A : Around} {E : Value → Shared → Prop} {s : Shared} {K : Frag}

/-! the whole heap as the ledger: makes every rule that writes through a ledger a rule over any heap -/
def noObjs (h : Heap) : Heap := { h with objs := #[] }
def ledger (h : Heap) (L d : Addr) : List (Addr × Obj) := (List.range h.objs.size).filterMap fun a => if a = L ∨ a = d then none else (h.get? a).map fun o => (a, o)
end
end Att

namespace L2
open PySem PySem.Spec PyProof.Rows

theorem vals_ints : ∀ {vs : List Value} {ns : List Int}, IntsAre vs ns → Vals (ns.map V.int) vs
  | _, _, .nil => .nil
  | _, _, .cons n t h => .cons ⟨t, rfl⟩ (vals_ints h)

def Only (H : Hp) : Prop := ∀ b, H b = none ∨ ∃ o xs, H b = some (.frz o (.lst xs))

theorem law_call {P : Program} {w : World} {K : PySem.W.Frag} {mg mb : Str → Option Value} {CX : CXT} {k : Nat} {fa a : Addr} {fd : FuncData} {x : Str} {sp : Sp} {s₁ : Shared} {vs : List Value} {ns : List Int}
    (KX : K.In s₁.heap) (hns : s₁.heap.Ns mainGlobals mg) (hb : s₁.heap.Ns builtinsNs mb) (hbb : ∀ x : Str, x ≠ "__name__" → mb x = bootBuiltins x) (hlim : s₁.heap.NoLimit) (hg : s₁.gens = #[])
    (ha : s₁.heap.get? a = some { cls := .type "list", data := .seq vs.toArray }) (hi : IntsAre vs ns) (hl : ns.length ≤ sizeLine) (hr : Room k callerA)
    (F : ∀ base : Heap, K.In base → base.Ns mainGlobals mg → FnOk P w K mg base CX k fa fd [x] sp) (hbind : ∀ (s : Shared) (u : Value), BindsTo s fd ⟨[u], []⟩ [(x, u)])
    (hsp : ∀ H : Hp, Only H → SqL K H a (ns.map V.int) → sp [.ref a] H (fun v _ => v = .bl true) fun _ _ _ => False)
    (hCX : ∀ H e s', CX [] H s₁ (fun _ _ _ => False) e s' → False) :
    codeAny (model P w) callerA (.call (.ref fa) ⟨[.ref a], []⟩) (fun r s' => r = .ok (.ret (.bool true)) ∧ OldK s₁.heap s'.heap ∧ s'.os = s₁.os ∧ AllBare s'.gens) s₁ := by
  have rv := vals_ints hi
  have lenV := hi.length
  -- from an abstract heap in which nothing but the script may be tracked
  have core : ∀ H : Hp, Only H → SqL K H a (ns.map V.int) → HOk P w H s₁.heap → (∀ b, H b ≠ none → b = a) → (H a ≠ none → K.lookup a = none) →
      codeAny (model P w) callerA (.call (.ref fa) ⟨[.ref a], []⟩) (fun r s' => r = .ok (.ret (.bool true)) ∧ OldK s₁.heap s'.heap ∧ s'.os = s₁.os ∧ AllBare s'.gens) s₁ := by
    intro H hO hS hok hA hK
    have base_of : ∀ {b : Addr} {o : Obj}, s₁.heap.get? b = some o → H b = none → (hidT s₁.heap H).get? b = some o := fun e n => hidT_get e n
    have noA : ∀ {b : Addr} {o : Obj} {es : Array DictEntry} {ep : Nat}, s₁.heap.get? b = some o → o.data = .dict es ep → H b = none := fun {b o es ep} e d => by
      cases q : H b with
      | none => rfl
      | some u =>
        have e' : b = a := hA b (by rw [q]; simp)
        subst e'
        rw [ha] at e; cases e
        have d' : Data.seq vs.toArray _ = Data.dict es ep := d
        cases d'
    have nsK : ∀ {b : Addr} {m : Str → Option Value}, s₁.heap.Ns b m → (hidT s₁.heap H).Ns b m := fun {b m} ⟨o, es, ep, e, d, r⟩ => ⟨o, es, ep, base_of e (noA e d), d, r⟩
    have hKb : K.In (hidT s₁.heap H) := fun b o e => base_of (KX b o e) (by
      cases q : H b with
      | none => rfl
      | some u =>
        have e' : b = a := hA b (by rw [q]; simp)
        subst e'
        rw [hK (by rw [q]; simp)] at e; cases e)
    have hM : Mod K mg (hidT s₁.heap H) := ⟨hKb, nsK hns, ⟨mb, nsK hb, hbb⟩, let ⟨mc, h1, h2⟩ := hlim; ⟨mc, nsK h1, h2⟩⟩
    have e0 : Env0 P w K mg (hidT s₁.heap H) callerA [] s₁ H := ⟨rfl, hM, fun b o e => of_hidT e, Nat.le_of_eq (hidT_size _ _), trivial, fun b hb => absurd (show b ∈ ([] : List Addr) from hb) (by simp), hok, .of_eq hg⟩
    refine codeAny_mono ((F _ hKb (nsK hns)).run callerA [] s₁ H ⟨[.ref a], []⟩ [.ref a] [.ref a] _ _ hr e0 (hbind s₁ (.ref a)) (.cons rfl .nil) (hsp H hO hS)) fun r s' h => ?_
    cases r with
    | error e => exact (hCX H e s' h).elim
    | ok fl =>
      cases fl with
      | next => exact False.elim h
      | brk => exact False.elim h
      | cont => exact False.elim h
      | ret u =>
        obtain ⟨v, H', os, bare, un, hok', r', q⟩ := h
        have q' : v = .bl true := q
        subst q'
        obtain rfl : u = Value.bool true := r'
        refine ⟨rfl, OldK.of_keep fun b o e => ?_, os, bare⟩
        cases q : H b with
        | none => exact un.keep b o e q (by intro z; exact absurd (show b ∈ ([] : List Addr) from z) (by simp)) (by simp)
        | some u =>
          rcases hO b with z | ⟨ob, xs, z⟩
          · rw [q] at z; cases z
          · have z2 := un.frzs b ob _ z
            obtain ⟨e1, _⟩ := hok b _ z
            obtain ⟨e2, _⟩ := hok' b _ z2
            rw [e] at e1; cases e1
            exact e2
  cases hk : K.lookup a with
  | some o =>
    -- the script is one of the module's own objects
    have e := KX a o hk
    rw [ha] at e
    cases e
    refine core (fun _ => none) (fun _ => .inl rfl) (.inr ⟨_, vs.toArray, _, hk, rfl, rfl, rfl, by rw [List.size_toArray, lenV]; exact hl, by simpa using rv⟩) (fun b u z => by have z' : (none : Option HO) = some u := z; cases z') (fun b z => absurd rfl z) fun z => absurd rfl z
  | none =>
    refine core (fun b => if b = a then some (.frz { cls := .type "list", data := .seq vs.toArray } (.lst (ns.map V.int))) else none) (fun b => ?_) (.inl (.inr ⟨{ cls := .type "list", data := .seq vs.toArray }, if_pos rfl⟩)) (fun b u z => ?_) (fun b z => ?_) fun _ => hk
    · by_cases hb : b = a
      · exact .inr ⟨_, _, if_pos hb⟩
      · exact .inl (if_neg hb)
    · by_cases hb : b = a
      · have z' := (if_pos hb).symm.trans z
        cases z'
        subst hb
        exact ⟨ha, by rw [List.length_map]; exact hl, vs, _, rv, ha⟩
      · have z' := (if_neg hb).symm.trans z
        cases z'
    · by_cases hb : b = a
      · exact hb
      · exact absurd (if_neg hb) z
end L2

namespace L2
open PySem PySem.Spec PyProof.Rows

abbrev KOf {K : PySem.W.Frag} {h : Heap} (_ : K.In h) : PySem.W.Frag := K

theorem walk_of {l : PySem.W.OpenLaw} {n k : Nat} {q : Program} {loose : List Str} {XP : (Str → Option Value) → Heap → Prop} {YP : World → Heap → Prop} {d : DefRec} {K : Params → PySem.W.Frag} {CX : World → CXT} {sp : World → Sp} {x : Str}
    (hn : l.most = some n) (hn2 : n ≤ sizeLine) (hdf : d.params.defaults = []) (hr : Room k callerA)
    (hY : ∀ (w : World) (h : Heap), YP w h → (K w.params).In h)
    (F : ∀ (w : World) (mg : Str → Option Value) (fa : Addr) (h : Heap), (K w.params).In h → h.Ns mainGlobals mg → mg d.name = some (.ref fa) →
      ∃ fd : FuncData, (∀ (s : Shared) (u : Value), BindsTo s fd ⟨[u], []⟩ [(x, u)]) ∧
        ∀ base : Heap, (K w.params).In base → base.Ns mainGlobals mg → FnOk l.prog w (K w.params) mg base (CX w) k fa fd [x] (sp w))
    (hsp : ∀ (w : World) (H : Hp) (a : Addr) (ns : List Int), ns.length ≤ n → Only H → SqL (K w.params) H a (ns.map V.int) → sp w [.ref a] H (fun v _ => v = .bl true) fun _ _ _ => False)
    (hCX : ∀ (w : World) (H : Hp) (s : Shared) (e : Value) (s' : Shared), CX w [] H s (fun _ _ _ => False) e s' → False) :
    PySem.W.WalkO q loose XP YP l.row.toRowW d [] (fun f vs => PySem.call f vs) := by
  refine Att.attach_call hn hdf fun w s₀ s₁ mg mb fa o pm cd doc a vs ns G Y ho hd hcd hmg hobj hints hlen hg => ?_
  have KX := hY w _ Y
  obtain ⟨fd, hb, hF⟩ := F w mg fa _ KX G.T.g hmg
  exact law_call KX G.T.g G.T.b G.T.builtins G.T.nolimit hg hobj hints (Nat.le_trans hlen hn2) hr hF hb (fun H hO hS => hsp w H a ns hlen hO hS) fun H e s' => hCX w H s₁ e s'
end L2

/- THE LAST THEOREM (shape; LID, My.* are yours):
   My.Adr: a structure of the addresses that your layer names (classes, functions); My.Txt K t: a structure (Prop) of the equations over K;
   My.txt_mk : {K} {implicit addresses ..} (e1 : nsIn K mainGlobals "law" = some (some (.ref f))) (e2 : K.lookup f = some ⟨oc, od, .func (fnOf "law" "law" params body scope dV kV doc pm an cdv ct), sl⟩) (e3 : codeIn K cdv "law" = true) .. : ∃ t, My.Txt K t

set_option maxRecDepth 100000 in
set_option maxHeartbeats 0 in
theorem PySem.Challenge.cw_LID_holds : PySem.Challenge.rw_LID.Holds := by
  w_on; o_law; k_head; (case hw => w_witness2)
  k_fill
  refine L2.walk_of (l := PySem.Challenge.rw_LID) (n := 63) (k := 40) (x := "script") (CX := fun w => ..) (sp := fun _ => My.sp_law) rfl (by decide) rfl ⟨rfl, by decide, by decide⟩ (fun w h Y => PySem.W.kIn_of Y) ?F ?S ?C
  case F =>
    intro w mg fa h KX G hmg
    have T : ∃ t, My.Txt (L2.KOf KX) t := by
      dsimp only [L2.KOf]                          -- K must stand as «<heap const> w.params» for k_is
      refine' My.txt_mk ?e1 ?e2 ?e3 ..
      (case e1 => PySem.W.k_is)                    -- in the order: a name -> its address -> its object -> its parts
      (case e2 => PySem.W.k_is)
      ..
    obtain ⟨t, T⟩ := T
    have e0 := hmg.symm.trans (PySem.W.mg_of KX G T.law)
    cases e0                                       -- fa is the law's own address
    exact ⟨_, fun s u => .of_eq rfl, fun base kb nb => My.law_fn T kb nb⟩     -- if «.of_eq rfl» comes too early: refine' ⟨_, ?b, fun base kb nb => My.law_fn T kb nb⟩; exact fun s u => .of_eq rfl
  case S => exact fun w H a ns hl hO hS => ..
  case C => exact ..
(the tactic k_is has no namespace: write k_is) -/

/-! SHORT WORDS over the layer: a def of the text, its body, what a loop and a test want. -/
namespace L2
open PySem PySem.Spec PyProof.Rows

/-! ### the text by places -/
/-! ### no exception leaves a def -/
abbrev CX0 : CXT := fun _ _ _ _ _ _ => False
abbrev E0 : XK := fun _ _ _ => False
theorem pass0 {X : Cx} : Passes CX0 X E0 := fun _ _ _ _ _ _ _ h => h.elim

/-! ### a def (or method) of the text as it stands behind the top -/
structure Fun (K : PySem.W.Frag) (x qual : Str) (st : Stmt) (f : Addr) (fd : FuncData) : Prop where
  ex : ∃ (oc : Value) (od : Option Addr) (kV doc pm : Value) (an : Option Addr) (cdv ct : Value) (osl : Array (Option Value)),
    fd = PySem.W.fnOf x qual (defArgs st) (defBody st) (defScope st) .none kV doc pm an cdv ct ∧ K.lookup f = some ⟨oc, od, .func fd, osl⟩ ∧ PySem.W.codeIn K cdv qual = true
  kp : PySem.W.keepIn K (.ref f) = true
section
variable {P : Program} {w : World} {K : PySem.W.Frag} {mg : Str → Option Value} {base : Heap}
theorem Fun.ok {x qual : Str} {st : Stmt} {f : Addr} {fd : FuncData} {N ps : List Str} {k : Nat} {sp : Sp} (F : Fun K x qual st f fd) (S : FnScope N ps (defScope st)) (len : ∀ vs H Q E, sp vs H Q E → vs.length = ps.length)
    (hbody : ∀ (cdv : Value) (A : Around) (outer : List Env) (s : Shared) (H : Hp) (vs : List V) (Q : VK) (E : XK), Room k (A.deeper (envOfC qual (defScope st) s.heap.objs.size f cdv)) → sp vs H Q E →
      ∃ t, PSs (cxOf CX0 P w K mg base N qual (defScope st) f cdv A outer s H E).nox (defBody st) t ∧ t { nx := fun _ H' => Q .non H', rt := Q } (start N vs) H) : FnOk P w K mg base CX0 (k + 1) f fd ps sp := by
  obtain ⟨oc, od, kV, doc, pm, an, cdv, ct, osl, rfl, lk, hcd⟩ := F.ex
  refine fn_of lk hcd S len fun A outer s H vs Q E hr hsp => ?_
  obtain ⟨t, h, q⟩ := hbody cdv A outer s H vs Q E hr hsp
  exact ⟨t, h.nox, q⟩
theorem Fun.binds {x qual : Str} {st : Stmt} {f : Addr} {fd : FuncData} {ps : List Str} (F : Fun K x qual st f fd)
    (h : ∀ (kV doc pm : Value) (an : Option Addr) (cdv ct : Value) (us : List Value), us.length = ps.length → bindArgs (PySem.W.fnOf x qual (defArgs st) (defBody st) (defScope st) .none kV doc pm an cdv ct) ⟨us, []⟩ = pure (ps.zip us)) : Binds K fd ps [] := by
  obtain ⟨oc, od, kV, doc, pm, an, cdv, ct, osl, rfl, lk, hcd⟩ := F.ex
  exact .all (h kV doc pm an cdv ct)
theorem fun_mk {x qual : Str} {st : Stmt} {f : Addr} {oc : Value} {od an : Option Addr} {osl : Array (Option Value)} {kV doc pm cdv ct : Value} (l : K.lookup f = some ⟨oc, od, .func (PySem.W.fnOf x qual (defArgs st) (defBody st) (defScope st) .none kV doc pm an cdv ct), osl⟩)
    (c : PySem.W.codeIn K cdv qual = true) (k : PySem.W.keepIn K (.ref f) = true) : Fun K x qual st f (PySem.W.fnOf x qual (defArgs st) (defBody st) (defScope st) .none kV doc pm an cdv ct) := ⟨⟨oc, od, kV, doc, pm, an, cdv, ct, osl, rfl, l, c⟩, k⟩
end
/-! ### expressions in short: the name that stands in the i-th slot -/
section
variable {X : Cx}
theorem pv (i : Nat) {x : Str} {pos : Pos} (hN : X.N[i]? = some x := by rfl) (hv : Vis X.env.scope x := by first | exact Or.inl rfl | exact Or.inr (Or.inl rfl) | exact Or.inr (Or.inr rfl)) (hd : (x == ("__debug__" : Str)) = false := by decide)
    (hcd : (x == ("__classdict__" : Str)) = false := by decide) : PE X (.Name x pos) (tVar i) := pe_var hN hv hd hcd
end

/-! ### tests -/
theorem iteF {A B : Prop} (h : B) : if false = true then A else B := by
  rw [if_neg Bool.false_ne_true]
  exact h
theorem iteT {A B : Prop} (h : A) : if true = true then A else B := by
  rw [if_pos rfl]
  exact h
theorem ite2 {c A B : Prop} [Decidable c] (h1 : c → A) (h2 : ¬ c → B) : if c then A else B := by
  by_cases h : c
  · rw [if_pos h]
    exact h1 h
  · rw [if_neg h]
    exact h2 h
/-! ### heaps -/
def Same (H H' : Hp) : Prop := ∀ b o, H b = some o → H' b = some o
theorem Same.refl (H : Hp) : Same H H := fun _ _ h => h
theorem Same.trans {H H1 H2 : Hp} (a : Same H H1) (b : Same H1 H2) : Same H H2 := fun c o h => b c o (a c o h)
theorem Same.free {H H' : Hp} (e : Same H H') {l : Addr} (h : H' l = Option.none) : H l = Option.none := by
  cases q : H l with
  | none => rfl
  | some o =>
    rw [e l o q] at h
    cases h
theorem Same.seq {K : PySem.W.Frag} {H H' : Hp} {a : Addr} {xs : List V} (e : Same H H') (h : SqL K H a xs) : SqL K H' a xs := by
  rcases h with (h | ⟨o, h⟩) | h
  · exact .inl (.inl (e _ _ h))
  · exact .inl (.inr ⟨o, e _ _ h⟩)
  · exact .inr h

end L2

end
section
open PySem PySem.W PyProof.Rows PySem.Calls PySem.Spec
set_option Elab.async false
open Builtin Builtin.ObjectAttr Builtin.Getset_descriptor
set_option maxRecDepth 100000
set_option maxHeartbeats 4000000
namespace EX
section
variable {prog : Program} {w : World} {A : Around} {E : Value → Shared → Prop} {s : Shared} {K : Frag} {x C D : Addr}
theorem ty {M : Model} {h : Heap} {ox : Obj} (hx : h.get? x = some ox) (hc : ox.cls = .ref C) : Looks M h (typeOf (.ref x)) (.ref C) := hc ▸ (Looks.ld hx).andThen .now
theorem class_get {R : Result → Shared → Prop} {tp : Value} (X : K.In s.heap) (L0 : Looks (model prog w) s.heap (typeOf (.ref x)) (.ref C)) (hm : mroIn K C (.type "object") = some true)
    (h : R (.ok (.ret (.ref C))) s) : codeAny (model prog w) A (.call (.builtin "getset_descriptor.__get__") ⟨[.builtin "object.__class__", .ref x, tp], []⟩) R s := by
  obtain ⟨hh, g, dr, t, os⟩ := s
  have L1 := looks_mroIn (M := model prog w) X hm
  refine codeAny_call_builtin KF.slot_gs.plain KF.entry_gs (KF.slot_gs.check _ _ _ _ _ _ _ _ KF.type_class (KF.args_gs _ _ _) ?_)
  unfold Builtin.«getset_descriptor.__get__» descrGet
  rw [dga_obj]
  refine wpAny_bind (wpAny_pure ?_)
  unfold descrGetter descrCheckInstance descrNameAndClass isInstance
  simp only [KF.owner_class]
  repeat lk
  refine ⟨Code.quiet_builtin _ (by decide +kernel), codeAny_builtin KF.entry_class ?_⟩
  unfold Builtin.«object.__class__» shownTypeOf
  repeat lk
  exact h
theorem look {M : Model} {h : Heap} {a g : Value} {name : Str} (X : K.In h) (ha : findIn K (.ref C) name = some (some a)) (hn : specialIn K a "__get__" = some (some g)) (htk : takesIn K a = some true) :
    Looks M h (Builtin.ObjectAttr.find (.ref x) (.ref C) name) (.bind g a) :=
  (looks_findIn X ha).andThen ((looks_specialIn X hn).andThen ((show Looks M h (Builtin.ObjectAttr.dataDescriptor? (some a) (some g)) (some (g, a)) from (looks_takesIn X htk).andThen .now).andThen (Looks.tag .now)))
theorem check_ga {M : Model} {nameV : Value} {Q : Unit → Shared → Prop} (X : K.In s.heap) (L0 : Looks M s.heap (typeOf (.ref x)) (.ref C)) (hm : mroIn K C (.type "BaseException") = some true) (hq : Q () s) :
    wpAny M A (checkBuiltinCall "BaseException.__getattribute__" ⟨[.ref x, nameV], []⟩) Q E s := by
  obtain ⟨hh, g, dr, t, os⟩ := s
  have L1 := looks_mroIn (M := M) X hm
  have hk : builtinKind "BaseException.__getattribute__" = some .slot := by decide +kernel
  have hsplit : splitId "BaseException.__getattribute__" = some ("BaseException", "__getattribute__") := by decide +kernel
  have ha := F.args_bexc_ga (.ref x) nameV
  simp only [checkBuiltinCall, hk, hsplit]
  refine wpAny_bind ?_
  unfold isInstance
  repeat (first | lk | wp_step)
  exact hq
theorem ga_entry {g a : Value} {tk : Tok} {name : Str} {Q : Fin → Shared → Prop} (L0 : Looks (model prog w) s.heap (typeOf (.ref x)) (.ref C)) (Lf : Looks (model prog w) s.heap (find (.ref x) (.ref C) name) (.bind g a))
    (h : wpAny (model prog w) A (call g [a, .ref x, .ref C]) (fun v s' => Q (.done (.ret v)) s') E s) :
    wpAny (model prog w) A (Builtin.«object.__getattribute__» ⟨[.ref x, .str name tk], []⟩) Q E s := by
  obtain ⟨hh, gg, dr, t, os⟩ := s
  refine wpAny_bind (wpAny_pure (a := (Value.ref x, [Value.str name tk])) ?_)
  refine wpAny_bind (wpAny_pure (a := name) ?_)
  refine wpAny_bind (L0.at ?_)
  refine wpAny_bind (Lf.at ?_)
  show wpAny _ _ (holding [a] (call g [a, .ref x, .ref C]) >>= ret) _ _ _
  exact wpAny_bind (wpAny_holding (wpAny_mono h (fun v s' z => wpAny_pure z) fun _ _ z => z))
theorem class_attr {Q : Option Value → Shared → Prop} (X : K.In s.heap) (L0 : Looks (model prog w) s.heap (typeOf (.ref x)) (.ref C))
    (hga : findIn K (.ref C) "__getattribute__" = some (some (.builtin "BaseException.__getattribute__"))) (hk : findIn K (.ref C) "__getattr__" = some none)
    (ha : findIn K (.ref C) "__class__" = some (some (.builtin "object.__class__"))) (hn : specialIn K (.builtin "object.__class__") "__get__" = some (some (.builtin "getset_descriptor.__get__")))
    (htk : takesIn K (.builtin "object.__class__") = some true) (hm : mroIn K C (.type "object") = some true) (hb : mroIn K C (.type "BaseException") = some true)
    (h : Q (some (.ref C)) { s with toks := s.toks + 1 }) : wpAny (model prog w) A (getAttr? (.ref x) "__class__") Q E s := by
  obtain ⟨hh, g, d, t, os⟩ := s
  have L1 := looks_findIn (M := model prog w) X hga
  have L2 := looks_findIn (M := model prog w) X hk
  have Lf := look (M := model prog w) (x := x) X ha hn htk
  have hx2 : (Value.builtin "BaseException.__getattribute__" == Value.builtin "object.__getattribute__") = false := by decide +kernel
  unfold getAttr? getAttrBy? getAttrBy
  refine wpAny_bind (wpAny_mkText (wpAny_bind (wpAny_attempt (wpAny_holding (wpAny_bind (L0.at (wpAny_bind (L1.at ?_))))))))
  dsimp only
  rw [if_neg (by rw [hx2, Bool.and_false]; exact Bool.false_ne_true)]
  unfold getAttrByItsOwn hookBefore
  refine wpAny_bind (L2.at ?_)
  refine wpAny_bind (wpAny_attempt (wpAny_holding ?_))
  unfold callGetattribute boundAndCalled
  rw [if_neg (by decide)]
  rw [PySem.F.attr_ValueError.ga.bind (.ref x)]
  refine wpAny_bind (wpAny_pure (wpAny_call ?_))
  refine codeAny_call_builtin PySem.F.attr_ValueError.ga.plain F.entry_bexc_ga (check_ga X L0 hb ?_)
  refine ga_entry L0 Lf ?_
  refine wpAny_call (class_get X L0 hm ?_)
  exact handed_on rfl (wpAny_pure h)
theorem nested {c : Value} {dep : Int} {tk : Tok} {Q : Fin → Shared → Prop} (X : K.In s.heap) (L0 : Looks (model prog w) s.heap (typeOf (.ref x)) (.ref D))
    (hga : findIn K (.ref D) "__getattribute__" = some (some (.builtin "BaseException.__getattribute__"))) (hk : findIn K (.ref D) "__getattr__" = some none)
    (ha : findIn K (.ref D) "__class__" = some (some (.builtin "object.__class__"))) (hn : specialIn K (.builtin "object.__class__") "__get__" = some (some (.builtin "getset_descriptor.__get__")))
    (htk : takesIn K (.builtin "object.__class__") = some true) (hm : mroIn K D (.type "object") = some true) (hb : mroIn K D (.type "BaseException") = some true)
    (hty : Looks (model prog w) s.heap (typeOf c) (.type "type")) (his : Looks (model prog w) s.heap (isType c) true) (hisD : Looks (model prog w) s.heap (isType (.ref D)) true)
    (hne : (Value.ref D == c) = false) (hsub : Looks (model prog w) s.heap (isSubtype (.ref D) c) false) (h : Q (.done (.ret (.bool false))) { s with toks := s.toks + 1 }) :
    wpAny (model prog w) A (Builtin.«isinstance.nested» ⟨[.ref x, c, .int dep tk], []⟩) Q E s := by
  obtain ⟨h0, g, d, tt, os⟩ := s
  have LI : Looks (model prog w) h0 (isInstance (.ref x) c) false := L0.andThen hsub
  unfold Builtin.«isinstance.nested»
  refine wpAny_bind (L0.at ?_)
  rw [if_neg (fun q => by rw [hne] at q; exact Bool.noConfusion q)]
  refine wpAny_bind (hty.at ?_)
  rw [if_pos (by decide)]
  k_delta "plainIsInstance"
  refine wpAny_bind (wpAny_bind (his.at ?_))
  simp only [Bool.not_true, Bool.false_eq_true, if_false]
  refine wpAny_bind (LI.at ?_)
  simp only [Bool.false_eq_true, if_false]
  refine wpAny_bind (class_attr X L0 hga hk ha hn htk hm hb ?_)
  refine wpAny_bind (hisD.at ?_)
  simp only [Bool.not_true, Bool.false_eq_true, if_false]
  refine wpAny_bind (wpAny_rule ?_)
  refine hsub.at ?_
  first
    | exact wpAny_pure h
    | exact wpAny_pure (wpAny_pure h)
    | exact wpAny_bind (wpAny_pure (wpAny_pure h))
theorem isType_of {M : Model} {h : Heap} (X : K.In h) (e : (clsIn K C).isSome = true) : Looks M h (isType (.ref C)) true := by
  obtain ⟨cd, hc⟩ := Option.isSome_iff_exists.mp e
  unfold clsIn at hc
  split at hc
  · rename_i c' d' cd' sl' ho
    intro A' Q' E' s' k q
    unfold isType loadHead
    exact wpAny_bind (wpAny_loadPart (k _ _ (X _ _ ho)) (wpAny_pure q))
  · cases hc
theorem nested_yes {c : Value} {dep : Int} {tk : Tok} {Q : Fin → Shared → Prop} (L0 : Looks (model prog w) s.heap (typeOf (.ref x)) (.ref D))
    (hty : Looks (model prog w) s.heap (typeOf c) (.type "type")) (his : Looks (model prog w) s.heap (isType c) true)
    (hsub : Looks (model prog w) s.heap (isSubtype (.ref D) c) true) (h : Q (.done (.ret (.bool true))) s) :
    wpAny (model prog w) A (Builtin.«isinstance.nested» ⟨[.ref x, c, .int dep tk], []⟩) Q E s := by
  obtain ⟨h0, g, d, tt, os⟩ := s
  have LI : Looks (model prog w) h0 (isInstance (.ref x) c) true := L0.andThen hsub
  unfold Builtin.«isinstance.nested»
  refine wpAny_bind (L0.at ?_)
  by_cases hq : (Value.ref D == c) = true
  · rw [if_pos hq]
    exact wpAny_bind (wpAny_rule (wpAny_bind (wpAny_pure (wpAny_pure h))))
  · rw [if_neg hq]
    refine wpAny_bind (hty.at ?_)
    rw [if_pos (by decide)]
    k_delta "plainIsInstance"
    refine wpAny_bind (wpAny_bind (his.at ?_))
    simp only [Bool.not_true, Bool.false_eq_true, if_false]
    refine wpAny_bind (LI.at ?_)
    simp only [if_true]
    first
      | exact wpAny_pure (wpAny_bind (wpAny_pure (wpAny_pure h)))
      | exact wpAny_pure (wpAny_pure h)
      | exact wpAny_bind (wpAny_pure (wpAny_pure h))
structure Cls (K : Frag) (D : Addr) : Prop where
  ga : findIn K (.ref D) "__getattribute__" = some (some (.builtin "BaseException.__getattribute__"))
  noHook : findIn K (.ref D) "__getattr__" = some none
  kind : findIn K (.ref D) "__class__" = some (some (.builtin "object.__class__"))
  get : specialIn K (.builtin "object.__class__") "__get__" = some (some (.builtin "getset_descriptor.__get__"))
  takes : takesIn K (.builtin "object.__class__") = some true
  obj : mroIn K D (.type "object") = some true
  exc : mroIn K D (.type "BaseException") = some true
theorem Cls.isCls (c : Cls K D) : (clsIn K D).isSome = true := by
  obtain ⟨cd, e, _⟩ := Option.bind_eq_some_iff.mp c.obj
  rw [e]; rfl
variable {ox : Obj} {Q : Value → Shared → Prop} {h₀ : Heap} {L : Addr} {news : List (Addr × Obj)} {T : String}
theorem call_not (X : K.In s.heap) (hx : s.heap.get? x = some ox) (hc : ox.cls = .ref D) (k : Cls K D) (e : kin_not K D C = true) (h : Q (.bool false) { s with toks := s.toks + 1 }) :
    wpAny (model prog w) A (call (.builtin "isinstance") [.ref x, .ref C]) Q E s := by
  unfold kin_not at e
  simp only [Bool.and_eq_true, beq_iff_eq, decide_eq_true_eq] at e
  obtain ⟨⟨⟨e9, e10⟩, e11⟩, e12⟩ := e
  exact call_isinstance (S := fun _ R s => (K.In s.heap ∧ s.heap.get? x = some ox) ∧ R (.ok (.ret (.bool false))) { s with toks := s.toks + 1 })
    (fun _ _ _ _ _ hs => isinstance_outer (nested hs.1.1 (ty hs.1.2 hc) k.ga k.noHook k.kind k.get k.takes k.obj k.exc (looks_typeIn hs.1.1 e11) (isType_of hs.1.1 e10) (isType_of hs.1.1 k.isCls)
      (Bool.eq_false_iff.mpr fun q => e9 (Value.ref.inj (beq_iff_eq.mp q))) (looks_subIn hs.1.1 e12) hs.2) (by intro q; cases q)) ⟨⟨X, hx⟩, h⟩
theorem call_yes (X : K.In s.heap) (hx : s.heap.get? x = some ox) (hc : ox.cls = .ref D) (_k : Cls K D) (e1 : typeIn K (.ref C) = some (.type "type")) (e2 : mroIn K C (.type "object") = some true)
    (e3 : subIn K (.ref D) (.ref C) = some true) (h : Q (.bool true) s) : wpAny (model prog w) A (call (.builtin "isinstance") [.ref x, .ref C]) Q E s :=
  call_isinstance (S := fun _ R s => (K.In s.heap ∧ s.heap.get? x = some ox) ∧ R (.ok (.ret (.bool true))) s)
    (fun _ _ _ _ _ hs => isinstance_outer (nested_yes (ty hs.1.2 hc) (looks_typeIn hs.1.1 e1) (isType_of hs.1.1 (by obtain ⟨cd, e, _⟩ := Option.bind_eq_some_iff.mp e2; rw [e]; rfl)) (looks_subIn hs.1.1 e3) hs.2)
      (by intro q; cases q)) ⟨⟨X, hx⟩, h⟩
theorem call_yesT (X : K.In s.heap) (hx : s.heap.get? x = some ox) (hc : ox.cls = .ref D) (_k : Cls K D) (e1 : typeOf (.type T) = pure (.type "type"))
    (e3 : subIn K (.ref D) (.type T) = some true) (h : Q (.bool true) s) : wpAny (model prog w) A (call (.builtin "isinstance") [.ref x, .type T]) Q E s :=
  call_isinstance (S := fun _ R s => (K.In s.heap ∧ s.heap.get? x = some ox) ∧ R (.ok (.ret (.bool true))) s)
    (fun _ _ _ _ _ hs => isinstance_outer (nested_yes (ty hs.1.2 hc) (Looks.of_pure e1) (Looks.of_pure rfl) (looks_subIn hs.1.1 e3) hs.2)
      (by intro q; cases q)) ⟨⟨X, hx⟩, h⟩
end
end EX

end
section
set_option Elab.async false
set_option linter.all false
set_option maxRecDepth 100000
set_option maxHeartbeats 4000000
namespace L2
open PySem PySem.Spec PyProof.Rows
/-! own refusals, decided over the written part -/
def VB : List Value := [.type "ValueError", .type "Exception", .type "BaseException", .type "object"]
def nsPlain (K : PySem.W.Frag) (N : Addr) : Bool := match K.lookup N with
  | some ⟨_, _, .dict es _, _⟩ => es.toList.all fun e => match e.key with | .str _ _ => true | _ => false
  | _ => false
def noInit (K : PySem.W.Frag) (N : Addr) : Bool := nsPlain K N && (match PySem.W.nsIn K N "__init__" with | some none => true | _ => false)
theorem noInit_ns {K : PySem.W.Frag} {N : Addr} {h₀ : Heap} (X₀ : K.In h₀) (e : noInit K N = true) : ∃ mN : Str → Option Value, mN "__init__" = none ∧ ∀ h : Heap, K.In h → h.Ns N mN := by
  unfold noInit at e
  simp only [Bool.and_eq_true] at e
  obtain ⟨e1, e2⟩ := e
  unfold nsPlain at e1
  split at e1
  · rename_i c d es ep sl hl
    have sk : StrKeys es := fun en hen => by
      have q := (List.all_eq_true.mp e1) en (by simpa using hen)
      split at q
      · rename_i n t hk
        exact ⟨n, t, hk⟩
      · cases q
    have hN : ∀ h : Heap, K.In h → h.Ns N (nsFind es) := fun h X => ⟨_, es, ep, X _ _ hl, rfl, sk, fun _ => rfl⟩
    refine ⟨nsFind es, ?_, hN⟩
    split at e2
    · rename_i q
      exact PySem.W.ns_none_of X₀ (hN h₀ X₀) q
    · cases e2
  · cases e1
def tailOk (K : PySem.W.Frag) : List Value → Bool
  | [] => false
  | v :: tl => match v with
    | .ref A => (match K.lookup A with | some ⟨_, _, .cls cd, _⟩ => noInit K cd.ns | _ => false) && tailOk K tl
    | _ => (v :: tl) == VB
theorem tail_own {K : PySem.W.Frag} {h₀ : Heap} (X₀ : K.In h₀) : ∀ {l : List Value}, tailOk K l = true → ∀ h : Heap, K.In h → OwnTail h VB l
  | [], e, _, _ => by cases e
  | v :: tl, e, h, X => by
    unfold tailOk at e
    split at e
    · rename_i A
      simp only [Bool.and_eq_true] at e
      obtain ⟨e1, e2⟩ := e
      split at e1
      · rename_i c0 dd cd sl hl
        obtain ⟨mN, hi, hN⟩ := noInit_ns X₀ e1
        exact .own (X _ _ hl) (hN h X) hi (tail_own X₀ e2 h X)
      · cases e1
    · rw [beq_iff_eq.mp e]
      exact .base
def excIn (K : PySem.W.Frag) (C : Addr) : Bool := match K.lookup C with
  | some ⟨.type "type", _, .cls cd, sl⟩ => (match cd.mro, sl.toList with
    | .ref C' :: bm, [_, _, _, _, some (.builtin n), _] => C' == C && !cd.hasDel && n == "ValueError.__new__" && noInit K cd.ns && tailOk K bm
    | _, _ => false)
  | _ => false
theorem excIn_obj {K : PySem.W.Frag} {h₀ : Heap} {C : Addr} (X₀ : K.In h₀) (q : excIn K C = true) : ∃ bm N nm qn bs hdct sn sub ab col dd k0 k1 k2 k3 k5 mN, mN "__init__" = none ∧
    ∀ h : Heap, K.In h → h.get? C = some (excClassObj nm qn C N bs bm hdct sn sub ab col dd k0 k1 k2 k3 k5 "ValueError.__new__") ∧ h.Ns N mN ∧ OwnTail h VB bm := by
  unfold excIn at q
  split at q
  · rename_i dd cd sl ho
    split at q
    · rename_i C' bm k0 k1 k2 k3 n k5 hm hs
      simp only [Bool.and_eq_true, beq_iff_eq, Bool.not_eq_true'] at q
      obtain ⟨⟨⟨⟨rfl, hdel⟩, rfl⟩, hi⟩, ht⟩ := q
      obtain ⟨nm, bs, mro, ns, qn, hd, sn, sub, ab, col, del⟩ := cd
      dsimp only at hm hdel hi
      subst hm hdel
      have hsl : sl = #[k0, k1, k2, k3, some (.builtin "ValueError.__new__"), k5] := by
        obtain ⟨l⟩ := sl
        simp only at hs
        rw [hs]
      subst hsl
      obtain ⟨mN, hi, hN⟩ := noInit_ns X₀ hi
      exact ⟨bm, ns, nm, qn, bs, hd, sn, sub, ab, col, dd, k0, k1, k2, k3, k5, mN, hi, fun h X => ⟨X _ _ ho, hN h X, tail_own X₀ ht h X⟩⟩
    · cases q
  · cases q
/-! an exception on its way through the frames -/
theorem ObjOk.is {P : Program} {w : World} {H : Hp} {h : Heap} {a : Addr} {o : HO} (x : ObjOk P w H h a o) : ∃ ob, h.get? a = some ob := by
  cases o with
  | lst xs => obtain ⟨_, _, _, _, e⟩ := x; exact ⟨_, e⟩
  | tup xs => obtain ⟨_, _, _, ob, e, _⟩ := x; exact ⟨_, e⟩
  | dK kvs => obtain ⟨_, _, _, _, o, _, _, e, _⟩ := x; exact ⟨_, e⟩
  | dT kvs => obtain ⟨_, _, _, _, o, _, _, e, _⟩ := x; exact ⟨_, e⟩
  | set S n => obtain ⟨o, _, _, _, e, _⟩ := x; exact ⟨_, e⟩
  | ins C dx fs => obtain ⟨_, _, _, e, _⟩ := x; exact ⟨_, e⟩
  | own y => obtain ⟨_, e⟩ := x; exact ⟨_, e⟩
  | xd fs => obtain ⟨_, ⟨_, _, _, e, _⟩, _⟩ := x; exact ⟨_, e⟩
  | rng lo hi => obtain ⟨_, _, _, e⟩ := x; exact ⟨_, e⟩
  | frz ob u => obtain ⟨e, _⟩ := x; exact ⟨_, e⟩
  | tbl ps => exact ⟨_, (show h.get? a = some _ from x)⟩
  | met f y => exact ⟨_, (show h.get? a = some _ from x)⟩
  | ext φ => obtain ⟨_, ⟨_, e⟩, _⟩ := x; exact ⟨_, e⟩
def CXr (P : Program) (w : World) : CXT := fun outer H s E x s' => ∃ (e : Addr) (C a0 : Value) (H' : Hp) (B : Heap), x = .ref e ∧ s'.os = s.os ∧ AllBare s'.gens ∧ Un (frs outer) [] H H' s.heap s'.heap ∧ HOk P w H' s'.heap ∧
  Heap.FlyingW B outer e C a0 s'.heap ∧ (∀ b u, H' b = some u → ∃ o, B.get? b = some o) ∧ (∀ b o, s.heap.get? b = some o → b ∉ frs outer → ∃ o', B.get? b = some o' ∧ (H b = none → o' = o)) ∧ E C none H'
def Raises (X : Cx) (E : XK) : Prop := ∀ (pins : List (Addr × Obj)) (σ : St) (H : Hp) (s : Shared) (e C : Addr) (vs : List Value) (h' : Heap), Inv X pins σ H s → Heap.MadeExcOf s.heap h' e (.ref C) vs → E (.ref C) none H →
  X.xe (.ref e) { s with heap := h' }
section
variable {P : Program} {w : World} {K : PySem.W.Frag} {mg : Str → Option Value} {base : Heap} {N : List Str} {qual : Str} {scope : Scope} {f : Addr} {cd : Value} {A : Around} {outer : List Env} {s₀ : Shared} {H₀ : Hp} {E : XK}
abbrev cxR (P : Program) (w : World) (K : PySem.W.Frag) (mg : Str → Option Value) (base : Heap) (N : List Str) (qual : Str) (scope : Scope) (f : Addr) (cd : Value) (A : Around) (outer : List Env) (s : Shared) (H : Hp) (E : XK) : Cx :=
  cxOf (CXr P w) P w K mg base N qual scope f cd A outer s H E
theorem passesOwnR : PassesOwn (model P w) (cxR P w K mg base N qual scope f cd A outer s₀ H₀ E).A (cxR P w K mg base N qual scope f cd A outer s₀ H₀ E).env (cxR P w K mg base N qual scope f cd A outer s₀ H₀ E).xe := PassesOwn.leaving
theorem hok_stays {H : Hp} {h h' B : Heap} (ok : HOk P w H h) (k : ∀ b u, H b = some u → ∃ o, B.get? b = some o) (s1 : ∀ b o, B.get? b = some o → h.get? b = some o) (s2 : ∀ b o, B.get? b = some o → h'.get? b = some o) : HOk P w H h' := fun a u e =>
  (ok a u e).stay (fun b v hb q => by
    obtain ⟨o, z⟩ : ∃ o, B.get? b = some o := by
      rcases hb with rfl | hb
      · exact k _ _ e
      · exact k _ _ hb
    have z1 := s1 b o z
    rw [q] at z1
    cases z1
    exact s2 b _ z) (fun _ q => q) fun _ _ q => q
theorem raisesR : Raises (cxR P w K mg base N qual scope f cd A outer s₀ H₀ E) E := by
  intro pins σ H s e C vs h' I M q
  have noA : ∀ b : Addr, b ∉ (cxR P w K mg base N qual scope f cd A outer s₀ H₀ E).ex := fun b z => absurd (show b ∈ ([] : List Addr) from z) (by simp)
  have lt0 : ∀ b o, s₀.heap.get? b = some o → b ≠ (cxR P w K mg base N qual scope f cd A outer s₀ H₀ E).env.locals := fun b o z => Nat.ne_of_lt (Nat.lt_of_lt_of_le (Heap.lt_size z) I.ok.above)
  have hin : ∀ env ∈ (cxR P w K mg base N qual scope f cd A outer s₀ H₀ E).stack, ∀ b, env.frame = some b → b ∈ frs (cxR P w K mg base N qual scope f cd A outer s₀ H₀ E).stack := fun env he b hb => List.mem_filterMap.mpr ⟨env, he, hb⟩
  have nin : ∀ b, b ∉ frs outer → b ≠ (cxR P w K mg base N qual scope f cd A outer s₀ H₀ E).env.locals → b ∉ frs (cxR P w K mg base N qual scope f cd A outer s₀ H₀ E).stack := fun b h1 h2 z => by
    rcases List.mem_cons.mp (I.stkSub b z) with z | z
    · exact h2 z
    · exact h1 z
  show wpAny (model P w) (A.deeper (envOfC qual scope s₀.heap.objs.size f cd)) (leaving (envOfC qual scope s₀.heap.objs.size f cd) (.ref e)) _ _ _
  refine wpAny_leaves_madeW (base := PySem.W.hideAll s.heap (frs (cxR P w K mg base N qual scope f cd A outer s₀ H₀ E).stack)) (h := s.heap) (L := s₀.heap.objs.size) I.ok.frames rfl (fun b o z => PySem.W.of_hideAll _ z) (PySem.W.funFrames_hide I.stack hin) M fun h'' t x1 x2 x3 x4 => ?_
  have st : ∀ b o, s.heap.get? b = some o → b ∉ frs (cxR P w K mg base N qual scope f cd A outer s₀ H₀ E).stack → (PySem.W.hideAll s.heap (frs (cxR P w K mg base N qual scope f cd A outer s₀ H₀ E).stack)).get? b = some o := fun b o z n => PySem.W.hideAll_get _ z n
  have c1 : ∀ b u, H b = some u → ∃ o, (PySem.W.hideAll s.heap (frs (cxR P w K mg base N qual scope f cd A outer s₀ H₀ E).stack)).get? b = some o := fun b u z => by
    obtain ⟨ob, zb⟩ := (I.hok b u z).is
    exact ⟨ob, st b ob zb fun m => by rw [I.stkFree b m] at z; cases z⟩
  refine ⟨e, .ref C, .ref t, H, _, rfl, I.os, I.bare, ⟨fun b o z n hb _ => ?_, fun b o z n hb _ => ?_, fun b o z n _ => I.base.free b o z n (noA b), fun b o z _ => ?_, I.base.tups, I.base.frzs, I.base.tbls⟩, ?_, x1, c1, fun b o z hb => ?_, q⟩
  · exact x1.1 b o (st b o (I.base.keep b o z n hb (noA b)) (nin b hb (lt0 b o z)))
  · obtain ⟨sl, e1⟩ := I.base.slot b o z n hb (noA b)
    obtain ⟨o2, ho2, hd2⟩ := (I.ok.funs.mem hb).2
    have z2 : s₀.heap.get? b = some o2 := ho2
    rw [z] at z2
    cases z2
    obtain ⟨sl', e2⟩ := x4 b _ (M.keeps b _ e1) hd2
    exact ⟨sl', e2⟩
  · by_cases hb : b ∈ frs outer
    · obtain ⟨sl, e1⟩ := I.base.slot b o z (I.ok.frf b hb) hb (noA b)
      obtain ⟨o2, ho2, hd2⟩ := (I.ok.funs.mem hb).2
      have z2 : s₀.heap.get? b = some o2 := ho2
      rw [z] at z2
      cases z2
      obtain ⟨sl', e2⟩ := x4 b _ (M.keeps b _ e1) hd2
      exact ⟨_, e2⟩
    · obtain ⟨o1, e1⟩ := I.base.there b o z (noA b)
      exact ⟨o1, x1.1 b o1 (st b o1 e1 (nin b hb (lt0 b o z)))⟩
  · exact hok_stays I.hok c1 (fun b o z => PySem.W.of_hideAll _ z) x1.1
  · obtain ⟨o1, e1⟩ := I.base.there b o z (noA b)
    refine ⟨o1, st b o1 e1 (nin b hb (lt0 b o z)), fun n => ?_⟩
    have e2 := I.base.keep b o z n hb (noA b)
    rw [e1] at e2
    exact Option.some.inj e2
theorem passR : Passes (CXr P w) (cxR P w K mg base N qual scope f cd A outer s₀ H₀ E) E := by
  intro pins σ H s x s' I hx
  obtain ⟨e, C, a0, H', B, rfl, os, bare, un, hok, fl, c1, c2, q⟩ := hx
  have noA : ∀ b : Addr, b ∉ (cxR P w K mg base N qual scope f cd A outer s₀ H₀ E).ex := fun b z => absurd (show b ∈ ([] : List Addr) from z) (by simp)
  have lt0 : ∀ b o, s₀.heap.get? b = some o → b ≠ (cxR P w K mg base N qual scope f cd A outer s₀ H₀ E).env.locals := fun b o z => Nat.ne_of_lt (Nat.lt_of_lt_of_le (Heap.lt_size z) I.ok.above)
  have nin : ∀ b, b ∉ frs outer → b ≠ (cxR P w K mg base N qual scope f cd A outer s₀ H₀ E).env.locals → b ∉ frs (cxR P w K mg base N qual scope f cd A outer s₀ H₀ E).stack := fun b h1 h2 z => by
    rcases List.mem_cons.mp (I.stkSub b z) with z | z
    · exact h2 z
    · exact h1 z
  have J : Inv (cxR P w K mg base N qual scope f cd A outer s₀ H₀ E) pins σ H' s' := I.call' os un hok bare (ch := []) (fun b z => absurd z (by simp))
  show wpAny (model P w) (A.deeper (envOfC qual scope s₀.heap.objs.size f cd)) (leaving (envOfC qual scope s₀.heap.objs.size f cd) (.ref e)) _ _ _
  refine wpAny_leaves_onW (L := s₀.heap.objs.size) I.ok.frames rfl fl fun h'' fl' sm => ?_
  refine ⟨e, C, a0, H', B, rfl, os.trans I.os, bare, ⟨fun b o z n hb _ => ?_, fun b o z n hb _ => ?_, fun b o z n _ => J.base.free b o z n (noA b), fun b o z _ => ?_, J.base.tups, J.base.frzs, J.base.tbls⟩, hok_stays hok c1 fl.1 fl'.1, fl', c1, fun b o z hb => ?_, q⟩
  · obtain ⟨o', z1, z2⟩ := c2 b o (I.base.keep b o z n hb (noA b)) (nin b hb (lt0 b o z))
    rw [z2 (I.base.free b o z n (noA b))] at z1
    exact fl'.1 b o z1
  · obtain ⟨sl, e1⟩ := J.base.slot b o z n hb (noA b)
    obtain ⟨o2, ho2, hd2⟩ := (I.ok.funs.mem hb).2
    have z2 : s₀.heap.get? b = some o2 := ho2
    rw [z] at z2
    cases z2
    obtain ⟨sl', e2⟩ := sm b _ e1 hd2
    exact ⟨sl', e2⟩
  · by_cases hb : b ∈ frs outer
    · obtain ⟨sl, e1⟩ := J.base.slot b o z (I.ok.frf b hb) hb (noA b)
      obtain ⟨o2, ho2, hd2⟩ := (I.ok.funs.mem hb).2
      have z2 : s₀.heap.get? b = some o2 := ho2
      rw [z] at z2
      cases z2
      obtain ⟨sl', e2⟩ := sm b _ e1 hd2
      exact ⟨_, e2⟩
    · obtain ⟨o1, e1⟩ := I.base.there b o z (noA b)
      obtain ⟨o', z1, _⟩ := c2 b o1 e1 (nin b hb (lt0 b o z))
      exact ⟨o', fl'.1 b o' z1⟩
  · obtain ⟨o1, e1⟩ := I.base.there b o z (noA b)
    obtain ⟨o', z1, z2⟩ := c2 b o1 e1 (nin b hb (lt0 b o z))
    refine ⟨o', z1, fun n => ?_⟩
    rw [z2 (I.base.free b o z n (noA b))]
    have e2 := I.base.keep b o z n hb (noA b)
    rw [e1] at e2
    exact Option.some.inj e2
theorem Fun.okR {x : Str} {st : Stmt} {fd : FuncData} {ps : List Str} {k : Nat} {sp : Sp} (F : Fun K x qual st f fd) (S : FnScope N ps (defScope st)) (len : ∀ vs H Q E, sp vs H Q E → vs.length = ps.length)
    (hbody : ∀ (cdv : Value) (A : Around) (outer : List Env) (s : Shared) (H : Hp) (vs : List V) (Q : VK) (E : XK), Room k (A.deeper (envOfC qual (defScope st) s.heap.objs.size f cdv)) → sp vs H Q E →
      ∃ t, PSs (cxR P w K mg base N qual (defScope st) f cdv A outer s H E) (defBody st) t ∧ t { nx := fun _ H' => Q .non H', rt := Q } (start N vs) H) : FnOk P w K mg base (CXr P w) (k + 1) f fd ps sp := by
  obtain ⟨oc, od, kV, doc, pm, an, cdv, ct, osl, rfl, lk, hcd⟩ := F.ex
  exact fn_of lk hcd S len fun A outer s H vs Q E hr hsp => hbody cdv A outer s H vs Q E hr hsp
end
/-! raise C(..) -/
section
variable {X : Cx} {x : Str} {C : Addr} {E : XK} {e₀ : Expr} {rest : List Expr} {t : TA} {np cpos pos : Pos}
def tRaise (C : Addr) (E : XK) (t : TA) : TS := fun _ σ H => t σ H fun vs H1 => vs.length ≤ sizeLine ∧ E (.ref C) none H1
theorem ps_raise (hK : excIn X.K C = true) (hm : X.mg x = some (.ref C)) (hR : Raises X E) (hA : X.calm = true) (ha : PA X (e₀ :: rest) t) (hg : Gl X x := by rfl) (hd : (x == ("__debug__" : Str)) = false := by decide)
    (he : starEach (e₀ :: rest) X.env = (false, eval e₀ X.env) :: starEach rest X.env := by rfl) (hpl : (backTo cpos (starEach rest X.env)).any (·.1) = false := by rfl) :
    PS X (.Raise (some (.Call (.Name x np) (e₀ :: rest) [] cpos)) none pos) (tRaise C E t) := by
  intro pins s σ H D I h
  obtain ⟨bm, N, nm, q, bs, hdct, sn, sub, ab, col, dd, k0, k1, k2, k3, k5, mN, hni, hK⟩ := excIn_obj I.kIn hK
  obtain ⟨_, _, T₀⟩ := hK _ I.kIn
  refine wpAny_Raise_call_subT (C := C) (nm := nm) (q := q) (N := N) (bs := bs) (bm := bm) (hdct := hdct) (sn := sn) (sub := sub) (ab := ab) (col := col) (dd := dd) (k0 := k0) (k1 := k1) (k2 := k2) (k3 := k3) (k5 := k5)
    PySem.F.excBase_ValueError (mN := mN) (T₀.hasType PySem.F.excBase_ValueError.hasBase) (I.ok.hd hA) (by rw [he]; show (false || (backTo cpos (starEach rest X.env)).any (·.1)) = false; rw [hpl]; rfl) hni (ld_glob I hg hm ⟨rfl, ?_⟩ hd)
  have h1 := ha cpos pins s σ H _ I h
  rw [he] at h1 ⊢
  refine Calls.evalArgs_plain (wpAny_mono h1 (fun us s₂ h₂ => ?_) fun _ _ y => y)
  obtain ⟨vs, H1, I1, r, z, q⟩ := h₂
  obtain ⟨g1, g2, g3⟩ := hK _ I1.kIn
  exact ⟨rfl, by rw [← r.length]; exact z, g1, g2, g3, fun h' e M => hR pins σ H1 s₂ e C us h' I1 M q⟩
end
end L2

end
section
set_option Elab.async false
set_option linter.all false
set_option maxRecDepth 100000
set_option maxHeartbeats 4000000
namespace L2
open PySem PySem.Spec PyProof.Rows
def xob (e : Addr) (C : Value) : HO := .ext fun h => ∃ oe, h.get? e = some oe ∧ oe.cls = C
section
variable {X : Cx} {pins : List (Addr × Obj)} {σ : St} {H H' : Hp} {s s' : Shared} {e : Addr} {C a0 : Value} {B h : Heap}
theorem Inv.flown {tk : Nat} (I : Inv X pins σ H s) (os : s'.os = s.os) (bare : AllBare s'.gens) (un : Un (frs X.stack) [] H H' s.heap s'.heap) (hok : HOk X.prog X.w H' s'.heap) (fl : Heap.FlyingW B X.stack e C a0 s'.heap)
    (c1 : ∀ b u, H' b = some u → ∃ o, B.get? b = some o) (c2 : ∀ b o, s.heap.get? b = some o → b ∉ frs X.stack → ∃ o', B.get? b = some o' ∧ (H b = none → o' = o))
    (fl' : Heap.FlyingW B X.stack e C a0 h) (sm : s'.heap.UpToSlots h) : H' e = none ∧ Inv X pins σ (upd H' e (xob e C)) { s' with heap := h, toks := tk } := by
  have he : H' e = none := by
    cases q : H' e with
    | none => rfl
    | some u =>
      obtain ⟨o, z⟩ := c1 e u q
      rw [fl.2.1] at z
      cases z
  obtain ⟨oe, ws, hoe, hoec, hoed, _⟩ := fl'.first
  have ne : ∀ b o, s.heap.get? b = some o → b ≠ e := fun b o z q => by
    subst q
    by_cases hb : b ∈ frs X.stack
    · obtain ⟨_, o2, ho2, hd2⟩ := fl'.2.2.1.mem hb
      rw [hoe] at ho2
      cases ho2
      exact hd2 _ hoed
    · obtain ⟨o', z1, _⟩ := c2 b o z hb
      rw [fl.2.1] at z1
      cases z1
  have ne' : ∀ b u, H' b = some u → b ≠ e := fun b u z q => by
    subst q
    rw [he] at z
    cases z
  refine ⟨he, ?_⟩
  refine I.call' (s' := { s' with heap := h, toks := tk }) (H' := upd H' e (xob e C)) (ch := []) os ⟨fun b o z n hb _ => ?_, fun b o z n hb _ => ?_, fun b o z n _ => ?_, fun b o z _ => ?_, fun b xs z => ?_, fun b o u z => ?_, fun b ps z => ?_⟩ (fun a u q => ?_) bare (fun b z => absurd z (by simp))
  · obtain ⟨o', z1, z2⟩ := c2 b o z hb
    rw [z2 n] at z1
    exact fl'.1 b o z1
  · obtain ⟨sl, e1⟩ := un.slot b o z n hb (by simp)
    obtain ⟨_, o2, ho2, hd2⟩ := fl.2.2.1.mem hb
    rw [e1] at ho2
    cases ho2
    obtain ⟨sl', e2⟩ := sm b _ e1 hd2
    exact ⟨sl', e2⟩
  · rw [upd_ne (ne b o z)]
    exact un.free b o z n (by simp)
  · by_cases hb : b ∈ frs X.stack
    · obtain ⟨_, o2, ho2, _⟩ := fl'.2.2.1.mem hb
      exact ⟨o2, ho2⟩
    · obtain ⟨o', z1, _⟩ := c2 b o z hb
      exact ⟨o', fl'.1 b o' z1⟩
  · have z1 := un.tups b xs z
    rw [upd_ne (ne' b _ z1)]
    exact z1
  · have z1 := un.frzs b o u z
    rw [upd_ne (ne' b _ z1)]
    exact z1
  · obtain ⟨more, z1⟩ := un.tbls b ps z
    exact ⟨more, by rw [upd_ne (ne' b _ z1)]; exact z1⟩
  · by_cases ha : a = e
    · subst ha
      rw [upd_same] at q
      cases q
      exact ⟨⟨oe, hoe, hoec⟩, ⟨oe, hoe⟩, fun h1 h2 ⟨o1, g1, g2⟩ k => ⟨o1, k o1 g1, g2⟩⟩
    · rw [upd_ne ha] at q
      refine (hok a u q).stay (fun b v hb z => ?_) (fun b z => by rw [upd_ne (ne' b _ z)]; exact z) fun b xs z => by rw [upd_ne (ne' b _ z)]; exact z
      obtain ⟨o, z0⟩ : ∃ o, B.get? b = some o := by
        rcases hb with rfl | hb
        · exact c1 _ _ q
        · exact c1 _ _ hb
      have z1 := fl.1 b o z0
      rw [z] at z1
      cases z1
      exact fl'.1 b _ z0
end
/-! within an except's suite -/
abbrev Cx.hand (X : Cx) (e : Addr) : Cx := { X with A := X.A.mark (some (.ref e)), calm := false, xe := fun _ _ => False }
theorem Cx.Ok.hand {X : Cx} (ok : X.Ok) (e : Addr) : (X.hand e).Ok :=
  ⟨ok.mod, ok.kind, ok.glob, ok.blt, ok.above, ok.inj, ok.has, ok.cab, (fun z => nomatch z), ok.frames, ok.stk, ok.exf, ok.bs, ok.bsz, ok.noex, ok.exfs, ok.funs, ok.frf⟩
section
variable {X : Cx} {pins : List (Addr × Obj)} {σ : St} {H : Hp} {s : Shared} {e : Addr}
theorem Inv.hand (I : Inv X pins σ H s) (e : Addr) : Inv (X.hand e) pins σ H s := ⟨I.ok.hand e, I.os, I.bare, I.base, I.loc, I.cell, I.free, I.freeC, I.pin, I.hok, I.len⟩
theorem Inv.unhand (ok : X.Ok) (I : Inv (X.hand e) pins σ H s) : Inv X pins σ H s := ⟨ok, I.os, I.bare, I.base, I.loc, I.cell, I.free, I.freeC, I.pin, I.hok, I.len⟩
theorem unbind_ok {M : Model} {A : Around} {E : Value → Shared → Prop} {i : Nat} {x : Str} {v : V} {Q : Unit → Shared → Prop} (I : Inv X pins σ H s) (hN : X.N.Nodup) (hi : X.N[i]? = some x) (hk : X.env.scope.names.lookup x = some .local) (hv : σ[i]? = some (some v))
    (h : ∀ s', Inv X pins (σ.set i none) H s' → Q () s') : wpAny M A (unbindName X.env x) Q E s := by
  obtain ⟨m, hn, hl⟩ := id I.loc
  have hcls : (X.env.scope.kind == .class || (X.env.scope.kind == .module && X.env.locals != X.env.globals)) = false := by rw [I.ok.kind]; rfl
  have hiσ : i < σ.length := by rw [I.len]; exact (List.getElem?_eq_some_iff.mp hi).1
  have cne := I.cne
  obtain ⟨u, _, l⟩ := hl i x v hi hv (.inl hk)
  have hm : m x = some u := by
    rcases l with ⟨_, z⟩ | ⟨z, _⟩
    · exact z
    · have z' : X.env.scope.names.lookup x = some .cell ∨ X.env.scope.names.lookup x = some .free := z
      rw [hk] at z'
      rcases z' with z' | z' <;> cases z'
  have tracked : ∀ {a : Addr} {h' : Heap}, (∃ o, s.heap.get? a = some o ∧ H a = none) → Heap.SameBut a s.heap h' → HOk X.prog X.w H h' := fun {a h'} ha hs b ob e => by
    obtain ⟨_, _, hfree⟩ := ha
    refine (I.hok b ob e).stay (fun c w' hc q => (hs.2 c ?_).trans q) (fun _ q => q) fun _ _ q => q
    rintro rfl
    rcases hc with rfl | hc
    · rw [hfree] at e; cases e
    · rw [hfree] at hc; cases hc
  refine wpAny_unbindName_local hk hn hm hcls fun h' u' hn' hs => ?_
  obtain ⟨oL, _, _, hoL, _⟩ := id hn
  refine h _ ⟨I.ok, I.os, I.bare, ⟨fun b o e n hb hx => ?_, fun b o e n hb hx => ?_, I.base.free, fun b o e hx => ?_, I.base.tups, I.base.frzs, I.base.tbls⟩, ⟨_, hn', fun j y v' e1 e2 e3 => ?_⟩, fun y c e => ?_, I.free, I.freeC, fun p hp => ?_, tracked ⟨oL, hoL, I.free⟩ hs, by simpa using I.len⟩
  · exact (hs.2 b (Nat.ne_of_lt (Nat.lt_of_lt_of_le (Heap.lt_size e) I.ok.above))).trans (I.base.keep b o e n hb hx)
  · obtain ⟨sl, e1⟩ := I.base.slot b o e n hb hx
    exact ⟨sl, (hs.2 b (Nat.ne_of_lt (Nat.lt_of_lt_of_le (Heap.lt_size e) I.ok.above))).trans e1⟩
  · obtain ⟨o', e1⟩ := I.base.there b o e hx
    exact ⟨o', (hs.2 b (Nat.ne_of_lt (Nat.lt_of_lt_of_le (Heap.lt_size e) I.ok.above))).trans e1⟩
  · by_cases hj : j = i
    · subst hj
      rw [List.getElem?_set_self hiσ] at e2
      cases e2
    · rw [List.getElem?_set_ne (Ne.symm hj)] at e2
      obtain ⟨u', r', q⟩ := hl j y v' e1 e2 e3
      refine ⟨u', r', ?_⟩
      rcases q with ⟨k, e⟩ | ⟨k, c, e, z⟩
      · refine .inl ⟨k, ?_⟩
        have : y ≠ x := fun e => hj (nodup_ix hN e1 (e ▸ hi))
        simp [this, e]
      · exact .inr ⟨k, c, e, z.sameBut hs (cne y c e)⟩
  · obtain ⟨w', z⟩ := I.cell y c e
    exact ⟨w', z.sameBut hs (cne y c e)⟩
  · obtain ⟨e, n, ne, nf, d⟩ := I.pin p hp
    exact ⟨(hs.2 p.1 ne).trans e, n, ne, nf, d⟩
end
/-! a try's body: its exceptions with the names' values -/
def XE (X : Cx) (pins : List (Addr × Obj)) (σ : St) (E : XK) (x : Value) (s' : Shared) : Prop := ∃ H1 s1, Inv X pins σ H1 s1 ∧ CXr X.prog X.w X.stack H1 s1 E x s'
def XP (X : Cx) (pins : List (Addr × Obj)) (E : St → XK) (x : Value) (s' : Shared) : Prop := ∃ σ', XE X pins σ' (E σ') x s'
abbrev TSX := Ends → (St → XK) → St → Hp → Prop
abbrev TEX := St → Hp → VK → XK → Prop
def PSX (X : Cx) (sts : List Stmt) (t : TSX) : Prop :=
  ∀ (pins : List (Addr × Obj)) (s : Shared) (σ : St) (H : Hp) (D : Ends) (E : St → XK), Inv X pins σ H s → t D E σ H → wpAny (model X.prog X.w) X.A (execs sts X.env) (SP X pins D) (XP X pins E) s
def PEX (X : Cx) (e : Expr) (t : TEX) : Prop :=
  ∀ (pins : List (Addr × Obj)) (s : Shared) (σ : St) (H : Hp) (Q : VK) (E : XK), Inv X pins σ H s → t σ H Q E → wpAny (model X.prog X.w) X.A (eval e X.env) (EP X pins σ Q) (XE X pins σ E) s
section
variable {X : Cx} {e : Expr} {te : TEX} {pos : Pos} {a b : List Stmt} {t u : TSX}
def tDropX (te : TEX) : TSX := fun D E σ H => te σ H (fun _ H1 => D.nx σ H1) (E σ)
theorem psx_expr (he : PEX X e te) (hs : swapsWith e none pos.line X.env = pure false := by rfl) : PSX X [.Expr e pos] (tDropX te) := by
  intro pins s σ H D E I h
  refine wpAny_execs_cons ?_
  refine wpAny_Expr_any (wpAny_mono (he pins s σ H _ (E σ) I h) (fun v s1 q => ?_) fun x s1 q => ⟨σ, q⟩) I.quiet hs
  obtain ⟨x, H1, I1, r1, q1⟩ := q
  exact wpAny_execs_nil (show SP X pins D .next s1 from ⟨σ, H1, I1, q1⟩)
def tIfX (c : TT) (t u : TSX) : TSX := fun D E σ H => c σ H fun b H1 => if b = true then t D E σ H1 else u D E σ H1
end
/-! calls in a try's body -/
section
variable {X : Cx} {k : Nat} {f C : Addr} {fd : FuncData} {ps : List Str} {sp : Sp} {dvs : List V} {ds : List Value} {x m : Str} {p pos apos : Pos} {e o : Expr} {es : List Expr} {ta : TE} {t : TA}
theorem run_fnX {pins : List (Addr × Obj)} {σ : St} {H : Hp} {s : Shared} {Q : VK} {E : XK} {us : List Value} {vs : List V} (F : FnOk X.prog X.w X.K X.mg X.base (CXr X.prog X.w) k f fd ps sp) (hr : Room k X.A) (hb : Binds X.K fd ps ds) (hd : Vals dvs ds)
    (I : Inv X pins σ H s) (r : Vals vs us) (h : sp (vs ++ dvs) H Q E) : wpAny (model X.prog X.w) X.A (call (.ref f) us) (EP X pins σ Q) (XE X pins σ E) s := by
  have r2 : Vals (vs ++ dvs) (us ++ ds) := r.append hd
  have hl : (us ++ ds).length = ps.length := by rw [← r2.length]; exact F.len _ _ _ _ h
  refine wpAny_call (codeAny_mono (F.run X.A X.stack s H ⟨us, []⟩ (us ++ ds) (vs ++ dvs) Q E hr I.env0 (hb s us I.kIn hl) r2 h) fun r s' hq => ?_)
  cases r with
  | error e => exact ⟨H, s, I, hq⟩
  | ok fl =>
    cases fl with
    | ret u => exact I.after hq
    | next => exact False.elim hq
    | brk => exact False.elim hq
    | cont => exact False.elim hq
def tCallX (sp : Sp) (dvs : List V) (t : TA) : TEX := fun σ H Q E => t σ H fun vs H1 => sp (vs ++ dvs) H1 Q E
theorem pex_call (F : FnOk X.prog X.w X.K X.mg X.base (CXr X.prog X.w) k f fd ps sp) (hr : Room k X.A) (hg : Gl X x) (hm : X.mg x = some (.ref f)) (hk : PySem.W.keepIn X.K (.ref f) = true) (hb : Binds X.K fd ps ds) (hd : Vals dvs ds)
    (ha : PA X.nox (e :: es) t) (hdb : (x == ("__debug__" : Str)) = false := by decide) (he : starEach (e :: es) X.env = (false, eval e X.env) :: starEach es X.env := by rfl) (hpl : (backTo pos (starEach es X.env)).any (·.1) = false := by rfl) :
    PEX X (.Call (.Name x p) (e :: es) [] pos) (tCallX sp dvs t) := by
  intro pins s σ H Q E I h
  refine wpAny_Call_Name_kw (ld_glob I hg hm ?_ hdb)
  refine PySem.W.callWith_K (h₀ := X.base) I.ok.mod.kin hk (wpAny_mono (ha pos pins s σ H _ (I.wish _) h) (fun us s1 q => ?_) fun _ _ z => z.elim) he hpl
  obtain ⟨vs, H1, I1, r, q⟩ := q
  exact ⟨I1.kIn, run_fnX F hr hb hd I1.unwish r q⟩
def tMethX (C : Addr) (m : Str) (sp : Sp) (dvs : List V) (ta : TE) (t : TA) : TEX := fun σ H Q E => ta σ H fun x H1 => ∃ a dx fs, x = .ref a ∧ H1 a = some (.ins C dx fs) ∧ fs.lookup m = none ∧
  t σ H1 fun vs H2 => sp (x :: (vs ++ dvs)) H2 Q E
end
/-! try: .. except C as n: .. -/
section
variable {X : Cx} {x n : Str} {HC : Addr} {i : Nat} {body suite : List Stmt} {b₀ : Stmt} {tb : TSX} {ts : TS} {np hpos pos : Pos}
def tTry (K : PySem.W.Frag) (HC : Addr) (i : Nat) (tb : TSX) (ts : TS) : TS := fun D σ H => tb D (fun σ' C _ H1 => PySem.W.exmOne K C (.ref HC) = some true ∧
  ∀ e, H1 e = none → ts { nx := fun σ2 H2 => D.nx (σ2.set i none) H2, rt := D.rt, bk := fun σ2 H2 => D.bk (σ2.set i none) H2, ct := fun σ2 H2 => D.ct (σ2.set i none) H2 } (σ'.set i (some (.ref e))) (upd H1 e (xob e C))) σ H
theorem ps_try (hN : X.N.Nodup) (hi : X.N[i]? = some n) (hn : X.env.scope.names.lookup n = some .local) (hst : X.stack = X.env :: X.outer) (hf : X.env.frame = some X.env.locals) (hm : X.mg x = some (.ref HC)) (hb : PSX X body tb)
    (hs : ∀ e, PSs (X.hand e) (b₀ :: suite) ts) (hg : Gl X x := by rfl) (hd : (x == ("__debug__" : Str)) = false := by decide) :
    PS X (.Try body [.ExceptHandler (some (.Name x np)) (some n) (b₀ :: suite) hpos] [] [] pos) (tTry X.K HC i tb ts) := by
  intro pins s σ H D I h
  have hfr : X.A.frames = some (X.env :: X.outer) := by rw [← hst]; exact I.ok.frames
  refine wpAny_Try_except (wpAny_mono (hb pins s σ H D _ I h) (fun f s1 q => ?_) fun xv s1 hx => ?_)
  · cases f with
    | next => exact wpAny_execs_nil q
    | ret v => exact q
    | brk => exact q
    | cont => exact q
  · obtain ⟨σ', H1, s0, I1, e, C, a0, H', B, rfl, os, bare, un, hok, fl, c1, c2, hex, hq⟩ := hx
    have fl1 : Heap.FlyingW B (X.env :: X.outer) e C a0 s1.heap := by rw [← hst]; exact fl
    refine wpAny_looks_onW hfr hf fl1 fun h₄ held₄ sm₄ => ?_
    refine wpAny_landsW held₄ fun h₅ fl₅ sm₅ => ?_
    have fl₅' : Heap.FlyingW B X.stack e C a0 h₅ := by rw [hst]; exact fl₅
    obtain ⟨_, I₅⟩ := I1.flown (tk := s1.toks) os bare un hok fl c1 c2 fl₅' (sm₄.trans sm₅)
    refine wpAny_handleBy_cons (codeAny_handlers_test ?_) (by intro q; cases q)
    refine ld_glob (X := X.hand e) (I₅.hand e) hg hm ?_ hd
    obtain ⟨ob, hob, hobc⟩ := fl₅.there
    have LT : PySem.W.Looks (model X.prog X.w) h₅ (typeOf (.ref e)) C := by
      subst hobc
      exact (PySem.W.Looks.ld hob).andThen .now
    refine (PySem.W.exm_one I₅.kIn LT hex).here ?_
    refine codeAny_handlers_suite_as ?_
    refine lands_againW fl₅ fun h₆ fl₆ sm₆ => ?_
    have fl₆' : Heap.FlyingW B X.stack e C a0 h₆ := by rw [hst]; exact fl₆
    obtain ⟨he, I₆⟩ := I1.flown (tk := s1.toks) os bare un hok fl c1 c2 fl₆' ((sm₄.trans sm₅).trans sm₆)
    refine store_ok (X := X.hand e) (I₆.hand e) hN hi (.inl hn) (show RelV (.ref e) (.ref e) from rfl) (fun s₇ I₇ => ?_) (.inr hn)
    refine wpAny_mono (hs e pins s₇ _ _ _ I₇ (hq e he)) (fun f s₈ q => ?_) fun _ _ z => z.elim
    have back : ∀ (f : Flow) (σ2 : St) (H2 : Hp) (s₈ : Shared), Inv (X.hand e) pins σ2 H2 s₈ → (∀ s10, Inv X pins (σ2.set i none) H2 s10 → SP X pins D f s10) →
        wpAny (model X.prog X.w) X.A (do bindName X.env n .none; unbindBehindTheSuite X.env n hpos) (fun _ s₃ => SP X pins D f s₃) X.xe s₈ := fun f σ2 H2 s₈ I2 k => by
      have I2 := I2.unhand I.ok
      refine wpAny_bind (wpAny_bindName (store_ok I2 hN hi (.inl hn) (show RelV .non .none from rfl) (fun s9 I9 => ?_) (.inr hn)))
      unfold unbindBehindTheSuite
      refine wpAny_onRaise (unbind_ok (v := .non) I9 hN hi hn ?_ fun s10 I10 => ?_)
      · rw [List.getElem?_set_self (by rw [I2.len]; exact (List.getElem?_eq_some_iff.mp hi).1)]
      · rw [List.set_set] at I10
        exact k s10 I10
    cases f with
    | next =>
      obtain ⟨σ2, H2, I2, q2⟩ := q
      exact back .next σ2 H2 s₈ I2 fun s10 I10 => ⟨_, _, I10, q2⟩
    | ret v =>
      obtain ⟨v', σ2, H2, I2, r2, q2⟩ := q
      exact back (.ret v) σ2 H2 s₈ I2 fun s10 I10 => ⟨v', _, _, I10, r2, q2⟩
    | brk =>
      obtain ⟨σ2, H2, I2, q2⟩ := q
      exact back .brk σ2 H2 s₈ I2 fun s10 I10 => ⟨_, _, I10, q2⟩
    | cont =>
      obtain ⟨σ2, H2, I2, q2⟩ := q
      exact back .cont σ2 H2 s₈ I2 fun s10 I10 => ⟨_, _, I10, q2⟩
end
/-! a def that is called within an except's suite: it raises nothing -/
structure RoomQ (k : Nat) (A : Around) : Prop where
  dp : A.depth + 3 * k + 5 < recursionLimit
  un : A.units + 16 * k + 200 < cLine
theorem RoomQ.of {k : Nat} {A : Around} (r : Room k A) (h : Option Value) : RoomQ k (A.mark h) := ⟨r.dp, r.un⟩
theorem RoomQ.depth {k : Nat} {A : Around} (r : RoomQ k A) : A.depth < recursionLimit := by have := r.dp; omega
theorem RoomQ.deeper {k : Nat} {A : Around} (r : RoomQ (k + 1) A) (env : Env) : RoomQ k (A.deeper env) :=
  ⟨by have := r.dp; show A.depth + 1 + 3 * k + 5 < _; omega, by have := r.un; show A.units + 3 + 16 * k + 200 < _; omega⟩
structure FnOkQ (P : Program) (w : World) (K : PySem.W.Frag) (mg : Str → Option Value) (base : Heap) (k : Nat) (f : Addr) (fd : FuncData) (ps : List Str) (sp : Sp) : Prop where
  len : ∀ vs H Q, sp vs H Q E0 → vs.length = ps.length
  run : ∀ (A : Around) (outer : List Env) (s : Shared) (H : Hp) (args : Args) (us : List Value) (vs : List V) (Q : VK), RoomQ k A → Env0 P w K mg base A outer s H → BindsTo s fd args (ps.zip us) → Vals vs us → sp vs H Q E0 →
    codeAny (model P w) A (.call (.ref f) args) (CR CX0 outer P w H s Q E0) s
abbrev cxQ (P : Program) (w : World) (K : PySem.W.Frag) (mg : Str → Option Value) (base : Heap) (N : List Str) (qual : Str) (scope : Scope) (f : Addr) (cd : Value) (A : Around) (outer : List Env) (s : Shared) (H : Hp) : Cx :=
  { cxOf CX0 P w K mg base N qual scope f cd A outer s H E0 with calm := false, xe := fun _ _ => False }
section
variable {P : Program} {w : World} {K : PySem.W.Frag} {mg : Str → Option Value} {base : Heap} {N ps : List Str} {qual : Str} {f : Addr} {k : Nat} {sp : Sp}
theorem inv_startQ {scope : Scope} {cd : Value} {A : Around} {outer : List Env} {s s1 : Shared} {H : Hp} {us : List Value} {vs : List V}
    (S : FnScope N ps scope) (e0 : Env0 P w K mg base A outer s H) (hl : vs.length = ps.length) (r : Vals vs us)
    (x : InCallC s s.heap.objs.size (bindL (envOfC qual scope s.heap.objs.size f cd).kindOf (ps.zip us) fun _ => none) (cellsFrom (s.heap.objs.size + 1) scope.names []) (bindC (envOfC qual scope s.heap.objs.size f cd).kindOf (ps.zip us) fun _ => none) s1) :
    Inv (cxQ P w K mg base N qual scope f cd A outer s H) [] (start N vs) H s1 := by
  have J := inv_start (CX := CX0) (E := E0) (A := { A with handled := none }) (P := P) (w := w) (K := K) (mg := mg) (base := base) (qual := qual) (f := f) (cd := cd) (outer := outer) (H := H) S rfl ⟨e0.frames, e0.mod, e0.bs, e0.bsz, e0.funs, e0.frf, e0.hok, e0.bare⟩ hl r x
  exact ⟨⟨J.ok.mod, J.ok.kind, J.ok.glob, J.ok.blt, J.ok.above, J.ok.inj, J.ok.has, J.ok.cab, (fun z => nomatch z), Around.frames_deeper e0.frames, J.ok.stk, J.ok.exf, J.ok.bs, J.ok.bsz, J.ok.noex, J.ok.exfs, J.ok.funs, J.ok.frf⟩,
    J.os, J.bare, J.base, J.loc, J.cell, J.free, J.freeC, J.pin, J.hok, J.len⟩
theorem Fun.okQ {x : Str} {st : Stmt} {fd : FuncData} (F : Fun K x qual st f fd) (S : FnScope N ps (defScope st)) (len : ∀ vs H Q, sp vs H Q E0 → vs.length = ps.length)
    (hbody : ∀ (cdv : Value) (A : Around) (outer : List Env) (s : Shared) (H : Hp) (vs : List V) (Q : VK), RoomQ k (A.deeper (envOfC qual (defScope st) s.heap.objs.size f cdv)) → sp vs H Q E0 →
      ∃ t, PSs (cxQ P w K mg base N qual (defScope st) f cdv A outer s H) (defBody st) t ∧ t { nx := fun _ H' => Q .non H', rt := Q } (start N vs) H) : FnOkQ P w K mg base (k + 1) f fd ps sp := by
  obtain ⟨oc, od, kV, doc, pm, an, cdv, ct, osl, rfl, lk, hcd⟩ := F.ex
  refine ⟨len, fun A outer s H args us vs Q hr e0 hb r hsp => ?_⟩
  have hl := len _ _ _ hsp
  have KX : K.In s.heap := e0.mod.kin.keeps fun b o e => (e0.bs b o e).1
  have lim : s.heap.NoLimit := e0.mod.nolimit.keeps fun b o e => (e0.bs b o e).1
  have hkind : ∀ y ∈ ps.zip us, (defScope st).names.lookup y.1 = some .local ∨ ((defScope st).names.lookup y.1 = some .cell ∧ ((cellsFrom (s.heap.objs.size + 1) (defScope st).names []).lookup y.1).isSome = true) := fun ⟨n, v⟩ hy => by
    rcases S.par n (List.of_mem_zip hy).1 with q | q
    · exact .inl q
    · exact .inr ⟨q, PySem.W.cellsFrom_some _ _ _ (.inl q)⟩
  refine codeAny_call_function hr.depth (KX _ _ lk) rfl S.co S.gen rfl (PySem.W.codeRec_of KX hcd) (hb _ _ _ _ ?_)
  refine wpAny_newFunctionEnv_cells S.kind hkind fun env he s1 x => ?_
  subst he
  refine ⟨lim.keeps x.toInCall.keep, codeAny_func ?_⟩
  obtain ⟨t, ht, hq⟩ := hbody cdv A outer s H vs Q (hr.deeper _) hsp
  have I : Inv (cxQ P w K mg base N qual (defScope st) f cdv A outer s H) [] (start N vs) H s1 := inv_startQ S e0 hl r x
  refine wpAny_mono (ht [] s1 (start N vs) H _ I hq) (fun fl s' hs => ?_) fun e s' hs => hs.elim
  have fin : ∀ {σ' : St} {H' : Hp} {v : V} {u : Value}, Inv (cxQ P w K mg base N qual (defScope st) f cdv A outer s H) [] σ' H' s' → RelV v u → Q v H' → CE outer P w H s Q u s' :=
    fun {σ' H' v u} J rv q => ⟨v, H', J.os, J.bare, J.base, J.hok, rv, q⟩
  cases fl with
  | ret u =>
    obtain ⟨v, σ', H', J, rv, q⟩ := hs
    exact fin J rv q
  | next =>
    obtain ⟨σ', H', J, q⟩ := hs
    exact fin (v := V.non) (u := Value.none) J rfl q
  | brk =>
    obtain ⟨_, _, _, q⟩ := hs
    exact False.elim q
  | cont =>
    obtain ⟨_, _, _, q⟩ := hs
    exact False.elim q
end
section
variable {X : Cx} {k : Nat} {f : Addr} {fd : FuncData} {ps : List Str} {sp : Sp} {x : Str} {p pos : Pos} {e : Expr} {es : List Expr} {t : TA}
def tCallQ (sp : Sp) (t : TA) : TE := fun σ H Q => t σ H fun vs H1 => sp vs H1 Q E0
theorem pe_callQ (F : FnOkQ X.prog X.w X.K X.mg X.base k f fd ps sp) (hr : RoomQ k X.A) (hg : Gl X x) (hm : X.mg x = some (.ref f)) (hk : PySem.W.keepIn X.K (.ref f) = true) (hb : Binds X.K fd ps [])
    (ha : PA X (e :: es) t) (hdb : (x == ("__debug__" : Str)) = false := by decide) (he : starEach (e :: es) X.env = (false, eval e X.env) :: starEach es X.env := by rfl) (hpl : (backTo pos (starEach es X.env)).any (·.1) = false := by rfl) :
    PE X (.Call (.Name x p) (e :: es) [] pos) (tCallQ sp t) := by
  intro pins s σ H Q I h
  refine wpAny_Call_Name_kw (ld_glob I hg hm ?_ hdb)
  refine PySem.W.callWith_K (h₀ := X.base) I.ok.mod.kin hk (thn (ha pos pins s σ H _ I h) fun us s1 ⟨vs, H1, I1, r, q⟩ => ⟨I1.kIn, ?_⟩) he hpl
  have hl : (us ++ []).length = ps.length := by rw [List.append_nil, ← r.length]; exact F.len _ _ _ q
  have hbb := hb s1 us I1.kIn hl
  rw [List.append_nil] at hbb
  refine wpAny_call (codeAny_mono (F.run X.A X.stack s1 H1 ⟨us, []⟩ us vs Q hr I1.env0 hbb r q) fun r s' hq => ?_)
  cases r with
  | error e => exact hq.elim
  | ok fl =>
    cases fl with
    | ret u => exact I1.after hq
    | next => exact False.elim hq
    | brk => exact False.elim hq
    | cont => exact False.elim hq
end
end L2

end
section
set_option Elab.async false
set_option linter.all false
set_option maxRecDepth 100000
set_option maxHeartbeats 4000000
namespace L2
open PySem PySem.Spec PyProof.Rows PySem.SeqAt
/-! isinstance of things: ints, bools, texts, None, lists, tuples -/
inductive Th (H : Hp) : V → Prop where
  | non : Th H .non
  | bl (b : Bool) : Th H (.bl b)
  | int (i : Int) : Th H (.int i)
  | str (x : Str) : Th H (.str x)
  | lst {a : Addr} {xs : List V} (e : H a = some (.lst xs)) : Th H (.ref a)
  | frz {a : Addr} {o : Obj} {xs : List V} (e : H a = some (.frz o (.lst xs))) : Th H (.ref a)
  | tup {a : Addr} {xs : List V} (e : H a = some (.tup xs)) : Th H (.ref a)
  | dic {a : Addr} {kvs : List (Key × V)} (e : H a = some (.dK kvs)) : Th H (.ref a)
theorem Th.same {H H' : Hp} {x : V} (t : Th H x) (s : Same H H') : Th H' x := by
  cases t with
  | non => exact .non
  | bl b => exact .bl b
  | int i => exact .int i
  | str z => exact .str z
  | lst e => exact .lst (s _ _ e)
  | frz e => exact .frz (s _ _ e)
  | tup e => exact .tup (s _ _ e)
  | dic e => exact .dic (s _ _ e)
def isI : V → Bool
  | .int _ => true
  | _ => false
def isB : V → Bool
  | .bl _ => true
  | _ => false
section
variable {K : PySem.W.Frag}
theorem kit_int_non : PySem.W.kitOne K (.type "NoneType") (.type "int") = some false := by kernel_rfl
theorem kit_int_bl : PySem.W.kitOne K (.type "bool") (.type "int") = some true := by kernel_rfl
theorem kit_int_int : PySem.W.kitOne K (.type "int") (.type "int") = some true := by kernel_rfl
theorem kit_int_str : PySem.W.kitOne K (.type "str") (.type "int") = some false := by kernel_rfl
theorem kit_int_lst : PySem.W.kitOne K (.type "list") (.type "int") = some false := by kernel_rfl
theorem kit_int_tup : PySem.W.kitOne K (.type "tuple") (.type "int") = some false := by kernel_rfl
theorem kit_int_dic : PySem.W.kitOne K (.type "dict") (.type "int") = some false := by kernel_rfl
theorem kit_bool_non : PySem.W.kitOne K (.type "NoneType") (.type "bool") = some false := by kernel_rfl
theorem kit_bool_bl : PySem.W.kitOne K (.type "bool") (.type "bool") = some true := by kernel_rfl
theorem kit_bool_int : PySem.W.kitOne K (.type "int") (.type "bool") = some false := by kernel_rfl
theorem kit_bool_str : PySem.W.kitOne K (.type "str") (.type "bool") = some false := by kernel_rfl
theorem kit_bool_lst : PySem.W.kitOne K (.type "list") (.type "bool") = some false := by kernel_rfl
theorem kit_bool_tup : PySem.W.kitOne K (.type "tuple") (.type "bool") = some false := by kernel_rfl
theorem kit_bool_dic : PySem.W.kitOne K (.type "dict") (.type "bool") = some false := by kernel_rfl
theorem kit_lst_lst : PySem.W.kitOne K (.type "list") (.type "list") = some true := by kernel_rfl
theorem kit_lst_non : PySem.W.kitOne K (.type "NoneType") (.type "list") = some false := by kernel_rfl
theorem kit_lst_bl : PySem.W.kitOne K (.type "bool") (.type "list") = some false := by kernel_rfl
theorem kit_lst_int : PySem.W.kitOne K (.type "int") (.type "list") = some false := by kernel_rfl
theorem kit_lst_str : PySem.W.kitOne K (.type "str") (.type "list") = some false := by kernel_rfl
theorem kit_lst_tup : PySem.W.kitOne K (.type "tuple") (.type "list") = some false := by kernel_rfl
theorem kit_lst_dic : PySem.W.kitOne K (.type "dict") (.type "list") = some false := by kernel_rfl
end
section
variable {X : Cx}
theorem call_isint : CallR X (.builtin "isinstance") (fun xs H Q => ∃ x, xs = [x, .ty "int"] ∧ Th H x ∧ Q (.bl (isI x || isB x)) H) := by
  intro pins s σ H xs us Q I r h
  obtain ⟨x, rfl, th, q⟩ := h
  obtain ⟨u, v, rfl, rx, rt⟩ := r.two
  obtain rfl : v = Value.type "int" := rt
  cases th with
  | non => exact isinst_ok I rx .non kit_int_non fun tk => ⟨.bl _, H, I.tok tk, rfl, q⟩
  | bl b => exact isinst_ok I rx (.bl b) kit_int_bl fun tk => ⟨.bl _, H, I.tok tk, rfl, q⟩
  | int i => exact isinst_ok I rx (.int i) kit_int_int fun tk => ⟨.bl _, H, I.tok tk, rfl, q⟩
  | str z => exact isinst_ok I rx (.str z) kit_int_str fun tk => ⟨.bl _, H, I.tok tk, rfl, q⟩
  | lst e => exact isinst_ok I rx (.lst e) kit_int_lst fun tk => ⟨.bl _, H, I.tok tk, rfl, q⟩
  | frz e => exact isinst_ok I rx (.frz e) kit_int_lst fun tk => ⟨.bl _, H, I.tok tk, rfl, q⟩
  | tup e => exact isinst_ok I rx (.tup e) kit_int_tup fun tk => ⟨.bl _, H, I.tok tk, rfl, q⟩
  | dic e => exact isinst_ok I rx (.dK e) kit_int_dic fun tk => ⟨.bl _, H, I.tok tk, rfl, q⟩
theorem call_isbool : CallR X (.builtin "isinstance") (fun xs H Q => ∃ x, xs = [x, .ty "bool"] ∧ Th H x ∧ Q (.bl (isB x)) H) := by
  intro pins s σ H xs us Q I r h
  obtain ⟨x, rfl, th, q⟩ := h
  obtain ⟨u, v, rfl, rx, rt⟩ := r.two
  obtain rfl : v = Value.type "bool" := rt
  cases th with
  | non => exact isinst_ok I rx .non kit_bool_non fun tk => ⟨.bl _, H, I.tok tk, rfl, q⟩
  | bl b => exact isinst_ok I rx (.bl b) kit_bool_bl fun tk => ⟨.bl _, H, I.tok tk, rfl, q⟩
  | int i => exact isinst_ok I rx (.int i) kit_bool_int fun tk => ⟨.bl _, H, I.tok tk, rfl, q⟩
  | str z => exact isinst_ok I rx (.str z) kit_bool_str fun tk => ⟨.bl _, H, I.tok tk, rfl, q⟩
  | lst e => exact isinst_ok I rx (.lst e) kit_bool_lst fun tk => ⟨.bl _, H, I.tok tk, rfl, q⟩
  | frz e => exact isinst_ok I rx (.frz e) kit_bool_lst fun tk => ⟨.bl _, H, I.tok tk, rfl, q⟩
  | tup e => exact isinst_ok I rx (.tup e) kit_bool_tup fun tk => ⟨.bl _, H, I.tok tk, rfl, q⟩
  | dic e => exact isinst_ok I rx (.dK e) kit_bool_dic fun tk => ⟨.bl _, H, I.tok tk, rfl, q⟩
def isLst (H : Hp) : V → Bool
  | .ref a => match H a with | some (.lst _) => true | some (.frz _ (.lst _)) => true | _ => false
  | _ => false
theorem call_islist : CallR X (.builtin "isinstance") (fun xs H Q => ∃ x, xs = [x, .ty "list"] ∧ Th H x ∧ Q (.bl (isLst H x)) H) := by
  intro pins s σ H xs us Q I r h
  obtain ⟨x, rfl, th, q⟩ := h
  obtain ⟨u, v, rfl, rx, rt⟩ := r.two
  obtain rfl : v = Value.type "list" := rt
  cases th with
  | non => exact isinst_ok I rx .non kit_lst_non fun tk => ⟨.bl _, H, I.tok tk, rfl, q⟩
  | bl b => exact isinst_ok I rx (.bl b) kit_lst_bl fun tk => ⟨.bl _, H, I.tok tk, rfl, q⟩
  | int i => exact isinst_ok I rx (.int i) kit_lst_int fun tk => ⟨.bl _, H, I.tok tk, rfl, q⟩
  | str z => exact isinst_ok I rx (.str z) kit_lst_str fun tk => ⟨.bl _, H, I.tok tk, rfl, q⟩
  | lst e => exact isinst_ok I rx (.lst e) kit_lst_lst fun tk => ⟨.bl _, H, I.tok tk, rfl, by simp only [isLst, e] at q; exact q⟩
  | frz e => exact isinst_ok I rx (.frz e) kit_lst_lst fun tk => ⟨.bl _, H, I.tok tk, rfl, by simp only [isLst, e] at q; exact q⟩
  | tup e => exact isinst_ok I rx (.tup e) kit_lst_tup fun tk => ⟨.bl _, H, I.tok tk, rfl, by simp only [isLst, e] at q; exact q⟩
  | dic e => exact isinst_ok I rx (.dK e) kit_lst_dic fun tk => ⟨.bl _, H, I.tok tk, rfl, by simp only [isLst, e] at q; exact q⟩
/-! isinstance of a caught refusal -/
def IsC (K : PySem.W.Frag) (D : Addr) (c : V) (b : Bool) : Prop := EX.Cls K D ∧ ((∃ C, c = .ref C ∧ b = false ∧ PySem.W.kin_not K D C = true) ∨
  (∃ C, c = .ref C ∧ b = true ∧ PySem.W.typeIn K (.ref C) = some (.type "type") ∧ PySem.W.mroIn K C (.type "object") = some true ∧ PySem.W.subIn K (.ref D) (.ref C) = some true) ∨
  (∃ T, c = .ty T ∧ b = true ∧ typeOf (.type T) = pure (.type "type") ∧ PySem.W.subIn K (.ref D) (.type T) = some true))
theorem call_isexc {D : Addr} {c : V} {b : Bool} (hc : IsC X.K D c b) : CallR X (.builtin "isinstance") (fun xs H Q => ∃ e, xs = [.ref e, c] ∧ H e = some (xob e (.ref D)) ∧ Q (.bl b) H) := by
  intro pins s σ H xs us Q I r h
  obtain ⟨e, rfl, he, q⟩ := h
  obtain ⟨u, v, rfl, rx, rt⟩ := r.two
  obtain rfl : u = Value.ref e := rx
  obtain ⟨⟨oe, h1, h2⟩, _, _⟩ := (show ObjOk X.prog X.w H s.heap e (xob e (.ref D)) from I.hok e _ he)
  obtain ⟨k, hc⟩ := hc
  rcases hc with ⟨C, rfl, rfl, e1⟩ | ⟨C, rfl, rfl, e1, e2, e3⟩ | ⟨T, rfl, rfl, e1, e3⟩
  · obtain rfl : v = Value.ref C := rt
    exact EX.call_not I.kIn h1 h2 k e1 ⟨.bl _, H, I.tok _, rfl, q⟩
  · obtain rfl : v = Value.ref C := rt
    exact EX.call_yes I.kIn h1 h2 k e1 e2 e3 ⟨.bl _, H, I, rfl, q⟩
  · obtain rfl : v = Value.type T := rt
    exact EX.call_yesT I.kIn h1 h2 k e1 e3 ⟨.bl _, H, I, rfl, q⟩
end
/-! == of lists, by their data -/
mutual
inductive DatR (K : PySem.W.Frag) (H : Hp) : V → PyData → Prop
  | non : DatR K H .non .none
  | bl (b : Bool) : DatR K H (.bl b) (.bool b)
  | int (i : Int) : DatR K H (.int i) (.int i)
  | str (x : Str) : DatR K H (.str x) (.str x)
  | lst {a : Addr} {xs : List V} {ds : List PyData} : SqL K H a xs → DatsR K H xs ds → DatR K H (.ref a) (.list ds)
  | tup {a : Addr} {xs : List V} {ds : List PyData} : SqT K H a xs → DatsR K H xs ds → DatR K H (.ref a) (.tuple ds)
inductive DatsR (K : PySem.W.Frag) (H : Hp) : List V → List PyData → Prop
  | nil : DatsR K H [] []
  | cons {x : V} {d : PyData} {xs : List V} {ds : List PyData} : DatR K H x d → DatsR K H xs ds → DatsR K H (x :: xs) (d :: ds)
end
section
variable {X : Cx} {pins : List (Addr × Obj)} {σ : St} {H : Hp} {s : Shared}
mutual
theorem DatR.reads (I : Inv X pins σ H s) : ∀ {v : V} {d : PyData} {u : Value}, DatR X.K H v d → RelV v u → ∃ as, Reads s.heap u d as
  | _, _, _, .non, r => ⟨[], by cases (show _ = Value.none from r); exact .none⟩
  | _, _, _, .bl b, r => ⟨[], by cases (show _ = Value.bool b from r); exact .bool b⟩
  | _, _, _, .int i, r => ⟨[], by obtain ⟨t, rfl⟩ := r; exact .int i t⟩
  | _, _, _, .str x, r => ⟨[], by obtain ⟨t, rfl⟩ := r; exact .str x t⟩
  | _, _, _, .lst (a := a) sq ds, r => by
    cases (show _ = Value.ref a from r)
    obtain ⟨its, rv, ⟨o, n, e, hc, _, hd⟩, _⟩ := I.list sq
    obtain ⟨as, ra⟩ := DatsR.reads I ds rv
    exact ⟨_, .list e hc hd (by simpa using ra)⟩
  | _, _, _, .tup (a := a) sq ds, r => by
    cases (show _ = Value.ref a from r)
    obtain ⟨its, rv, ⟨o, e, hc, n, hd⟩, _⟩ := I.tuple sq
    obtain ⟨as, ra⟩ := DatsR.reads I ds rv
    exact ⟨_, .tuple e hc hd (by simpa using ra)⟩
theorem DatsR.reads (I : Inv X pins σ H s) : ∀ {vs : List V} {ds : List PyData} {us : List Value}, DatsR X.K H vs ds → Vals vs us → ∃ as, ReadsAll s.heap us ds as
  | _, _, _, .nil, .nil => ⟨[], .nil⟩
  | _, _, _, .cons d ds, .cons r rs => by
    obtain ⟨as, ra⟩ := DatR.reads I d r
    obtain ⟨bs, rb⟩ := DatsR.reads I ds rs
    exact ⟨_, .cons ra rb⟩
end
end
section
variable {X : Cx}
def rEqD (K : PySem.W.Frag) : R2 := fun x y H Q => ∃ da db, DatR K H x da ∧ DatR K H y db ∧ shaped da = true ∧ shaped db = true ∧ Q (.bl (PyData.eqv da db)) H
def rNeD (K : PySem.W.Frag) : R2 := fun x y H Q => ∃ da db, DatR K H x da ∧ DatR K H y db ∧ shaped da = true ∧ shaped db = true ∧ Q (.bl (!PyData.eqv da db)) H
theorem op_eqD (hu : X.A.units + 64 < cLine) : OpR X (compareOp .Eq) (rEqD X.K) := by
  intro pins s σ H x y v u Q I rx ry h
  obtain ⟨da, db, ra, rb, ha, hb, q⟩ := h
  obtain ⟨as, r1⟩ := ra.reads I rx
  obtain ⟨bs, r2⟩ := rb.reads I ry
  exact eq_dataH r1 r2 ha hb hu ⟨.bl _, H, I, rfl, q⟩
end
end L2

end
section
set_option Elab.async false
set_option linter.all false
set_option maxRecDepth 100000
set_option maxHeartbeats 4000000
namespace L2
open PySem PySem.Spec PyProof.Rows
/-! [e for x in xs], [e for x in xs if c] -/
def compN (x : Str) (N : List Str) : List Str := x :: N.map fun y => if y = x then ("" : Str) else y
def CapOk (X : Cx) (x : Str) (cl : List (Str × Addr)) : List (Str × NameKind) → Prop
  | [] => True
  | (n, k) :: r => (((n = x ∨ n = ".0") ∧ k = .local) ∨ (k ≠ .local ∧ k ≠ .cell ∧ k ≠ .free) ∨ (k = .cell ∧ n ≠ x ∧ n ≠ "" ∧ X.env.scope.names.lookup n = some .cell ∧ cl.lookup n = X.env.cells.lookup n)) ∧ CapOk X x cl r
def ClOk (X : Cx) : List (Str × Addr) → Prop
  | [] => True
  | (n, c) :: r => X.env.cells.lookup n = some c ∧ ClOk X r
theorem CapOk.at {X : Cx} {x : Str} {cl : List (Str × Addr)} {y : Str} {k : NameKind} : ∀ {l : List (Str × NameKind)}, CapOk X x cl l → l.lookup y = some k →
    ((y = x ∨ y = ".0") ∧ k = .local) ∨ (k ≠ .local ∧ k ≠ .cell ∧ k ≠ .free) ∨ (k = .cell ∧ y ≠ x ∧ y ≠ "" ∧ X.env.scope.names.lookup y = some .cell ∧ cl.lookup y = X.env.cells.lookup y)
  | [], _, h => by simp at h
  | (n, k') :: r, ⟨h1, h2⟩, h => by
    rw [List.lookup_cons] at h
    split at h
    · rename_i e
      cases h
      rw [beq_iff_eq.mp e]
      exact h1
    · exact CapOk.at h2 h
theorem ClOk.at {X : Cx} {y : Str} {c : Addr} : ∀ {l : List (Str × Addr)}, ClOk X l → l.lookup y = some c → X.env.cells.lookup y = some c
  | [], _, h => by simp at h
  | (n, k') :: r, ⟨h1, h2⟩, h => by
    rw [List.lookup_cons] at h
    split at h
    · rename_i e
      cases h
      rw [beq_iff_eq.mp e]
      exact h1
    · exact ClOk.at h2 h
abbrev cxC (X : Cx) (x : Str) (scope : Scope) (cl : List (Str × Addr)) (C : Addr) (s₂ : Shared) (H₂ : Hp) (fp : List Addr) : Cx :=
  { X with N := compN x X.N, s₀ := s₂, H₀ := H₂, env := compEnvC scope cl C X.env, outer := X.stack, ex := fp, fn := fun _ => false, pn := [], xe := fun _ _ => False }
section
variable {X : Cx} {pins : List (Addr × Obj)} {σ : St} {H₂ : Hp} {s₂ : Shared} {fp : List Addr} {x : Str} {scope : Scope} {cl : List (Str × Addr)} {C : Addr}
theorem okC (I : Inv X pins σ H₂ s₂) (hf : ∀ b ∈ fp, FpOk X pins H₂ b) (ho : ∀ b ∈ fp, ∃ o, s₂.heap.get? b = some o) (hkind : scope.kind = .function) (hc : CapOk X x cl (relabel scope X.env).names) (hcl : ClOk X cl) (hC : s₂.heap.objs.size ≤ C) :
    (cxC X x scope cl C s₂ H₂ fp).Ok where
  mod := I.ok.mod
  kind := hkind
  glob := I.ok.glob
  blt := I.ok.blt
  above := hC
  inj := fun y z c h1 h2 => I.ok.inj y z c (hcl.at h1) (hcl.at h2)
  has := fun y hy => by
    have hy' : (relabel scope X.env).names.lookup y = some .cell ∨ (relabel scope X.env).names.lookup y = some .free := hy
    rcases hy' with h | h
    · rcases hc.at h with ⟨_, z⟩ | ⟨_, z, _⟩ | ⟨_, _, _, z1, z2⟩
      · cases z
      · exact absurd rfl z
      · obtain ⟨c, e⟩ := I.ok.has y (.inl z1)
        exact ⟨c, z2.trans e⟩
    · rcases hc.at h with ⟨_, z⟩ | ⟨_, _, z⟩ | ⟨z, _⟩
      · cases z
      · exact absurd rfl z
      · cases z
  cab := fun y c h _ => absurd (show false = true from h) Bool.false_ne_true
  hd := I.ok.hd
  frames := I.ok.frames
  stk := .inl rfl
  exf := fun b hb => by
    obtain ⟨o, e⟩ := ho b hb
    exact ⟨Nat.ne_of_lt (Nat.lt_of_lt_of_le (Heap.lt_size e) hC), fun y c h => (hf b hb).2.2.2.2.1 y c (hcl.at h)⟩
  bs := I.bs
  bsz := Nat.le_trans I.ok.bsz I.sz
  noex := fun b o e hb => by
    rcases (hf b hb).2.2.2.1 with z | z
    · exact I.ok.noex b o e z
    · exact absurd (Nat.lt_of_lt_of_le (Heap.lt_size (I.ok.bs b o e).1) z) (Nat.lt_irrefl _)
  exfs := fun b hb z => by
    rcases List.mem_cons.mp (I.stkSub b z) with q | q
    · exact (hf b hb).2.1 q
    · exact (hf b hb).2.2.1 q
  funs := I.stack
  frf := I.stkFree
theorem invC {h₁ : Heap} {tk : Nat} (I : Inv X pins σ H₂ s₂) (hf : ∀ b ∈ fp, FpOk X pins H₂ b) (ho : ∀ b ∈ fp, ∃ o, s₂.heap.get? b = some o) (hkind : scope.kind = .function) (hc : CapOk X x cl (relabel scope X.env).names) (hcl : ClOk X cl) (hx0 : x ≠ "") (hdot : (".0" : Str) ∉ X.N)
    (hC : C = s₂.heap.objs.size + 1) (hns : h₁.Ns C fun _ => none) (old : ∀ b o, s₂.heap.get? b = some o → h₁.get? b = some o) (hD : ∃ n, h₁.get? s₂.heap.objs.size = some { cls := .type "list", data := .seq #[] n }) :
    Inv (cxC X x scope cl C s₂ H₂ fp) [] (none :: σ) (upd H₂ s₂.heap.objs.size (.lst [])) { s₂ with heap := h₁, toks := tk } := by
  have hn : H₂ s₂.heap.objs.size = none := I.hok.fresh (Nat.le_refl _)
  refine ⟨okC I hf ho hkind hc hcl (by rw [hC]; exact Nat.le_succ _), rfl, I.bare, Un.laid old (Nat.le_refl _) hn, ⟨_, hns, fun i y v h1 h2 h3 => ?_⟩, fun y c e => ?_, ?_, fun y c e => ?_, fun p hp => absurd (show p ∈ ([] : List (Addr × Obj)) from hp) (by simp), ?_, ?_⟩
  · cases i with
    | zero =>
      have h2' : some (none : Option V) = some (some v) := h2
      cases h2'
    | succ i =>
      have h1' : (X.N.map fun y => if y = x then ("" : Str) else y)[i]? = some y := h1
      have h2' : σ[i]? = some (some v) := h2
      rw [List.getElem?_map] at h1'
      cases e : X.N[i]? with
      | none => rw [e] at h1'; cases h1'
      | some z =>
        rw [e] at h1'
        have h1'' : (if z = x then ("" : Str) else z) = y := Option.some.inj h1'
        have cap : ∀ k, (relabel scope X.env).names.lookup y = some k → k = .local ∨ k = .cell ∨ k = .free → X.env.scope.names.lookup y = some .cell ∧ cl.lookup y = X.env.cells.lookup y ∧ k = .cell ∧ z = y := fun k hk hv => by
          rcases hc.at hk with ⟨q, _⟩ | ⟨q1, q2, q3⟩ | ⟨q0, q1, q2, q3, q4⟩
          · exfalso
            rcases q with q | q
            · subst q
              by_cases hz : z = y
              · rw [if_pos hz] at h1''
                exact hx0 h1''.symm
              · rw [if_neg hz] at h1''
                exact hz h1''
            · subst q
              by_cases hz : z = x
              · rw [if_pos hz] at h1''
                exact absurd h1'' (by decide +kernel)
              · rw [if_neg hz] at h1''
                subst h1''
                exact hdot (List.mem_of_getElem? e)
          · rcases hv with q | q | q
            · exact absurd q q1
            · exact absurd q q2
            · exact absurd q q3
          · refine ⟨q3, q4, q0, ?_⟩
            by_cases hz : z = x
            · rw [if_pos hz] at h1''
              exact absurd h1''.symm q2
            · rw [if_neg hz] at h1''
              exact h1''
        have h3' : (relabel scope X.env).names.lookup y = some .local ∨ (relabel scope X.env).names.lookup y = some .cell ∨ (relabel scope X.env).names.lookup y = some .free := h3
        obtain ⟨k, hk, hv⟩ : ∃ k, (relabel scope X.env).names.lookup y = some k ∧ (k = .local ∨ k = .cell ∨ k = .free) := by
          rcases h3' with q | q | q
          · exact ⟨_, q, .inl rfl⟩
          · exact ⟨_, q, .inr (.inl rfl)⟩
          · exact ⟨_, q, .inr (.inr rfl)⟩
        obtain ⟨c1, c2, c3, rfl⟩ := cap k hk hv
        subst c3
        obtain ⟨m, _, hl⟩ := I.loc
        obtain ⟨u, r, l⟩ := hl i z v e h2' (.inr (.inl c1))
        refine ⟨u, r, ?_⟩
        rcases l with ⟨q, _⟩ | ⟨_, c, q1, q2⟩
        · have q' : X.env.scope.names.lookup z = some .local := q
          rw [c1] at q'
          cases q'
        · refine .inr ⟨.inl hk, c, c2.trans q1, ?_⟩
          obtain ⟨oc, g1, g2⟩ := q2
          exact ⟨oc, old _ _ g1, g2⟩
  · obtain ⟨v, oc, g1, g2⟩ := I.cell y c (hcl.at e)
    exact ⟨v, oc, old _ _ g1, g2⟩
  · show (upd H₂ s₂.heap.objs.size (.lst [])) C = none
    rw [upd_ne (by rw [hC]; exact Nat.ne_of_gt (Nat.lt_succ_self _))]
    exact I.hok.fresh (by rw [hC]; exact Nat.le_succ _)
  · obtain ⟨v, oc, g1, g2⟩ := I.cell y c (hcl.at e)
    rw [upd_ne (Nat.ne_of_lt (Heap.lt_size g1))]
    exact I.freeC y c (hcl.at e)
  · obtain ⟨n, e⟩ := hD
    exact I.hok.laid old (Nat.le_refl _) ⟨Nat.zero_le _, [], n, .nil, e⟩
  · show (none :: σ).length = (compN x X.N).length
    simp [compN, I.len]
theorem fpC (I : Inv X pins σ H₂ s₂) (hf : ∀ b ∈ fp, FpOk X pins H₂ b) (ho : ∀ b ∈ fp, ∃ o, s₂.heap.get? b = some o) (hcl : ClOk X cl) (hC : s₂.heap.objs.size ≤ C) {H : Hp} (hn : ∀ b ∈ fp, H b = none) : ∀ b ∈ fp, FpOk (cxC X x scope cl C s₂ H₂ fp) [] H b := fun b hb => by
  obtain ⟨o, e⟩ := ho b hb
  refine ⟨hn b hb, Nat.ne_of_lt (Nat.lt_of_lt_of_le (Heap.lt_size e) hC), fun z => ?_, .inl hb, fun y c h => (hf b hb).2.2.2.2.1 y c (hcl.at h), fun p hp => absurd (show p ∈ ([] : List (Addr × Obj)) from hp) (by simp)⟩
  rcases List.mem_cons.mp (I.stkSub b z) with q | q
  · exact (hf b hb).2.1 q
  · exact (hf b hb).2.2.1 q
end
theorem compLoop_go {prog : Program} {w : World} {A : Around} {R : Result → Shared → Prop} {s : Shared} {elt target iter : Expr} {ifs : List Expr} {scope : Scope} {pos : Pos} {it acc : Value} {env : Env} (I : Nat → Shared → Prop)
    (turn : ∀ n s, I n s → wpAny (model prog w) A (pyNext it) (fun r s₁ => match r with
      | none => R (.ok .next) s₁
      | some v => wpAny (model prog w) A (letOwnedTupleGo target it v) (fun _ s₀ => wpAny (model prog w) A (assign target env v) (fun _ s₂ =>
          wpAny (model prog w) A (forIn ifs true fun c r => if r = true then do let ok ← isTrue c env (eval c env); pure (ForInStep.yield ok) else pure (ForInStep.yield r)) (fun ok s₃ =>
            if ok = true then wpAny (model prog w) A (eval elt env) (fun x s₄ =>
              wpAny (model prog w) A (call (.builtin "list.append") [acc, x]) (fun _ s₅ => ∃ m, m < n ∧ I m s₅) (fun _ _ => False) s₄) (fun _ _ => False) s₃
            else ∃ m, m < n ∧ I m s₃) (fun _ _ => False) s₂) (fun _ _ => False) s₀) (fun _ _ => False) s₁) (fun _ _ => False) s)
    (n : Nat) (h : I n s) :
    codeAny (model prog w) A (.compLoop (.ListComp elt [⟨target, iter, ifs, 0⟩] scope pos) 0 it acc env) R s := by
  refine codeAny_loop rfl I (fun n s hI => ?_) n h
  show wpAny _ A ((compTurn (.ListComp elt [⟨target, iter, ifs, 0⟩] scope pos) 0 it acc env).onRaise (fun x => do noteFrame x env; theTreesLotGoes x)) _ _ s
  refine wpAny_noted ?_
  refine wpAny_noRaise ?_
  rw [compTurn_list]
  refine wpAny_bind (wpAny_standAt (wpAny_bind (wpAny_mono (turn n s hI) (fun r s₁ h₁ => ?_) fun _ _ h' => h')))
  cases r with
  | none => exact wpAny_pure h₁
  | some v =>
    refine wpAny_bind (wpAny_mono h₁ (fun _ s₀ h₀ => wpAny_bind (wpAny_mono h₀ (fun _ s₂ h₂ => wpAny_bind (wpAny_mono h₂ (fun ok s₃ h₃ => ?_) fun _ _ h' => h')) fun _ _ h' => h')) fun _ _ h' => h')
    cases ok with
    | false => exact wpAny_pure ⟨rfl, h₃⟩
    | true =>
      exact wpAny_bind (wpAny_bind (wpAny_mono h₃ (fun x s₄ h₄ => wpAny_bind (wpAny_mono h₄ (fun _ s₅ h₅ => wpAny_pure (wpAny_pure ⟨rfl, h₅⟩)) fun _ _ h' => h')) fun _ _ h' => h'))
inductive Ifs (PTc : Expr → TT → Prop) : List Expr → TT → Prop
  | nil : Ifs PTc [] (fun _ H Q => Q true H)
  | one {c : Expr} {t : TT} : PTc c t → Ifs PTc [c] t
def tComp (wi : TI) (tc : TT) (te : TE) : TE := fun σ H Q => wi σ H fun J H1 => ∀ D, H1 D = none → ∃ W : Nat → Nat → List V → Hp → Prop, (∃ m, W 0 m [] (upd H1 D (.lst []))) ∧ ∀ i m ys H, W i m ys H → H D = some (.lst ys) ∧
  ((J.stop i H ∧ Q (.ref D) H) ∨ (J.go i H ∧ ∃ N : List V → Hp → Prop, (∀ zs H', N zs H' → ∃ m', m' < m ∧ W (i + 1) m' zs H') ∧ ∀ x H', J.yld i H x H' → tc (some x :: σ) H' fun b H2 => if b = true then te (some x :: σ) H2 fun y H3 => H3 D = some (.lst ys) ∧ ys.length < sizeLine ∧ N (ys ++ [y]) (upd H3 D (.lst (ys ++ [y])))
    else N ys H2))
section
variable {X : Cx} {x : Str} {px pos : Pos} {scope : Scope} {cl : List (Str × Addr)} {elt iter : Expr} {ifs : List Expr} {wi : TI} {tc : TT} {te : TE}
theorem comp_block (hcalm : X.calm = true) (hkind : scope.kind = .function) (hnc : ∀ y ∈ scope.names, y.2 ≠ .cell) (hc : CapOk X x cl (relabel scope X.env).names) (hcl : ClOk X cl) (hx0 : x ≠ "") (hdot : (".0" : Str) ∉ X.N) (hxl : scope.names.lookup x = some .local) (hN : (compN x X.N).Nodup)
    (ht : ∀ C s₂ H₂ fp, Ifs (PT (cxC X x scope cl C s₂ H₂ fp)) ifs tc) (he : ∀ C s₂ H₂ fp, PE (cxC X x scope cl C s₂ H₂ fp) elt te)
    {pins : List (Addr × Obj)} {σ : St} {H₂ : Hp} {s₂ : Shared} {Q : VK} {it : Addr} {fp : List Addr} {tn : Nat → Heap → Prop} {J : It} {RR : Value → Addr → Result → Shared → Prop} {E : Value → Shared → Prop} (I : Inv X pins σ H₂ s₂) (T : Turn X.prog X.w X.K (.Name x px) J fp it tn) (st : tn 0 s₂.heap)
    (hf : ∀ b ∈ fp, FpOk X pins H₂ b)
    (hq : ∀ D, H₂ D = none → ∃ W : Nat → Nat → List V → Hp → Prop, (∃ m, W 0 m [] (upd H₂ D (.lst []))) ∧ ∀ i m ys H, W i m ys H → H D = some (.lst ys) ∧
      ((J.stop i H ∧ Q (.ref D) H) ∨ (J.go i H ∧ ∃ N : List V → Hp → Prop, (∀ zs H', N zs H' → ∃ m', m' < m ∧ W (i + 1) m' zs H') ∧ ∀ x H', J.yld i H x H' → tc (some x :: σ) H' fun b H2 => if b = true then te (some x :: σ) H2 fun y H3 => H3 D = some (.lst ys) ∧ ys.length < sizeLine ∧ N (ys ++ [y]) (upd H3 D (.lst (ys ++ [y])))
        else N ys H2)))
    (hRR : ∀ D C s' H', Inv X pins σ H' s' → Q (.ref D) H' → H' C = none → C ≠ X.env.locals → X.s₀.heap.objs.size ≤ C → (∀ y c, X.env.cells.lookup y = some c → c ≠ C) → (∀ p ∈ X.pn ++ pins, p.1 ≠ C) → (∃ m, s'.heap.Ns C m) → RR (.ref D) C (.ok .next) s') :
    wpAny (model X.prog X.w) X.A (newList []) (fun acc s₃ => wpAny (model X.prog X.w) X.A (newFunctionEnv scope X.env.globals cl [] X.env.qual none .none (some X.env)) (fun cenv s₄ =>
      codeAny (model X.prog X.w) X.A (.compStart (.ListComp elt [⟨.Name x px, iter, ifs, 0⟩] scope pos) 0 (.ref it) acc { cenv with scope := relabel scope X.env }) (RR acc cenv.locals) s₄) E s₃) E s₂ := by
  refine wpAny_newObj_type (wpAny_newFunctionEnv hnc (by intro y hy; simp at hy) (fun h₁ hns₁ hsb₁ => ?_) hkind)
  dsimp only at hns₁ hsb₁ ⊢
  have ho : ∀ b ∈ fp, ∃ o, s₂.heap.get? b = some o := fun b hb => let ⟨o, e, _⟩ := T.obj 0 _ st b hb; ⟨o, e⟩
  generalize hH2 : s₂.heap.push { cls := .type "list", dict := none, data := .seq ([] : List Value).toArray } = P2 at hns₁ hsb₁ ⊢
  have hC : P2.objs.size = s₂.heap.objs.size + 1 := by rw [← hH2, Heap.size_push]
  have old : ∀ b o, s₂.heap.get? b = some o → h₁.get? b = some o := fun b o e => hsb₁.extBut b o (by rw [hC]; exact Nat.ne_of_lt (Nat.lt_succ_of_lt (Heap.lt_size e))) (Heap.get?_push_of_some _ (hH2 ▸ Heap.get?_push_of_some _ e))
  have hD : ∃ n, h₁.get? s₂.heap.objs.size = some { cls := .type "list", data := .seq #[] n } := ⟨_, hsb₁.extBut _ _ (by rw [hC]; exact Nat.ne_of_lt (Nat.lt_succ_self _)) (Heap.get?_push_of_some _ (hH2 ▸ Heap.get?_push_size _ rfl))⟩
  have hns' : h₁.Ns P2.objs.size fun _ => none := by
    have e : (fun x : Str => ([] : List (Str × Value)).reverse.lookup x) = fun _ => none := by funext y; rfl
    rw [← e]
    exact hns₁
  have I0 := invC (tk := s₂.toks + ([] : List (Str × Value)).length) I hf ho hkind hc hcl hx0 hdot hC hns' old hD
  obtain ⟨W, ⟨m0, w0⟩, turn⟩ := hq _ (I.hok.fresh (Nat.le_refl _))
  have hCs : X.s₀.heap.objs.size ≤ P2.objs.size := by rw [hC]; exact Nat.le_succ_of_le I.sz
  have loop : ∀ s₃ : Shared, s₃ = { s₂ with heap := h₁, toks := s₂.toks + ([] : List (Str × Value)).length } →
      codeAny (model X.prog X.w) X.A (.compLoop (.ListComp elt [⟨.Name x px, iter, ifs, 0⟩] scope pos) 0 (.ref it) (.ref s₂.heap.objs.size) (compEnvC scope cl P2.objs.size X.env)) (RR (.ref s₂.heap.objs.size) P2.objs.size) s₃ := by
    rintro s₃ rfl
    refine compLoop_go (fun n s' => ∃ i ys v H, Inv (cxC X x scope cl P2.objs.size s₂ H₂ fp) [] (v :: σ) H s' ∧ tn i s'.heap ∧ (∀ b ∈ fp, H b = none) ∧ W i n ys H) ?_ m0
      ⟨0, [], none, _, I0, T.keep _ _ _ st fun b _ o e => old b o e, fun b hb => by rw [upd_ne (by obtain ⟨o, e⟩ := ho b hb; exact Nat.ne_of_lt (Heap.lt_size e))]; exact (hf b hb).1, w0⟩
    rintro n s' ⟨i, ys, v, H, I', st', fr', w'⟩
    have fpn : ∀ {H : Hp}, (∀ b ∈ fp, H b = none) → ∀ b ∈ fp, FpOk (cxC X x scope cl P2.objs.size s₂ H₂ fp) [] H b := fun hn => fpC I hf ho hcl (by rw [hC]; exact Nat.le_succ _) hn
    obtain ⟨hDl, go⟩ := turn i n ys H w'
    rcases go with ⟨stop, qn⟩ | ⟨go, Nx, hNx, step⟩
    · refine wpAny_mono (T.done (cxC X x scope cl P2.objs.size s₂ H₂ fp) rfl rfl rfl hcalm i [] s' (v :: σ) H (fun _ _ => False) I' (fpn fr') st' stop) (fun r s4 z => ?_) fun _ _ z => z
      obtain ⟨hr, I4⟩ := z
      subst hr
      obtain ⟨m4, hm4, _⟩ := I4.loc
      refine hRR _ _ s4 H (I.call' I4.os I4.base I4.hok I4.bare fun b hb => ?_) qn I4.free ?_ hCs (fun y c e z => ?_) (fun p hp z => ?_) ⟨m4, hm4⟩
      · obtain ⟨f0, f1, f2, f3, f4, f5⟩ := hf b hb
        exact ⟨f3, f1, f4, f5⟩
      · rw [hC]
        exact Nat.ne_of_gt (Nat.lt_succ_of_lt I.lt)
      · obtain ⟨v', oc, g1, _⟩ := I.cell y c e
        have := Heap.lt_size g1
        rw [z, hC] at this
        exact absurd (Nat.lt_of_succ_lt this) (Nat.lt_irrefl _)
      · have := Heap.lt_size (I.pin p hp).1
        rw [z, hC] at this
        exact absurd (Nat.lt_of_succ_lt this) (Nat.lt_irrefl _)
    · refine wpAny_mono (T.item (cxC X x scope cl P2.objs.size s₂ H₂ fp) rfl rfl rfl hcalm i [] s' (v :: σ) H (fun _ _ => False) I' (fpn fr') st' go) (fun r s4 z => ?_) fun _ _ z => z
      obtain ⟨u, hr, h4⟩ := z
      subst hr
      refine wpAny_mono h4 (fun _ s5 z => ?_) fun _ _ z => z
      obtain ⟨y, H5, I5, r5, y5, st5, fr5⟩ := z
      have I5' := I5.pinned (fpn fr5) (T.obj _ _ st5)
      have hxl' : (relabel scope X.env).names.lookup x = some .local := lookup_relabel_local hxl
      have hs := step y H5 y5
      refine wpAny_mono (pg_name (X := cxC X x scope cl P2.objs.size s₂ H₂ fp) (i := 0) (pos := px) hN rfl (.inl hxl') (.inr hxl') _ s5 (v :: σ) H5 y u (fun σ6 H6 => σ6 = some y :: σ ∧ H6 = H5) I5' r5 ⟨rfl, rfl⟩) (fun _ s6 z => ?_) fun _ _ z => z
      obtain ⟨σ6, H6, I6, rfl, rfl⟩ := z
      have again : ∀ {H7 : Hp} {s7 : Shared} {zs : List V}, Inv (cxC X x scope cl P2.objs.size s₂ H₂ fp) ([] ++ pinsAt fp s5.heap) (some y :: σ) H7 s7 → Nx zs H7 →
          ∃ m, m < n ∧ ∃ i ys v H, Inv (cxC X x scope cl P2.objs.size s₂ H₂ fp) [] (v :: σ) H s7 ∧ tn i s7.heap ∧ (∀ b ∈ fp, H b = none) ∧ W i m ys H := fun {H7 s7 zs} I7 w7 => by
        obtain ⟨m', hm, w7⟩ := hNx _ _ w7
        refine ⟨m', hm, i + 1, zs, some y, H7, I7.unpinned, T.keep _ _ _ st5 fun b hb o e => (I7.pin (b, o) (List.mem_append_right _ (List.mem_append_right _ (mem_pinsAt hb e)))).1, fun b hb => ?_, w7⟩
        obtain ⟨o, e, d⟩ := T.obj _ _ st5 b hb
        exact (I7.pin (b, o) (List.mem_append_right _ (List.mem_append_right _ (mem_pinsAt hb e)))).2.1
      have elts : ∀ {H7 : Hp} {s7 : Shared}, Inv (cxC X x scope cl P2.objs.size s₂ H₂ fp) ([] ++ pinsAt fp s5.heap) (some y :: σ) H7 s7 →
          (te (some y :: σ) H7 fun y' H3 => H3 s₂.heap.objs.size = some (.lst ys) ∧ ys.length < sizeLine ∧ Nx (ys ++ [y']) (upd H3 s₂.heap.objs.size (.lst (ys ++ [y'])))) →
          wpAny (model X.prog X.w) X.A (eval elt (compEnvC scope cl P2.objs.size X.env)) (fun xv s₄ =>
              wpAny (model X.prog X.w) X.A (call (.builtin "list.append") [.ref s₂.heap.objs.size, xv]) (fun _ s₅ => ∃ m, m < n ∧ ∃ i ys v H, Inv (cxC X x scope cl P2.objs.size s₂ H₂ fp) [] (v :: σ) H s₅ ∧ tn i s₅.heap ∧ (∀ b ∈ fp, H b = none) ∧ W i m ys H) (fun _ _ => False) s₄) (fun _ _ => False) s7 := fun {H7 s7} I7 q7 => by
        refine wpAny_mono (he P2.objs.size s₂ H₂ fp _ s7 (some y :: σ) H7 _ I7 q7) (fun u8 s8 z => ?_) fun _ _ z => z
        obtain ⟨y', H8, I8, r8, hD8, hz8, w8⟩ := z
        refine wpAny_mono (mt_append (X := cxC X x scope cl P2.objs.size s₂ H₂ fp) _ s8 (some y :: σ) H8 (.ref s₂.heap.objs.size) [y'] (.ref s₂.heap.objs.size) [u8] (fun _ H9 => H9 = upd H8 s₂.heap.objs.size (.lst (ys ++ [y']))) I8 rfl (.cons r8 .nil) ⟨_, ys, y', rfl, rfl, hD8, hz8, rfl⟩) (fun _ s9 z => ?_) fun _ _ z => z
        obtain ⟨_, H9, I9, _, rfl⟩ := z
        exact again I9 w8
      cases ht P2.objs.size s₂ H₂ fp with
      | nil => exact wpAny_tests_nil (elts I6 hs)
      | one hc1 =>
        refine wpAny_tests_one (wpAny_mono (hc1 _ s6 (some y :: σ) _ _ I6 hs) (fun b s7 z => ?_) fun _ _ z => z)
        obtain ⟨H7, I7, q7⟩ := z
        cases b with
        | true => exact elts I7 q7
        | false => exact again I7 q7
  exact codeAny_compStart_list (loop _ rfl) (T.self _ 0 _ _ _ (T.keep _ _ _ st fun b _ o e => old b o e) (loop _ rfl))
theorem pe_comp (hcalm : X.calm = true) (hi : PI X (.Name x px) iter wi) (hclos : closureFor scope X.env = pure cl) (hc : CapOk X x cl (relabel scope X.env).names) (hcl : ClOk X cl)
    (ht : ∀ C s₂ H₂ fp, Ifs (PT (cxC X x scope cl C s₂ H₂ fp)) ifs tc) (he : ∀ C s₂ H₂ fp, PE (cxC X x scope cl C s₂ H₂ fp) elt te) (hN : (compN x X.N).Nodup)
    (hkind : scope.kind = .function := by rfl) (hnc : ∀ y ∈ scope.names, y.2 ≠ .cell := by decide +kernel) (hnm : ∀ y ∈ scope.names, y.2 = .local → scope.names.lookup y.1 = some .local := by decide +kernel) (hx0 : x ≠ "" := by decide +kernel) (hdot : (".0" : Str) ∉ X.N := by decide +kernel) (hxl : scope.names.lookup x = some .local := by rfl)
    (hs : ∀ x, foldedSetIterable iter X.env x = pure x := by intro _; rfl) : PE X (.ListComp elt [⟨.Name x px, iter, ifs, 0⟩] scope pos) (tComp wi tc te) := by
  intro pins s σ H Q I h
  rw [eval_ListComp]
  refine wpAny_comprehension_free (use := none) rfl hs hclos hkind hnm (wpAny_mono (hi pins s σ H _ I h) (fun xv s₁ h₁ => wpAny_mono h₁ (fun itv s₂ h₂ => ?_) fun _ _ e => e) fun _ _ e => e)
  obtain ⟨it, fp, tn, J, H2, e, I2, T, st2, f2, hq⟩ := h₂
  subst e
  refine comp_block (RR := fun acc C => compPost (model X.prog X.w) X.A X.xe none (EP X pins σ Q) acc C) hcalm hkind hnc hc hcl hx0 hdot hxl hN ht he I2 T st2 f2 hq fun D C s' H' I' q' n1 n2 n3 n4 n5 n6 => ?_
  obtain ⟨m, hm⟩ := n6
  refine ⟨m, hm, fun h' hs' => ?_⟩
  exact ⟨.ref D, H', I'.turned (t' := s'.toks) (fun b o hb e => (hs'.2 b hb).trans e) n1 n2 (.inr n3) n4 n5, rfl, q'⟩
theorem ps_setC {i : Nat} {y : Str} {py spos : Pos} (hN0 : X.N.Nodup) (hy : X.N[i]? = some y) (hyl : X.env.scope.names.lookup y = some .local) (hsw : swapsWith (.ListComp elt [⟨.Name x px, iter, ifs, 0⟩] scope pos) (some (.Name y py)) spos.line X.env = pure true) (hcalm : X.calm = true) (hi : PI X (.Name x px) iter wi) (hclos : closureFor scope X.env = pure cl) (hc : CapOk X x cl (relabel scope X.env).names) (hcl : ClOk X cl)
    (ht : ∀ C s₂ H₂ fp, Ifs (PT (cxC X x scope cl C s₂ H₂ fp)) ifs tc) (he : ∀ C s₂ H₂ fp, PE (cxC X x scope cl C s₂ H₂ fp) elt te) (hN : (compN x X.N).Nodup)
    (hkind : scope.kind = .function := by rfl) (hnc : ∀ y ∈ scope.names, y.2 ≠ .cell := by decide +kernel) (hnm : ∀ y ∈ scope.names, y.2 = .local → scope.names.lookup y.1 = some .local := by decide +kernel) (hx0 : x ≠ "" := by decide +kernel) (hdot : (".0" : Str) ∉ X.N := by decide +kernel) (hxl : scope.names.lookup x = some .local := by rfl)
    (hs : ∀ x, foldedSetIterable iter X.env x = pure x := by intro _; rfl) : PS X (.Assign [.Name y py] (.ListComp elt [⟨.Name x px, iter, ifs, 0⟩] scope pos) spos) (tAsg (tComp wi tc te) (gName i)) := by
  intro pins s σ H D I h
  rw [exec_Assign_Name_used _ _ _ _ hsw]
  refine wpAny_bind (wpAny_standAt (wpAny_bind ?_))
  show wpAny _ _ (do let _ ← comprehension (.ListComp elt [⟨.Name x px, iter, ifs, 0⟩] scope pos) scope X.env _ (newList []) false (eval iter X.env) (some (assign (.Name y py) X.env))) _ _ s
  refine wpAny_bind (wpAny_mono (wpAny_comprehension_free (use := some (assign (.Name y py) X.env)) (Q := fun _ s' => SP X pins D .next s') rfl hs hclos hkind hnm
    (wpAny_mono (hi pins s σ H _ I h) (fun xv s₁ h₁ => wpAny_mono h₁ (fun itv s₂ h₂ => ?_) fun _ _ e => e) fun _ _ e => e)) (fun _ s' hq => wpAny_pure (wpAny_pure hq)) fun _ _ e => e)
  obtain ⟨it, fp, tn, J, H2, e, I2, T, st2, f2, hq⟩ := h₂
  subst e
  refine comp_block (Q := fun x H1 => gName i x σ H1 D.nx) (RR := fun acc C => compPost (model X.prog X.w) X.A X.xe (some (assign (.Name y py) X.env)) (fun _ s' => SP X pins D .next s') acc C) hcalm hkind hnc hc hcl hx0 hdot hxl hN ht he I2 T st2 f2 hq fun D' C s' H' I' q' n1 n2 n3 n4 n5 n6 => ?_
  obtain ⟨m, hm⟩ := n6
  show wpAny _ _ (assign (.Name y py) X.env (.ref D')) _ _ _
  refine wpAny_assign_Name (store_ok2 I' hN0 hy (.inl hyl) (show RelV (.ref D') (.ref D') from rfl) (fun s7 I7 z => ?_) (.inr hyl))
  obtain ⟨a, sb, ha⟩ := z
  have hCa : C ≠ a := by
    rcases ha with rfl | ha
    · exact n2
    · exact (n4 y a ha).symm
  refine ⟨m, hm.sameBut sb hCa, fun h' hs' => ?_⟩
  exact ⟨_, H', I7.turned (t' := s7.toks) (fun b o hb e => (hs'.2 b hb).trans e) n1 n2 (.inr n3) n4 n5, q'⟩
end
/-! the forms one uses: over a list that stays; over a range. Pv: the new list's place, the turn, its items so far, the heap -/
abbrev tYes : TT := fun _ H Q => Q true H
theorem comp_list {K : PySem.W.Frag} {a : Addr} {xs : List V} {tc : TT} {te : TE} {σ : St} {H1 : Hp} {Q : Addr → Hp → Prop} (Pv : Addr → Nat → List V → Hp → Prop) (h0 : ∀ D, H1 D = none → Pv D 0 [] (upd H1 D (.lst []))) (hl : ∀ D i ys H, i ≤ xs.length → Pv D i ys H → SqL K H a xs ∧ H D = some (.lst ys))
    (hs : ∀ D i x ys H, xs[i]? = some x → Pv D i ys H → tc (some x :: σ) H fun b H2 => if b = true then te (some x :: σ) H2 fun y H3 => H3 D = some (.lst ys) ∧ ys.length < sizeLine ∧ Pv D (i + 1) (ys ++ [y]) (upd H3 D (.lst (ys ++ [y]))) else Pv D (i + 1) ys H2)
    (hd : ∀ D ys H, Pv D xs.length ys H → Q D H) :
    ∀ D, H1 D = none → ∃ W : Nat → Nat → List V → Hp → Prop, (∃ m, W 0 m [] (upd H1 D (.lst []))) ∧ ∀ i m ys H, W i m ys H → H D = some (.lst ys) ∧
      (((Itl K a).stop i H ∧ Q D H) ∨ ((Itl K a).go i H ∧ ∃ N : List V → Hp → Prop, (∀ zs H', N zs H' → ∃ m', m' < m ∧ W (i + 1) m' zs H') ∧ ∀ x H', (Itl K a).yld i H x H' → tc (some x :: σ) H' fun b H2 => if b = true then te (some x :: σ) H2 fun y H3 => H3 D = some (.lst ys) ∧ ys.length < sizeLine ∧ N (ys ++ [y]) (upd H3 D (.lst (ys ++ [y])))
        else N ys H2)) := fun D hD => by
  refine ⟨fun i m ys H => m = xs.length - i ∧ i ≤ xs.length ∧ Pv D i ys H, ⟨xs.length, by simp, Nat.zero_le _, h0 D hD⟩, ?_⟩
  rintro i m ys H ⟨rfl, hi, p⟩
  obtain ⟨q, qd⟩ := hl D i ys H hi p
  refine ⟨qd, ?_⟩
  by_cases hlt : i < xs.length
  · refine .inr ⟨⟨xs, xs[i], q, by simp [hlt]⟩, Pv D (i + 1), fun zs H' p' => ⟨xs.length - (i + 1), by omega, rfl, hlt, p'⟩, fun x H' y => ?_⟩
    obtain ⟨e, y⟩ := y
    subst e
    exact hs D i x ys _ (y xs q) p
  · have e : i = xs.length := by omega
    subst e
    exact .inl ⟨⟨xs, q, Nat.le_refl _⟩, hd D ys H p⟩
theorem comp_range {lo : Int} {n : Nat} {tc : TT} {te : TE} {σ : St} {H1 : Hp} {Q : Addr → Hp → Prop} (Pv : Addr → Nat → List V → Hp → Prop) (h0 : ∀ D, H1 D = none → Pv D 0 [] (upd H1 D (.lst []))) (hl : ∀ D i ys H, i ≤ n → Pv D i ys H → H D = some (.lst ys))
    (hs : ∀ D i ys H, i < n → Pv D i ys H → tc (some (.int (lo + i)) :: σ) H fun b H2 => if b = true then te (some (.int (lo + i)) :: σ) H2 fun y H3 => H3 D = some (.lst ys) ∧ ys.length < sizeLine ∧ Pv D (i + 1) (ys ++ [y]) (upd H3 D (.lst (ys ++ [y]))) else Pv D (i + 1) ys H2)
    (hd : ∀ D ys H, Pv D n ys H → Q D H) :
    ∀ D, H1 D = none → ∃ W : Nat → Nat → List V → Hp → Prop, (∃ m, W 0 m [] (upd H1 D (.lst []))) ∧ ∀ i m ys H, W i m ys H → H D = some (.lst ys) ∧
      (((Itr lo n).stop i H ∧ Q D H) ∨ ((Itr lo n).go i H ∧ ∃ N : List V → Hp → Prop, (∀ zs H', N zs H' → ∃ m', m' < m ∧ W (i + 1) m' zs H') ∧ ∀ x H', (Itr lo n).yld i H x H' → tc (some x :: σ) H' fun b H2 => if b = true then te (some x :: σ) H2 fun y H3 => H3 D = some (.lst ys) ∧ ys.length < sizeLine ∧ N (ys ++ [y]) (upd H3 D (.lst (ys ++ [y])))
        else N ys H2)) := fun D hD => by
  refine ⟨fun i m ys H => m = n - i ∧ i ≤ n ∧ Pv D i ys H, ⟨n, by simp, Nat.zero_le _, h0 D hD⟩, ?_⟩
  rintro i m ys H ⟨rfl, hi, p⟩
  refine ⟨hl D i ys H hi p, ?_⟩
  by_cases hlt : i < n
  · refine .inr ⟨hlt, Pv D (i + 1), fun zs H' p' => ⟨n - (i + 1), by omega, rfl, hlt, p'⟩, fun x H' y => ?_⟩
    obtain ⟨e, y⟩ := y
    subst e y
    exact hs D i ys _ hlt p
  · have e : i = n := by omega
    subst e
    exact .inl ⟨Nat.le_refl _, hd D ys H p⟩
end L2

end
section
set_option Elab.async false
set_option linter.all false
set_option maxRecDepth 100000
set_option maxHeartbeats 4000000
namespace L2
open PySem PySem.Spec PyProof.Rows
theorem iteTS {c : Bool} {A B : Prop} (hc : c = true) (h : A) : if c = true then A else B := by
  rw [if_pos hc]
  exact h
theorem iteFS {c : Bool} {A B : Prop} (hc : c = false) (h : B) : if c = true then A else B := by
  rw [hc]
  exact iteF h
theorem call_allB {X : Cx} (hc : X.calm = true) : CallR X (.builtin "all") (fun xs H Q => ∃ (l : Addr) (bs : List Bool), xs = [.ref l] ∧ H l = some (.lst (bs.map V.bl)) ∧ Q (.bl (bs.all id)) H) := by
  intro pins s σ H xs us Q I r h
  obtain ⟨l, bs, rfl, hl, q⟩ := h
  obtain ⟨u, rfl, ru⟩ := r.one
  obtain rfl : u = Value.ref l := ru
  obtain ⟨its, rv, p, hz⟩ := I.list (SqL.of hl)
  have hlt : l < s.heap.objs.size := by obtain ⟨_, _, e, _⟩ := p; exact Heap.lt_size e
  refine call_all_walk (wpAny_pyIter_list p.isList ?_)
  refine ⟨s.heap.objs.size, [s.heap.objs.size, l], [s.heap.objs.size], its.toArray.size, _, _, fun i => (bs[i]?).getD true, rfl, Walks.list (A := X.A.in1) (I.ok.hd hc) _ l (Nat.ne_of_lt hlt) its.toArray,
    ⟨⟨_, Heap.get?_push_size _ rfl, rfl, rfl⟩, p.isList.push _⟩, fun i v s' Q' E' hP hQ => ?_, fun h' tk hk => ?_⟩
  · have hi : its[i]? = some v := by simpa using hP
    have hlen := rv.length
    have hib : i < its.length := (List.getElem?_eq_some_iff.mp hi).1
    obtain ⟨u, e1, e2⟩ := rv.get (i := i) (x := V.bl ((bs[i]?).getD true)) (by
      rw [List.getElem?_map, List.getElem?_eq_getElem (by rw [List.length_map] at hlen; omega)]
      rfl)
    rw [hi] at e1
    cases e1
    cases e2
    exact wpAny_truthy_bool hQ
  · have e : ((List.range its.toArray.size).all fun i => (bs[i]?).getD true) = bs.all id := by
      have hlen := rv.length
      rw [List.length_map] at hlen
      rw [List.size_toArray, ← hlen]
      exact PyProof.Rows.LSm.range_all bs
    rw [e]
    exact ⟨.bl _, H, I.kept (t' := tk) fun b o z => hk b o (by have := Heap.lt_size z; intro q; rw [List.mem_singleton] at q; rw [q] at this; exact Nat.lt_irrefl _ this) (Heap.get?_push_of_some _ z), rfl, q⟩
theorem isLst_of {H : Hp} {p : Addr} {xs : List V} (h : H p = some (.lst xs)) : isLst H (.ref p) = true := by
  unfold isLst
  dsimp only
  rw [h]
/-! a list of pages: each a list of whole numbers, or None -/
abbrev Pgs := List (Option (Addr × List Int))
def pgV : Option (Addr × List Int) → V
  | none => .non
  | some (p, _) => .ref p
def cont (ps : Pgs) : List (Option (List Int)) := ps.map (Option.map (·.2))
structure Pg (H : Hp) (a : Addr) (ps : Pgs) : Prop where
  top : H a = some (.lst (ps.map pgV))
  each : ∀ (i : Nat) (p : Addr) (ws : List Int), ps[i]? = some (some (p, ws)) → H p = some (.lst (ws.map V.int)) ∧ p ≠ a
  nd : ∀ (i j : Nat) (p : Addr) (ws ws' : List Int), ps[i]? = some (some (p, ws)) → ps[j]? = some (some (p, ws')) → i = j
def At (a : Addr) (ps : Pgs) (b : Addr) : Prop := b = a ∨ ∃ (i : Nat) (ws : List Int), ps[i]? = some (some (b, ws))
theorem Pg.same {H H' : Hp} {a : Addr} {ps : Pgs} (g : Pg H a ps) (s : Same H H') : Pg H' a ps := ⟨s _ _ g.top, fun i p ws e => ⟨s _ _ (g.each i p ws e).1, (g.each i p ws e).2⟩, g.nd⟩
theorem Pg.keep {H H' : Hp} {a : Addr} {ps : Pgs} (g : Pg H a ps) (s : ∀ b, At a ps b → H' b = H b) : Pg H' a ps :=
  ⟨(s a (.inl rfl)).trans g.top, fun i p ws e => ⟨(s p (.inr ⟨i, ws, e⟩)).trans (g.each i p ws e).1, (g.each i p ws e).2⟩, g.nd⟩
theorem Pg.at {H : Hp} {a b : Addr} {ps : Pgs} (g : Pg H a ps) (h : At a ps b) : ∃ o, H b = some o := by
  rcases h with rfl | ⟨i, ws, e⟩
  · exact ⟨_, g.top⟩
  · exact ⟨_, (g.each i b ws e).1⟩
theorem atI_pg {ps : Pgs} {i : Nat} (h : i < ps.length) : ∃ o, ps[i]? = some o ∧ atI (ps.map pgV) (i : Int) = some (pgV o) := by
  refine ⟨ps[i], List.getElem?_eq_getElem h, atI_nat ?_⟩
  rw [List.getElem?_map, List.getElem?_eq_getElem h]
  rfl
theorem atI_word {ws : List Int} {j : Nat} (h : j < ws.length) : atI (ws.map V.int) (j : Int) = some (.int (ws.getD j 0)) := by
  refine atI_nat ?_
  rw [List.getElem?_map, List.getElem?_eq_getElem h, List.getD_eq_getElem?_getD, List.getElem?_eq_getElem h]
  rfl
theorem ixN_nat {n j : Nat} (h : j < n) : ixN n (j : Int) = some j := by
  unfold ixN
  rw [if_pos (Int.natCast_nonneg j), if_pos (by omega), Int.toNat_natCast]
def setW (ps : Pgs) (i j : Nat) (w : Int) : Pgs := ps.set i ((ps[i]?).getD none |>.map fun q => (q.1, q.2.set j w))
theorem setW_at {ps : Pgs} {i j : Nat} {w : Int} {p : Addr} {ws : List Int} (h : ps[i]? = some (some (p, ws))) : setW ps i j w = ps.set i (some (p, ws.set j w)) := by
  unfold setW
  rw [h]
  rfl
theorem setW_len (ps : Pgs) (i j : Nat) (w : Int) : (setW ps i j w).length = ps.length := List.length_set ..
theorem Pg.setW {H : Hp} {a : Addr} {ps : Pgs} {i j : Nat} {w : Int} {p : Addr} {ws : List Int} (g : Pg H a ps) (h : ps[i]? = some (some (p, ws))) : Pg (upd H p (.lst ((ws.map V.int).set j (.int w)))) a (setW ps i j w) := by
  have hi : i < ps.length := (List.getElem?_eq_some_iff.mp h).1
  have hp := g.each i p ws h
  rw [setW_at h]
  refine ⟨?_, fun k q vs e => ?_, fun k l q vs vs' e1 e2 => ?_⟩
  · rw [upd_ne (Ne.symm hp.2), g.top, List.map_set]
    congr 2
    refine (List.ext_getElem? fun k => ?_).symm
    by_cases hk : i = k
    · subst hk
      rw [List.getElem?_set_self (by rw [List.length_map]; exact hi), List.getElem?_map, h]
      rfl
    · rw [List.getElem?_set_ne hk]
  · by_cases hk : i = k
    · subst hk
      rw [List.getElem?_set_self hi] at e
      cases e
      refine ⟨?_, hp.2⟩
      rw [upd_same, List.map_set]
    · rw [List.getElem?_set_ne hk] at e
      have hq := g.each k q vs e
      refine ⟨?_, hq.2⟩
      rw [upd_ne (fun z => hk (by subst z; exact g.nd i k _ _ _ h e))]
      exact hq.1
  · have back : ∀ (k : Nat) (vs : List Int), (ps.set i (some (p, ws.set j w)))[k]? = some (some (q, vs)) → ∃ vs', ps[k]? = some (some (q, vs')) := fun k vs e => by
      by_cases hk : i = k
      · subst hk
        rw [List.getElem?_set_self hi] at e
        cases e
        exact ⟨_, h⟩
      · rw [List.getElem?_set_ne hk] at e
        exact ⟨_, e⟩
    obtain ⟨_, f1⟩ := back k vs e1
    obtain ⟨_, f2⟩ := back l vs' e2
    exact g.nd k l q _ _ f1 f2
theorem same_new {H : Hp} {p : Addr} {o : HO} (h : H p = none) : Same H (upd H p o) := fun b u e => by
  rw [upd_ne (ne_of_none e h)]
  exact e
theorem Same.set {H H' : Hp} {t : Addr} {o : HO} (s : Same H H') (h : H t = none) : Same H (upd H' t o) := fun b u e => by
  rw [upd_ne (ne_of_none e h)]
  exact s b u e
def Good (ps : Pgs) : Prop := ∀ (i : Nat) (p : Addr) (ws : List Int), ps[i]? = some (some (p, ws)) → ws.length = 8 ∧ ∀ w ∈ ws, 0 ≤ w ∧ w < 281474976710656
def tCopy (K : PySem.W.Frag) : TE := tIf (tTest (tOp (fun x y H Q => y = .non ∧ Q (.bl (decide (x = .non))) H) (tVar 0) (tC .non))) (tC .non) (tCB (fun xs H Q => ∃ p ys, xs = [.ref p] ∧ (SqL K H p ys ∨ SqT K H p ys) ∧ ∀ l, H l = none → Q (.ref l) (upd H l (.lst ys))) (tCons (tVar 0) tNil))
end L2

end
section
set_option Elab.async false
set_option linter.all false
set_option maxRecDepth 100000
set_option maxHeartbeats 4000000
namespace L2
open PySem PySem.Spec PyProof.Rows
/-! for i, x in enumerate(xs) -/
def Ite (K : PySem.W.Frag) (a : Addr) : It :=
  ⟨fun i H => ∃ xs x, SqL K H a xs ∧ xs[i]? = some x, fun i H x H' => ∃ t v, H t = none ∧ x = .ref t ∧ (∀ xs, SqL K H a xs → xs[i]? = some v) ∧ H' = upd H t (.tup [.int (i : Int), v]), fun i H => ∃ xs, SqL K H a xs ∧ xs.length ≤ i⟩
def iEnum (K : PySem.W.Frag) (ta : TA) : TI := fun σ H R => ta σ H fun vs H1 => ∃ a xs, vs = [.ref a] ∧ SqL K H1 a xs ∧ R (Ite K a) H1
end L2

end
section
set_option Elab.async false
set_option linter.all false
set_option maxRecDepth 100000
set_option maxHeartbeats 4000000
namespace L2
open PySem PySem.Spec PyProof.Rows
/-! a page more; the same of two lists of pages -/
theorem app_at {ps : Pgs} {o : Option (Addr × List Int)} {p : Addr} {vs : List Int} {k : Nat} (z : (ps ++ [o])[k]? = some (some (p, vs))) : (k < ps.length ∧ ps[k]? = some (some (p, vs))) ∨ (k = ps.length ∧ o = some (p, vs)) := by
  rcases Nat.lt_or_ge k ps.length with hk | hk
  · rw [List.getElem?_append_left hk] at z
    exact .inl ⟨hk, z⟩
  · rw [List.getElem?_append_right hk] at z
    have hk' : k - ps.length = 0 := by
      rcases Nat.eq_zero_or_pos (k - ps.length) with h | h
      · exact h
      · rw [List.getElem?_eq_none (by simp; omega)] at z
        cases z
    rw [hk'] at z
    exact .inr ⟨by omega, Option.some.inj z⟩
theorem Pg.app {H H2 : Hp} {D : Addr} {qs : Pgs} {o : Option (Addr × List Int)} (g : Pg H D qs) (s2 : Same H H2) (hn : ∀ (p : Addr) (ws : List Int), o = some (p, ws) → H2 p = some (.lst (ws.map V.int)) ∧ H p = none) :
    Pg (upd H2 D (.lst (qs.map pgV ++ [pgV o]))) D (qs ++ [o]) := by
  refine ⟨by rw [upd_same, List.map_append]; rfl, fun k p ws z => ?_, fun k l p ws ws' z1 z2 => ?_⟩
  · rcases app_at z with ⟨_, z⟩ | ⟨_, z⟩
    · have := g.each k p ws z
      refine ⟨?_, this.2⟩
      rw [upd_ne this.2]
      exact s2 _ _ this.1
    · obtain ⟨z1, z2⟩ := hn p ws z
      have ne : p ≠ D := fun q => by rw [q, g.top] at z2; cases z2
      refine ⟨?_, ne⟩
      rw [upd_ne ne]
      exact z1
  · have old : ∀ (k : Nat) (vs vs' : List Int), qs[k]? = some (some (p, vs)) → o = some (p, vs') → False := fun k vs vs' z1 z2 => by
      have h1 := (g.each k p vs z1).1
      rw [(hn p vs' z2).2] at h1
      cases h1
    rcases app_at z1 with ⟨_, a1⟩ | ⟨rfl, a1⟩ <;> rcases app_at z2 with ⟨_, a2⟩ | ⟨rfl, a2⟩
    · exact g.nd k l p ws ws' a1 a2
    · exact (old _ _ _ a1 a2).elim
    · exact (old _ _ _ a2 a1).elim
    · rfl
theorem At.app {D b : Addr} {qs : Pgs} {o : Option (Addr × List Int)} (h : At D (qs ++ [o]) b) : At D qs b ∨ ∃ ws, o = some (b, ws) := by
  rcases h with rfl | ⟨k, ws, z⟩
  · exact .inl (.inl rfl)
  · rcases app_at z with ⟨_, z⟩ | ⟨_, z⟩
    · exact .inl (.inr ⟨k, ws, z⟩)
    · exact .inr ⟨ws, z⟩
theorem Good.app {qs : Pgs} {o : Option (Addr × List Int)} (g : Good qs) (h : ∀ (p : Addr) (ws : List Int), o = some (p, ws) → ws.length = 8 ∧ ∀ w ∈ ws, 0 ≤ w ∧ w < 281474976710656) : Good (qs ++ [o]) := fun k p ws z => by
  rcases app_at z with ⟨_, z⟩ | ⟨_, z⟩
  · exact g k p ws z
  · exact h p ws z
theorem datsI {K : PySem.W.Frag} {H : Hp} : ∀ ws : List Int, DatsR K H (ws.map V.int) (ws.map PyData.int)
  | [] => .nil
  | b :: bs => .cons (.int b) (datsI bs)
theorem layI : ∀ ws : List Int, PyData.canLayAll0 (ws.map PyData.int) = true ∧ PyData.depthAll (ws.map PyData.int) = 0
  | [] => ⟨rfl, rfl⟩
  | b :: bs => by
    obtain ⟨h1, h2⟩ := layI bs
    constructor
    · simp only [List.map_cons, PyData.canLayAll0, PyData.canLay0, h1, Bool.and_self]
    · simp only [List.map_cons, PyData.depthAll, PyData.depth, h2, Nat.max_self]
theorem shapedI (ws : List Int) : SeqAt.shaped (.list (ws.map PyData.int)) = true := by
  obtain ⟨h1, h2⟩ := layI ws
  simp only [SeqAt.shaped, PyData.canLay0, PyData.depth, h1, h2, Bool.true_and]
  decide
theorem datsB {K : PySem.W.Frag} {H : Hp} : ∀ bs : List Bool, DatsR K H (bs.map V.bl) (bs.map PyData.bool)
  | [] => .nil
  | b :: bs => .cons (.bl b) (datsB bs)
theorem layB : ∀ bs : List Bool, PyData.canLayAll0 (bs.map PyData.bool) = true ∧ PyData.depthAll (bs.map PyData.bool) = 0
  | [] => ⟨rfl, rfl⟩
  | b :: bs => by
    obtain ⟨h1, h2⟩ := layB bs
    constructor
    · simp only [List.map_cons, PyData.canLayAll0, PyData.canLay0, h1, Bool.and_self]
    · simp only [List.map_cons, PyData.depthAll, PyData.depth, h2, Nat.max_self]
theorem shapedB (bs : List Bool) : SeqAt.shaped (.list (bs.map PyData.bool)) = true := by
  obtain ⟨h1, h2⟩ := layB bs
  simp only [SeqAt.shaped, PyData.canLay0, PyData.depth, h1, h2, Bool.true_and]
  decide
theorem eqvB : ∀ bs : List Bool, PyData.eqvAll (bs.map PyData.bool) (bs.map PyData.bool) = true
  | [] => rfl
  | b :: bs => by simp only [List.map_cons, PyData.eqvAll, PyData.eqv, eqvB bs, beq_self_eq_true, Bool.and_self]
end L2

end
section
set_option Elab.async false
set_option linter.all false
set_option maxRecDepth 100000
set_option maxHeartbeats 4000000
namespace L2
open PySem PySem.Spec PyProof.Rows
theorem ints_are : ∀ {ns : List Int} {us : List Value}, Vals (ns.map V.int) us → PyProof.Rows.IntsAre us ns
  | [], _, h => by cases h; exact .nil
  | n :: r, _, h => by
    cases h with
    | cons q t =>
      obtain ⟨tk, rfl⟩ := q
      exact .cons n tk (ints_are t)
theorem ints_kf : ∀ {ns : List Int} {us : List Value}, Vals (ns.map V.int) us → PySem.W.kf_ints us = true
  | [], _, h => by cases h; rfl
  | n :: r, _, h => by
    cases h with
    | cons q t =>
      obtain ⟨tk, rfl⟩ := q
      have q2 := ints_kf (ns := r) t
      exact q2
section
variable {X : Cx}
def rCount : V → List V → Hp → VK → Prop := fun x vs H Q => ∃ (l : Addr) (k : Int) (ns : List Int), x = .ref l ∧ vs = [.int k] ∧ H l = some (.lst (ns.map V.int)) ∧ Q (.int (ns.count k : Nat)) H
theorem mt_count : MtM X "list.count" rCount := by
  intro pins s σ H x vs v us Q I rx rv h
  obtain ⟨l, k, ns, rfl, rfl, hH, q⟩ := h
  cases rx
  obtain ⟨u, rfl, ru⟩ := rv.one
  obtain ⟨t, rfl⟩ := ru
  obtain ⟨z, its, n, r, hl, e⟩ := I.lstM hH
  exact PyProof.Rows.count_list_ints (ns := ns) (vs := its) (PySem.IsL.isList (n := n) e) (ints_are r) ⟨.int _, H, I.tok _, ⟨_, rfl⟩, q⟩
def rIndex : V → List V → Hp → VK → Prop := fun x vs H Q => ∃ (l : Addr) (k : Int) (ns : List Int) (j : Nat), x = .ref l ∧ vs = [.int k] ∧ H l = some (.lst (ns.map V.int)) ∧ ns[j]? = some k ∧ (∀ i, i < j → ns[i]? ≠ some k) ∧ Q (.int (j : Nat)) H
theorem mt_index : MtM X "list.index" rIndex := by
  intro pins s σ H x vs v us Q I rx rv h
  obtain ⟨l, k, ns, j, rfl, rfl, hH, hj, hno, q⟩ := h
  cases rx
  obtain ⟨u, rfl, ru⟩ := rv.one
  obtain ⟨t, rfl⟩ := ru
  obtain ⟨z, its, n, r, hl, e⟩ := I.lstM hH
  have ia : ∀ (i : Nat) (m : Int), ns[i]? = some m → ∃ tk, its[i]? = some (.int m tk) := fun i m hi => by
    obtain ⟨u, e1, e2⟩ := r.get (i := i) (x := .int m) (by rw [List.getElem?_map, hi]; rfl)
    obtain ⟨tk, rfl⟩ := e2
    exact ⟨tk, e1⟩
  have hlen : its.length = ns.length := by rw [← hl, List.length_map]
  have hjl : j < its.length := by
    rw [hlen]
    exact (List.getElem?_eq_some_iff.mp hj).1
  rw [sizeLine_eq] at z
  have jsm : (j : Int) < 2 ^ 63 - 1 := by omega
  have hit : PyProof.Rows.isInt k (its.toArray[j]'(by simpa using hjl)) = true := by
    obtain ⟨tk, e1⟩ := ia j k hj
    have e2 : its[j] = .int k tk := by
      have := List.getElem?_eq_some_iff.mp e1
      exact this.2
    rw [List.getElem_toArray, e2]
    simp [PyProof.Rows.isInt]
  refine call_meets PySem.F.slot_list_index ⟨_, e, rfl⟩ PySem.F.entry_list_index (PySem.F.args_list_index_2 _ _)
    (MeetsSeq.list_index l its.toArray n (.int k t) (PyProof.Rows.isInt k) (fun y hy => PySem.W.kf_eq (ints_kf r) y (by simpa using hy)) j (by simpa using hjl) jsm hit (fun i hi hlt => ?_)) ⟨e, ⟨.int _, H, I.tok _, ⟨_, rfl⟩, q⟩⟩
  have hi' : i < its.length := by simpa using hi
  have hin : i < ns.length := by omega
  obtain ⟨tk, e1⟩ := ia i ns[i] (List.getElem?_eq_getElem hin)
  have e2 : its[i] = .int ns[i] tk := (List.getElem?_eq_some_iff.mp e1).2
  rw [List.getElem_toArray, e2]
  have ne : ¬ ns[i] = k := fun z => hno i hlt (by rw [List.getElem?_eq_getElem hin, z])
  simp [PyProof.Rows.isInt, ne]
theorem get_list : PGet X (rIxL X.K) := by
  intro pins s σ H o i ov iv Q I rx ry h
  obtain ⟨p, xs, k, z, rfl, rfl, hq, he, q⟩ := h
  cases rx
  obtain ⟨t, rfl⟩ := ry
  obtain ⟨its, r, pl, hz⟩ := I.list hq
  obtain ⟨j, h1, h2, h3, h4, h5⟩ := atI_get he
  obtain ⟨w, ew, rw'⟩ := r.get h2
  have hl := r.length
  have hn := line63
  have fin : EP X pins σ Q w s := ⟨z, H, I, rw', q⟩
  by_cases h0 : 0 ≤ k
  · have hj : k.toNat = j := by
      rw [seqIndex_of h0 h5] at h1
      exact Option.some.inj h1
    exact wpAny_getItem_list pl.isList h0 (by omega) (by rw [hj]; simpa using ew) fin
  · have hj : (k + (its.toArray.size : Int)).toNat = j := by
      rw [seqIndex_neg (by omega) h4] at h1
      rw [List.size_toArray, ← hl]
      exact Option.some.inj h1
    exact wpAny_getItem_list_neg pl.isList (by omega) (by rw [List.size_toArray] <;> omega) (by omega) (by rw [hj]; simpa using ew) fin
end
end L2

end
section
set_option Elab.async false
set_option linter.all false
set_option maxRecDepth 100000
set_option maxHeartbeats 4000000
namespace L2
open PySem
theorem set_at {ps : Pgs} {o : Option (Addr × List Int)} {p : Addr} {vs : List Int} {i k : Nat} (z : (ps.set i o)[k]? = some (some (p, vs))) : (k ≠ i ∧ ps[k]? = some (some (p, vs))) ∨ (k = i ∧ o = some (p, vs)) := by
  by_cases hk : i = k
  · subst hk
    refine .inr ⟨rfl, ?_⟩
    have hi : i < ps.length := by
      have := (List.getElem?_eq_some_iff.mp z).1
      rwa [List.length_set] at this
    rw [List.getElem?_set_self hi] at z
    exact Option.some.inj z
  · rw [List.getElem?_set_ne hk] at z
    exact .inl ⟨fun q => hk q.symm, z⟩
theorem Pg.put {H H2 : Hp} {h : Addr} {ps : Pgs} {o : Option (Addr × List Int)} {i : Nat} (g : Pg H h ps) (s2 : Same H H2) (hn : ∀ (p : Addr) (ws : List Int), o = some (p, ws) → H2 p = some (.lst (ws.map V.int)) ∧ H p = none) :
    Pg (upd H2 h (.lst ((ps.map pgV).set i (pgV o)))) h (ps.set i o) := by
  refine ⟨by rw [upd_same, List.map_set], fun k p ws z => ?_, fun k l p ws ws' z1 z2 => ?_⟩
  · rcases set_at z with ⟨_, z⟩ | ⟨_, z⟩
    · have := g.each k p ws z
      refine ⟨?_, this.2⟩
      rw [upd_ne this.2]
      exact s2 _ _ this.1
    · obtain ⟨z1, z2⟩ := hn p ws z
      have ne : p ≠ h := fun q => by rw [q, g.top] at z2; cases z2
      refine ⟨?_, ne⟩
      rw [upd_ne ne]
      exact z1
  · have old : ∀ (k : Nat) (vs vs' : List Int), ps[k]? = some (some (p, vs)) → o = some (p, vs') → False := fun k vs vs' z1 z2 => by
      have h1 := (g.each k p vs z1).1
      rw [(hn p vs' z2).2] at h1
      cases h1
    rcases set_at z1 with ⟨_, a1⟩ | ⟨rfl, a1⟩ <;> rcases set_at z2 with ⟨_, a2⟩ | ⟨rfl, a2⟩
    · exact g.nd k l p ws ws' a1 a2
    · exact (old _ _ _ a1 a2).elim
    · exact (old _ _ _ a2 a1).elim
    · rfl
theorem At.put {h b : Addr} {ps : Pgs} {o : Option (Addr × List Int)} {i : Nat} (x : At h (ps.set i o) b) : At h ps b ∨ ∃ ws, o = some (b, ws) := by
  rcases x with rfl | ⟨k, ws, z⟩
  · exact .inl (.inl rfl)
  · rcases set_at z with ⟨_, z⟩ | ⟨_, z⟩
    · exact .inl (.inr ⟨k, ws, z⟩)
    · exact .inr ⟨ws, z⟩
theorem Good.put {ps : Pgs} {o : Option (Addr × List Int)} {i : Nat} (g : Good ps) (h : ∀ (p : Addr) (ws : List Int), o = some (p, ws) → ws.length = 8 ∧ ∀ w ∈ ws, 0 ≤ w ∧ w < 281474976710656) : Good (ps.set i o) := fun k p ws z => by
  rcases set_at z with ⟨_, z⟩ | ⟨_, z⟩
  · exact g k p ws z
  · exact h p ws z
theorem cut_ints (ns : List Int) (lo hi : Option Int) : ∃ ms : List Int, cutV (ns.map V.int) lo hi = ms.map V.int ∧ ms.length ≤ ns.length := by
  refine ⟨(ns.drop (HT.sIx (ns.map V.int).length 0 lo)).take (HT.sIx (ns.map V.int).length (ns.map V.int).length hi - HT.sIx (ns.map V.int).length 0 lo), ?_, ?_⟩
  · unfold cutV
    rw [List.map_take, List.map_drop]
  · rw [List.length_take, List.length_drop]
    omega
theorem passX0 {P : Program} {w : World} {X : Cx} : Passes (CXr P w) X E0 := by
  rintro _ _ _ _ _ _ _ ⟨_, _, _, _, _, _, _, _, _, _, _, _, _, q⟩
  exact q.elim
theorem FnOkQ.or {P : Program} {w : World} {K : PySem.W.Frag} {mg : Str → Option Value} {base : Heap} {k : Nat} {f : Addr} {fd : FuncData} {ps : List Str} {sp sq : Sp} (a : FnOkQ P w K mg base k f fd ps sp) (b : FnOkQ P w K mg base k f fd ps sq) : FnOkQ P w K mg base k f fd ps (fun vs H Q E => sp vs H Q E ∨ sq vs H Q E) :=
  ⟨fun vs H Q h => h.elim (a.len vs H Q) (b.len vs H Q), fun A o s H as us vs Q hr e0 hb r h => h.elim (a.run A o s H as us vs Q hr e0 hb r) (b.run A o s H as us vs Q hr e0 hb r)⟩
theorem repI (n : Nat) (x : V) : (List.replicate n [x]).flatten = List.replicate n x := by
  induction n with
  | zero => rfl
  | succ n ih => rw [List.replicate_succ, List.flatten_cons, ih, List.replicate_succ]; rfl
theorem new_rep {σ : St} {H : Hp} {Q : VK} {v : V} {n : Nat} (hn : n ≤ 1000) (q : ∀ (p : Addr) (H' : Hp), Same H H' → H' p = some (.lst (List.replicate n v)) → Q (.ref p) H') : tOp rRep (tLst (tCons (tC v) tNil)) (tC (.int (n : Int))) σ H Q := by
  refine ⟨by show 1 ≤ sizeLine; decide, fun p1 hp1 => ?_⟩
  refine ⟨p1, n, _, rfl, rfl, upd_same, by omega, by omega, ?_, fun p2 hp2 => ?_⟩
  · rw [Int.toNat_natCast]
    exact Nat.le_trans (by show 1 * n ≤ 1000; omega) (by decide)
  · refine q p2 _ ((same_new hp1).trans (same_new hp2)) ?_
    rw [upd_same, repI, Int.toNat_natCast]
theorem Good.setW {ps : Pgs} {i j : Nat} {w : Int} {p : Addr} {ws : List Int} (g : Good ps) (h : ps[i]? = some (some (p, ws))) (w0 : 0 ≤ w) (w1 : w < 281474976710656) : Good (setW ps i j w) := fun k q vs e => by
  rw [setW_at h] at e
  have hi : i < ps.length := (List.getElem?_eq_some_iff.mp h).1
  by_cases hk : i = k
  · subst hk
    rw [List.getElem?_set_self hi] at e
    cases e
    obtain ⟨g1, g2⟩ := g i p ws h
    refine ⟨by rw [List.length_set]; exact g1, fun v hv => ?_⟩
    rcases List.mem_or_eq_of_mem_set hv with z | z
    · exact g2 v z
    · rw [z]
      exact ⟨w0, w1⟩
  · rw [List.getElem?_set_ne hk] at e
    exact g k q vs e

def below : V → Int → Bool
  | .int i, b => decide (0 ≤ i) && decide (i < b)
  | _, _ => false
theorem below_int {x : V} {b : Int} (h : below x b = true) : ∃ i, x = .int i ∧ 0 ≤ i ∧ i < b := by
  cases x with
  | int i =>
    simp only [below, Bool.and_eq_true, decide_eq_true_eq] at h
    exact ⟨i, rfl, h.1, h.2⟩
  | _ => cases h
theorem below_of {i b : Int} (h0 : 0 ≤ i) (h1 : i < b) : below (.int i) b = true := by simp [below, h0, h1]
theorem below_far {i b : Int} (h : b ≤ i) : below (.int i) b = false := by
  simp only [below, decide_eq_false (Int.not_lt.mpr h), Bool.and_false]
theorem below_neg {i b : Int} (h : i < 0) : below (.int i) b = false := by
  simp only [below, decide_eq_false (Int.not_le.mpr h), Bool.false_and]
def goodN : V → Bool
  | .int i => decide (1 ≤ i) && decide (i ≤ 200)
  | _ => false
def own (ns : List Int) : V → Int
  | .int i => if 0 ≤ i ∧ i < ns.length then ns.getD i.toNat 0 else 0
  | _ => 0
theorem own_below {ns : List Int} {x : V} (h : below x ns.length = false) : own ns x = 0 := by
  cases x with
  | int i =>
    show (if 0 ≤ i ∧ i < ns.length then ns.getD i.toNat 0 else 0) = _
    rw [if_neg]
    rintro ⟨h0, h1⟩
    rw [below_of h0 h1] at h
    cases h
  | _ => rfl
theorem own_nat {ns : List Int} {j : Nat} (h : j < ns.length) : own ns (.int j) = ns.getD j 0 := by
  show (if 0 ≤ (j : Int) ∧ (j : Int) < ns.length then ns.getD (j : Int).toNat 0 else 0) = _
  rw [if_pos ⟨by omega, by omega⟩, Int.toNat_natCast]
theorem getD_mem {ns : List Int} {j : Nat} (h : j < ns.length) : ns.getD j 0 ∈ ns := by
  rw [List.getD_eq_getElem?_getD, List.getElem?_eq_getElem h]
  exact List.getElem_mem h
theorem own_nn {ns : List Int} (h : ∀ i ∈ ns, 0 ≤ i) (x : V) : 0 ≤ own ns x := by
  cases x with
  | int i =>
    show 0 ≤ (if 0 ≤ i ∧ i < ns.length then ns.getD i.toNat 0 else 0)
    split
    · rename_i z
      exact h _ (getD_mem (by omega))
    · exact Int.le_refl 0
  | _ => exact Int.le_refl 0
def hasF (ns : List Int) (x : V) : Bool := decide (0 < own ns x)
theorem hasF_nat {ns : List Int} {x : V} (h : hasF ns x = true) : ∃ j : Nat, x = .int j ∧ j < ns.length ∧ 0 < ns.getD j 0 := by
  have h' := of_decide_eq_true h
  cases hb : below x ns.length with
  | false => rw [own_below hb] at h'; omega
  | true =>
    obtain ⟨i, rfl, h0, h1⟩ := below_int hb
    obtain ⟨j, rfl⟩ : ∃ j : Nat, i = (j : Int) := ⟨i.toNat, by omega⟩
    have hj : j < ns.length := by omega
    rw [own_nat hj] at h'
    exact ⟨j, rfl, hj, h'⟩
theorem hasF_below {ns : List Int} {x : V} (h : below x ns.length = false) : hasF ns x = false := by
  unfold hasF
  rw [own_below h]
  rfl
theorem hasF_of {ns : List Int} {j : Nat} (h : j < ns.length) : hasF ns (.int j) = decide (0 < ns.getD j 0) := by
  unfold hasF
  rw [own_nat h]
theorem first0 : ∀ ns : List Int, (0 : Int) ∉ ns ∨ ∃ j : Nat, ns[j]? = some 0 ∧ ∀ i, i < j → ns[i]? ≠ some 0
  | [] => .inl (by simp)
  | n :: r => by
    by_cases h : n = 0
    · subst h
      exact .inr ⟨0, rfl, fun i hi => by omega⟩
    · rcases first0 r with z | ⟨j, hj, hno⟩
      · refine .inl fun m => ?_
        rcases List.mem_cons.mp m with e | e
        · exact h e.symm
        · exact z e
      · refine .inr ⟨j + 1, hj, fun i hi => ?_⟩
        cases i with
        | zero => exact fun e => h (Option.some.inj e)
        | succ i => exact hno i (by omega)
theorem first_unique {ns : List Int} {j k : Nat} (hj : ns[j]? = some 0) (h1 : ∀ i, i < j → ns[i]? ≠ some 0) (hk : ns[k]? = some 0) (h2 : ∀ i, i < k → ns[i]? ≠ some 0) : j = k := by
  rcases Nat.lt_trichotomy j k with h | h | h
  · exact absurd hj (h2 j h)
  · exact h
  · exact absurd hk (h1 k h)
structure FsOk (fs : List (Str × V)) (h g : Addr) : Prop where
  hol : fs.lookup ("holders" : Str) = some (.ref h)
  she : fs.lookup ("sheets" : Str) = some (.ref g)
  no : ∀ m : Str, ¬ m = "holders" → ¬ m = "sheets" → ¬ m = "pledged" → fs.lookup m = none
structure Fr (C : Addr) (H : Hp) (m h g : Addr) (ns : List Int) (ps : Pgs) : Prop where
  ob : ∃ dx fs, H m = some (.ins C dx fs) ∧ FsOk fs h g
  ho : H h = some (.lst (ns.map V.int))
  sh : Pg H g ps
  ln : ps.length = ns.length
  al : ∀ i, i < ps.length → ∃ p ws, ps[i]? = some (some (p, ws))
  gd : Good ps
  ap : ¬ At g ps h
  nn : ∀ i ∈ ns, 0 ≤ i
  lo : 1 ≤ ns.length
  hm : ns.length ≤ 200
theorem Fr.same {C : Addr} {H H' : Hp} {m h g : Addr} {ns : List Int} {ps : Pgs} (W : Fr C H m h g ns ps) (s : Same H H') : Fr C H' m h g ns ps := by
  obtain ⟨dx, fs, e, f⟩ := W.ob
  exact ⟨⟨dx, fs, s _ _ e, f⟩, s _ _ W.ho, W.sh.same s, W.ln, W.al, W.gd, W.ap, W.nn, W.lo, W.hm⟩
def Ow (m h g : Addr) (ps : Pgs) (b : Addr) : Prop := b = m ∨ b = h ∨ At g ps b
theorem Fr.keep {C : Addr} {H H' : Hp} {m h g : Addr} {ns : List Int} {ps : Pgs} (W : Fr C H m h g ns ps) (k : ∀ b, Ow m h g ps b → H' b = H b) : Fr C H' m h g ns ps := by
  obtain ⟨dx, fs, e, f⟩ := W.ob
  exact ⟨⟨dx, fs, by rw [k m (.inl rfl)]; exact e, f⟩, by rw [k h (.inr (.inl rfl))]; exact W.ho, W.sh.keep fun b hb => k b (.inr (.inr hb)), W.ln, W.al, W.gd, W.ap, W.nn, W.lo, W.hm⟩
theorem At.lst {H : Hp} {g b : Addr} {ps : Pgs} (s : Pg H g ps) (h : At g ps b) : ∃ xs, H b = some (.lst xs) := by
  rcases h with rfl | ⟨i, ws, e⟩
  · exact ⟨_, s.top⟩
  · exact ⟨_, (s.each i _ ws e).1⟩
theorem Fr.mh {C : Addr} {H : Hp} {m h g : Addr} {ns : List Int} {ps : Pgs} (W : Fr C H m h g ns ps) : m ≠ h := by
  obtain ⟨dx, fs, e, f⟩ := W.ob
  exact ne_of e W.ho (by intro z; cases z)
theorem Fr.mAt {C : Addr} {H : Hp} {m h g : Addr} {ns : List Int} {ps : Pgs} (W : Fr C H m h g ns ps) {b : Addr} (hb : At g ps b) : m ≠ b := by
  obtain ⟨dx, fs, e, f⟩ := W.ob
  obtain ⟨xs, e2⟩ := hb.lst W.sh
  exact ne_of e e2 (by intro z; cases z)
theorem Fr.hold {C : Addr} {H : Hp} {m h g : Addr} {ns : List Int} {ps : Pgs} (W : Fr C H m h g ns ps) (ns' : List Int) (hl : ns'.length = ns.length) (nn : ∀ i ∈ ns', 0 ≤ i) : Fr C (upd H h (.lst (ns'.map V.int))) m h g ns' ps := by
  obtain ⟨dx, fs, e, f⟩ := W.ob
  exact ⟨⟨dx, fs, by rw [upd_ne W.mh]; exact e, f⟩, upd_same, W.sh.keep fun b hb => upd_ne (fun z => W.ap (z ▸ hb)), by rw [hl]; exact W.ln, W.al, W.gd, W.ap, nn, by rw [hl]; exact W.lo, by rw [hl]; exact W.hm⟩
theorem nn_set {ns : List Int} {j : Nat} {k : Int} (h : ∀ i ∈ ns, 0 ≤ i) (hk : 0 ≤ k) : ∀ i ∈ ns.set j k, 0 ≤ i := fun i hi => by
  rcases List.mem_or_eq_of_mem_set hi with z | z
  · exact h i z
  · rw [z]; exact hk
def But (a : Addr) (H H' : Hp) : Prop := ∀ b o, b ≠ a → H b = some o → H' b = some o
theorem But.upd {a : Addr} {H : Hp} {o : HO} : But a H (upd H a o) := fun b u h e => by rw [upd_ne h]; exact e
def Keep (h g : Addr) (ps : Pgs) (H H' : Hp) : Prop := ∀ b o, b ≠ h → ¬ At g ps b → H b = some o → H' b = some o
abbrev z8 : List Int := [0, 0, 0, 0, 0, 0, 0, 0]
theorem Fr.take {C : Addr} {H H2 : Hp} {m h g p : Addr} {ns : List Int} {ps : Pgs} {j : Nat} (W : Fr C H m h g ns ps) (hj : j < ns.length) (s2 : Same (upd H h (.lst ((ns.set j 1).map V.int))) H2) (hp : H2 p = some (.lst (z8.map V.int))) (hn : H p = none) :
    Fr C (upd H2 g (.lst ((ps.map pgV).set j (V.ref p)))) m h g (ns.set j 1) (ps.set j (some (p, z8))) ∧ Keep h g ps H (upd H2 g (.lst ((ps.map pgV).set j (V.ref p)))) := by
  have W1 := W.hold (ns.set j 1) (List.length_set ..) (nn_set W.nn (by decide))
  have hgp : h ≠ g := fun z => W.ap (z ▸ .inl rfl)
  have ph : p ≠ h := (ne_of_none W.ho hn).symm
  have hn1 : upd H h (.lst ((ns.set j 1).map V.int)) p = none := by rw [upd_ne ph]; exact hn
  obtain ⟨dx, fs, e, f⟩ := W1.ob
  refine ⟨⟨⟨dx, fs, by rw [upd_ne (W.mAt (.inl rfl))]; exact s2 _ _ e, f⟩, by rw [upd_ne hgp]; exact s2 _ _ W1.ho, W1.sh.put (o := some (p, z8)) s2 fun q ws z => ?_, by rw [List.length_set, List.length_set]; exact W.ln, fun i hi => ?_, W.gd.put fun q ws z => ?_, fun z => ?_, W1.nn, W1.lo, W1.hm⟩, fun b o h1 h2 e => ?_⟩
  · cases z
    exact ⟨hp, hn1⟩
  · rw [List.length_set] at hi
    by_cases z : j = i
    · subst z
      exact ⟨p, z8, by rw [List.getElem?_set_self hi]⟩
    · rw [List.getElem?_set_ne z]
      exact W.al i hi
  · cases z
    exact ⟨rfl, by decide⟩
  · rcases z.put with y | ⟨ws, y⟩
    · exact W.ap y
    · cases y
      exact ph rfl
  · rw [upd_ne (fun z => h2 (.inl z))]
    exact s2 _ _ (by rw [upd_ne h1]; exact e)
end L2

end
section
set_option Elab.async false
set_option linter.all false
set_option maxRecDepth 100000
set_option maxHeartbeats 4000000
namespace L2
open PySem PySem.Spec PyProof.Rows
def noneU : Value → Bool
  | .none => true
  | _ => false
def Keep2 (h g : Addr) (H H' : Hp) : Prop := ∀ b o, b ≠ h → b ≠ g → H b = some o → H' b = some o
theorem Keep2.of {h g : Addr} {H H2 : Hp} {o1 o2 : HO} (s2 : Same (upd H h o1) H2) : Keep2 h g H (upd H2 g o2) := fun b o h1 h2 e => by
  rw [upd_ne h2]
  exact s2 _ _ (by rw [upd_ne h1]; exact e)
section
variable {X : Cx}
def rInP : R2 := fun x y H Q => ∃ q ps, x = .non ∧ y = .ref q ∧ Pg H q ps ∧ Q (.bl (ps.any Option.isNone)) H
def rIndexN : V → List V → Hp → VK → Prop := fun x vs H Q => ∃ (q : Addr) (ps : Pgs) (j : Nat), x = .ref q ∧ vs = [.non] ∧ Pg H q ps ∧ ps[j]? = some none ∧ (∀ i, i < j → ps[i]? ≠ some none) ∧ Q (.int (j : Nat)) H
def tDNewK : TE := fun _ H Q => ∀ p, H p = none → Q (.ref p) (upd H p (.dK []))
end
end L2

end
section
set_option Elab.async false
set_option linter.all false
set_option maxRecDepth 100000
set_option maxHeartbeats 4000000
namespace L2
open PySem
/-! pages as data -/
def dP : Option (List Int) → PyData
  | none => .none
  | some ws => .list (ws.map PyData.int)
def dC (c : List (Option (List Int))) : PyData := .list (c.map dP)
/-! parts -/
abbrev Gs := List (Option Nat)
def goV : Option Nat → V
  | none => .non
  | some f => .int f
def Pf (CP : Addr) (H : Hp) (a m : Addr) : Prop := ∃ dx fs, H a = some (.ins CP dx fs) ∧ fs.lookup ("floor" : Str) = some (.ref m) ∧ ∀ n : Str, ¬ n = "floor" → ¬ n = "goals" → fs.lookup n = none
structure Pt (CP : Addr) (H : Hp) (a e m : Addr) (G : Gs) : Prop where
  ob : ∃ dx fs, H a = some (.ins CP dx fs) ∧ fs.lookup ("floor" : Str) = some (.ref m) ∧ fs.lookup ("goals" : Str) = some (.ref e) ∧ ∀ n : Str, ¬ n = "floor" → ¬ n = "goals" → fs.lookup n = none
  go : H e = some (.lst (G.map goV))
theorem Pt.pf {CP : Addr} {H : Hp} {a e m : Addr} {G : Gs} (p : Pt CP H a e m G) : Pf CP H a m := by
  obtain ⟨dx, fs, h1, h2, _, h3⟩ := p.ob
  exact ⟨dx, fs, h1, h2, h3⟩
theorem Pf.same {CP : Addr} {H H' : Hp} {a m : Addr} (p : Pf CP H a m) (s : Same H H') : Pf CP H' a m := by
  obtain ⟨dx, fs, h1, h2, h3⟩ := p
  exact ⟨dx, fs, s _ _ h1, h2, h3⟩
theorem Pt.same {CP : Addr} {H H' : Hp} {a e m : Addr} {G : Gs} (p : Pt CP H a e m G) (s : Same H H') : Pt CP H' a e m G := by
  obtain ⟨dx, fs, h1, h2, h3, h4⟩ := p.ob
  exact ⟨⟨dx, fs, s _ _ h1, h2, h3, h4⟩, s _ _ p.go⟩
theorem Pt.kept {CP : Addr} {H H' : Hp} {a e m : Addr} {G : Gs} (p : Pt CP H a e m G) (s : ∀ b u, b = a ∨ b = e → H b = some u → H' b = some u) : Pt CP H' a e m G := by
  obtain ⟨dx, fs, h1, h2, h3, h4⟩ := p.ob
  exact ⟨⟨dx, fs, s _ _ (.inl rfl) h1, h2, h3, h4⟩, s _ _ (.inr rfl) p.go⟩
theorem Pt.set {CP : Addr} {H : Hp} {a e m : Addr} {G : Gs} (p : Pt CP H a e m G) (G' : Gs) : Pt CP (upd H e (.lst (G'.map goV))) a e m G' := by
  obtain ⟨dx, fs, h1, h2, h3, h4⟩ := p.ob
  exact ⟨⟨dx, fs, by rw [upd_ne (ne_of h1 p.go (by intro z; cases z))]; exact h1, h2, h3, h4⟩, upd_same⟩
def frV (G : Gs) : V → V
  | .int i => if 0 ≤ i ∧ i < G.length then goV (G.getD i.toNat none) else .non
  | _ => .non
theorem frV_nat {G : Gs} {j : Nat} (h : j < G.length) : frV G (.int j) = goV (G.getD j none) := by
  show (if 0 ≤ (j : Int) ∧ (j : Int) < G.length then goV (G.getD (j : Int).toNat none) else .non) = _
  rw [if_pos ⟨by omega, by omega⟩, Int.toNat_natCast]
theorem frV_below {G : Gs} {x : V} (h : below x G.length = false) : frV G x = .non := by
  cases x with
  | int i =>
    show (if 0 ≤ i ∧ i < G.length then goV (G.getD i.toNat none) else .non) = _
    rw [if_neg]
    rintro ⟨h0, h1⟩
    rw [below_of h0 h1] at h
    cases h
  | _ => rfl
theorem getG {G : Gs} {j : Nat} {o : Option Nat} (h : G[j]? = some o) : j < G.length ∧ G.getD j none = o := by
  refine ⟨(List.getElem?_eq_some_iff.mp h).1, ?_⟩
  rw [List.getD_eq_getElem?_getD, h]
  rfl
theorem atI_go {G : Gs} {j : Nat} {o : Option Nat} (h : G[j]? = some o) : atI (G.map goV) (j : Int) = some (goV o) := atI_nat (by rw [List.getElem?_map, h]; rfl)
theorem frV_at {G : Gs} {j : Nat} {o : Option Nat} (h : G[j]? = some o) : frV G (.int j) = goV o := by
  rw [frV_nat (getG h).1, (getG h).2]
theorem frV_some {G : Gs} {x : V} (h : frV G x ≠ .non) : ∃ (i f : Nat), x = .int i ∧ G[i]? = some (some f) := by
  cases hb : below x G.length with
  | false => exact absurd (frV_below hb) h
  | true =>
    obtain ⟨i, rfl, h0, h1⟩ := below_int hb
    obtain ⟨j, rfl⟩ : ∃ j : Nat, i = (j : Int) := ⟨i.toNat, by omega⟩
    have hj : j < G.length := by omega
    have e : G[j]? = some G[j] := List.getElem?_eq_getElem hj
    cases ho : G[j] with
    | none =>
      rw [ho] at e
      exact absurd (frV_at e) h
    | some f =>
      rw [ho] at e
      exact ⟨j, f, rfl, e⟩
def wdF (ps : Pgs) (f : Nat) : List Int := (((ps[f]?).getD none).map (·.2)).getD []
theorem wdF_of {ps : Pgs} {f : Nat} {p : Addr} {ws : List Int} (h : ps[f]? = some (some (p, ws))) : wdF ps f = ws := by
  unfold wdF
  rw [h]
  rfl
theorem wdF_ne {ps : Pgs} {f j : Nat} {o : Option (Addr × List Int)} (h : j ≠ f) : wdF (ps.set j o) f = wdF ps f := by
  unfold wdF
  rw [List.getElem?_set_ne h]
def ctF (ps : Pgs) (G : Gs) : List (Option (List Int)) := G.map (Option.map (wdF ps))
theorem ctF_set {ps : Pgs} {G : Gs} {j : Nat} {o : Option (Addr × List Int)} (h : some j ∉ G) : ctF (ps.set j o) G = ctF ps G := by
  unfold ctF
  refine List.map_congr_left fun x hx => ?_
  cases x with
  | none => rfl
  | some f =>
    show some (wdF (ps.set j o) f) = some (wdF ps f)
    rw [wdF_ne (fun z => h (by rw [z]; exact hx))]
end L2

end
section
set_option Elab.async false
set_option linter.all false
set_option maxRecDepth 100000
set_option maxHeartbeats 4000000
namespace L2
open PySem PySem.Spec PyProof.Rows
section
variable {X : Cx} {k : Nat} {f C : Addr} {fd : FuncData} {ps : List Str} {sp : Sp} {ds : List Value} {dvs : List V} {x : Str} {p pos : Pos} {e : Expr} {es : List Expr} {t : TA}
def tMakeX (C : Addr) (sp : Sp) (dvs : List V) (t : TA) : TEX := fun σ H Q E => t σ H fun vs H1 => ∀ x dx, H1 x = none → H1 dx = none → dx ≠ x → sp (.ref x :: (vs ++ dvs)) (upd (upd H1 dx (.own x)) x (.ins C dx [])) (fun v H2 => v = .non ∧ Q (.ref x) H2) E
end
def NotEight (H : Hp) (x : V) : Prop := (Th H x ∧ isLst H x = false) ∨ (∃ a xs, x = .ref a ∧ H a = some (.lst xs) ∧ xs.length ≠ 8) ∨ (∃ a xs, x = .ref a ∧ H a = some (.lst xs) ∧ xs.length = 8 ∧ (∀ v ∈ xs, Th H v) ∧ ∃ v ∈ xs, below v 281474976710656 = false)
def PgOk (H : Hp) (v : V) : Prop := v = .non ∨ ∃ (p : Addr) (ws : List Int), v = .ref p ∧ H p = some (.lst (ws.map V.int)) ∧ ws.length = 8 ∧ ∀ w ∈ ws, 0 ≤ w ∧ w < 281474976710656
def BadI (H : Hp) (x : V) : Prop := (Th H x ∧ isLst H x = false) ∨ (∃ a xs, x = .ref a ∧ H a = some (.lst xs) ∧ (xs.length = 0 ∨ 24 < xs.length) ∧ xs.length ≤ 1000) ∨
  ∃ a xs, x = .ref a ∧ H a = some (.lst xs) ∧ 1 ≤ xs.length ∧ xs.length ≤ 24 ∧ (∀ v ∈ xs, PgOk H v ∨ (v ≠ .non ∧ NotEight H v)) ∧ ∃ v ∈ xs, v ≠ .non ∧ NotEight H v
/-! goals as data -/
def dO : Option Nat → PyData
  | none => .none
  | some f => .int f
def dG (G : Gs) : PyData := .list (G.map dO)
def dGC (G : Gs) (c : List (Option (List Int))) : PyData := .list [dG G, dC c]
end L2

end
section
set_option Elab.async false
set_option linter.all false
set_option maxRecDepth 100000
set_option maxHeartbeats 4000000
namespace K44
open PySem L2
abbrev sWhole : Stmt := top 25
abbrev sBelow : Stmt := top 26
abbrev sInit : Stmt := inClass (top 36) 0
abbrev sSize : Stmt := inClass (top 36) 1
abbrev sHas : Stmt := inClass (top 36) 2
abbrev sTake : Stmt := inClass (top 36) 5
abbrev sShare : Stmt := inClass (top 36) 6
abbrev sDrop : Stmt := inClass (top 36) 7
abbrev sChk : Stmt := inClass (top 36) 8
abbrev sOwn : Stmt := inClass (top 36) 9
abbrev sFree : Stmt := inClass (top 36) 10
structure Dn (K : PySem.W.Frag) (mg : Str → Option Value) (x : Str) (st : Stmt) (ps : List Str) (f : Addr) (fd : FuncData) : Prop where
  F : Fun K x x st f fd
  m : mg x = some (.ref f)
  b : Binds K fd ps []
structure Me (K : PySem.W.Frag) (C : Addr) (x qual : Str) (st : Stmt) (ps : List Str) (f : Addr) (fd : FuncData) : Prop where
  F : Fun K x qual st f fd
  m : Meth K C x f
  b : Binds K fd ps []
structure Txt (K : PySem.W.Frag) (mg : Str → Option Value) : Prop where
  isi : mg "isinstance" = none
  int : mg "int" = none
  boo : mg "bool" = none
  len : mg "len" = none
  rng : mg "range" = none
structure Shf (K : PySem.W.Frag) (mg : Str → Option Value) (C NF : Addr) : Prop where
  cl : Cls K C
  nh : NoAttr K C "holders"
  ns : NoAttr K C "sheets"
  np : NoAttr K C "pledged"
  cells : ∃ t, mg "CELLS" = some (.int 8 t)
  frames : ∃ t, mg "FRAMES" = some (.int 200 t)
  xf : excIn K NF = true
  nf : mg "NoFrame" = some (.ref NF)
def spWhole : Sp := fun vs H Q _ => ∃ x, vs = [x] ∧ Th H x ∧ Q (.bl (isI x)) H
def spBelow : Sp := fun vs H Q _ => ∃ x b, vs = [x, .int b] ∧ Th H x ∧ Q (.bl (below x b)) H
def spInit (C NF : Addr) : Sp := fun vs H Q E => ∃ (m dx : Addr) (x : V), vs = [.ref m, x] ∧ H m = some (.ins C dx []) ∧ Th H x ∧
  (∀ n : Nat, x = .int n → goodN x = true → ∀ (h g : Addr) (ps : Pgs) (H' : Hp), But m H H' → (∀ b, b = h ∨ At g ps b → H b = none) → Fr C H' m h g (List.replicate n 0) ps → Q .non H') ∧ (goodN x = false → E (.ref NF) none H)
def spSize (C : Addr) : Sp := fun vs H Q _ => ∃ (m h g : Addr) (ns : List Int) (ps : Pgs), vs = [.ref m] ∧ Fr C H m h g ns ps ∧ Q (.int ns.length) H
def spFree (C : Addr) : Sp := fun vs H Q _ => ∃ (m h g : Addr) (ns : List Int) (ps : Pgs), vs = [.ref m] ∧ Fr C H m h g ns ps ∧ Q (.int (ns.count 0 : Nat)) H
def spHas (C : Addr) : Sp := fun vs H Q _ => ∃ (m h g : Addr) (ns : List Int) (ps : Pgs) (x : V), vs = [.ref m, x] ∧ Fr C H m h g ns ps ∧ Th H x ∧ Q (.bl (hasF ns x)) H
def spOwn (C : Addr) : Sp := fun vs H Q _ => ∃ (m h g : Addr) (ns : List Int) (ps : Pgs) (x : V), vs = [.ref m, x] ∧ Fr C H m h g ns ps ∧ Th H x ∧ Q (.int (own ns x)) H
def spChk (C NF : Addr) : Sp := fun vs H Q E => ∃ (m h g : Addr) (ns : List Int) (ps : Pgs) (x : V), vs = [.ref m, x] ∧ Fr C H m h g ns ps ∧ Th H x ∧ (hasF ns x = true → Q .non H) ∧ (hasF ns x = false → E (.ref NF) none H)
def spTake (C NF : Addr) : Sp := fun vs H Q E => ∃ (m h g : Addr) (ns : List Int) (ps : Pgs), vs = [.ref m] ∧ Fr C H m h g ns ps ∧
  (∀ (j : Nat) (p : Addr) (H' : Hp), ns[j]? = some 0 → (∀ i, i < j → ns[i]? ≠ some 0) → H p = none → Keep2 h g H H' → Fr C H' m h g (ns.set j 1) (ps.set j (some (p, z8))) → Q (.int j) H') ∧ ((0 : Int) ∉ ns → E (.ref NF) none H)
def spMv (C NF : Addr) (d : Int) : Sp := fun vs H Q E => ∃ (m h g : Addr) (ns : List Int) (ps : Pgs) (x : V), vs = [.ref m, x] ∧ Fr C H m h g ns ps ∧ Th H x ∧
  (∀ (j : Nat) (H' : Hp), x = .int j → j < ns.length → 0 < ns.getD j 0 → But h H H' → Fr C H' m h g (ns.set j (ns.getD j 0 + d)) ps → Q .non H') ∧ (hasF ns x = false → E (.ref NF) none H)
theorem rep_ok {n : Nat} (h : n ≤ 200) : [V.int 0].length * ((n : Int)).toNat ≤ sizeLine := by
  rw [Int.toNat_natCast]
  show 1 * n ≤ sizeLine
  have : (200 : Nat) ≤ sizeLine := by decide
  omega
theorem rep_map (n : Nat) : List.replicate n (V.int 0) = (List.replicate n (0 : Int)).map V.int := by rw [List.map_replicate]
theorem goodN_nat {x : V} (h : goodN x = true) : ∃ n : Nat, x = .int n ∧ 1 ≤ n ∧ n ≤ 200 := by
  cases x with
  | int i =>
    simp only [goodN, Bool.and_eq_true, decide_eq_true_eq] at h
    exact ⟨i.toNat, by rw [Int.toNat_of_nonneg (by omega)], by omega, by omega⟩
  | _ => cases h
section
variable {P : Program} {w : World} {K : PySem.W.Frag} {mg : Str → Option Value} {base : Heap} {C NF : Addr}
theorem scWh : FnScope ["thing"] ["thing"] (defScope sWhole) := ⟨rfl, rfl, rfl, by decide +kernel, rfl, by decide +kernel, by decide +kernel⟩
theorem ok_whole {f : Addr} {fd : FuncData} (F : Fun K "is_whole" "is_whole" sWhole f fd) (T : Txt K mg) : FnOk P w K mg base CX0 1 f fd ["thing"] spWhole := by
  refine F.ok scWh (fun vs H Q E h => ?_) (fun cdv A outer s H vs Q E hr h => ?_)
  · obtain ⟨x, rfl, _⟩ := h
    rfl
  · obtain ⟨x, rfl, th, q⟩ := h
    refine ⟨_, (pss_one (ps_ret (pe_and (pe_callB call_isint (by rfl) T.isi PyProof.Rows.boot_isinstance (pa_cons (pv 0) (pa_cons (pe_bltn (by rfl) T.int PyProof.Rows.boot_int (show RelV (.ty "int") (.type "int") from rfl)) pa_nil))) (pe_one (pe_not (pe_callB call_isbool (by rfl) T.isi PyProof.Rows.boot_isinstance (pa_cons (pv 0) (pa_cons (pe_bltn (by rfl) T.boo PyProof.Rows.boot_bool (show RelV (.ty "bool") (.type "bool") from rfl)) pa_nil)))))))), ?_⟩
    refine ⟨x, rfl, x, rfl, th, _, rfl, ?_⟩
    cases th with
    | bl b => exact iteT ⟨_, rfl, _, rfl, .bl b, _, rfl, q⟩
    | int i => exact iteT ⟨_, rfl, _, rfl, .int i, _, rfl, q⟩
    | non => exact iteF q
    | str z => exact iteF q
    | lst e => exact iteF q
    | frz e => exact iteF q
    | tup e => exact iteF q
    | dic e => exact iteF q
theorem scBe : FnScope ["thing", "bound"] ["thing", "bound"] (defScope sBelow) := ⟨rfl, rfl, rfl, by decide +kernel, rfl, by decide +kernel, by decide +kernel⟩
theorem ok_below {f f1 : Addr} {fd fd1 : FuncData} (F : Fun K "is_below" "is_below" sBelow f fd) (W : Dn K mg "is_whole" sWhole ["thing"] f1 fd1) (T : Txt K mg) : FnOk P w K mg base CX0 2 f fd ["thing", "bound"] spBelow := by
  have G : FnOk P w K mg base CX0 1 f1 fd1 ["thing"] spWhole := ok_whole W.F T
  refine F.ok scBe (fun vs H Q E h => ?_) (fun cdv A outer s H vs Q E hr h => ?_)
  · obtain ⟨x, b, rfl, _⟩ := h
    rfl
  · obtain ⟨x, b, rfl, th, q⟩ := h
    refine ⟨_, (pss_one (ps_ret (pe_and (pe_call G hr (by rfl) W.m W.F.kp W.b .nil pass0 (pa_cons (pv 0) pa_nil)) (pe_one (pe_chain op_le op_lt pe_int (pv 0) (pv 1)))))), ?_⟩
    refine ⟨x, rfl, x, rfl, th, _, rfl, ?_⟩
    cases th with
    | int i =>
      refine iteT ⟨_, rfl, 0, i, rfl, rfl, _, rfl, ?_⟩
      by_cases h0 : (0 : Int) ≤ i
      · rw [decide_eq_true h0]
        refine iteT ⟨_, rfl, i, b, rfl, rfl, ?_⟩
        simp only [below, decide_eq_true h0, Bool.true_and] at q
        exact q
      · rw [decide_eq_false h0]
        refine iteF ?_
        simp only [below, decide_eq_false h0, Bool.false_and] at q
        exact q
    | non => exact iteF q
    | bl b => exact iteF q
    | str z => exact iteF q
    | lst e => exact iteF q
    | frz e => exact iteF q
    | tup e => exact iteF q
    | dic e => exact iteF q
theorem scIn : FnScope ["self", "many"] ["self", "many"] (defScope sInit) := ⟨rfl, rfl, rfl, by decide +kernel, rfl, by decide +kernel, by decide +kernel⟩
theorem ndIn : (compN "frame" ["self", "many"]).Nodup := by decide +kernel
theorem dotIn : (".0" : Str) ∉ (["self", "many"] : List Str) := by decide +kernel
theorem ok_init {f f1 : Addr} {fd fd1 : FuncData} (F : Fun K "__init__" "Frames.__init__" sInit f fd) (D1 : Dn K mg "is_whole" sWhole ["thing"] f1 fd1) (G1 : FnOk P w K mg base CX0 1 f1 fd1 ["thing"] spWhole) (S : Shf K mg C NF) (T : Txt K mg) : FnOk P w K mg base (CXr P w) 2 f fd ["self", "many"] (spInit C NF) := by
  obtain ⟨t1, m1⟩ := S.cells
  obtain ⟨t2, m2⟩ := S.frames
  refine F.okR scIn (fun vs H Q E h => ?_) (fun cdv A outer s H vs Q E hr h => ?_)
  · obtain ⟨m, dx, x, rfl, _⟩ := h
    rfl
  · obtain ⟨m, dx, x, rfl, hm, th, q, e⟩ := h
    refine ⟨_, (pss_cons (ps_if (PW.pt (pw_or (pt_not (pt_val (pe_call G1 hr (by rfl) D1.m D1.F.kp D1.b .nil pass0 (pa_cons (pv 1) pa_nil)))) (pw_or1 (pt_not (pt_chain op_le op_le pe_int (pv 1) (pe_glob (by rfl) m2 (show RelV (.int 200) (.int 200 t2) from ⟨_, rfl⟩))))))) (pss_one (ps_raise S.xf S.nf raisesR rfl (pa_cons pe_str pa_nil))) pss_nil) (pss_cons (ps_fld (pv 0) (pe_op op_rep (pe_lst (pa_cons pe_int pa_nil)) (pv 1)) rfl) (pss_cons (ps_fld (pv 0) (pe_comp (cl := []) (tc := tYes) (te := tOp rRep (tLst (tCons (tC (.int 0)) tNil)) (tC (.int 8))) rfl (pi_range1 (by rfl) T.rng (pa_cons (pv 1) pa_nil)) (closureFor_none (by decide +kernel)) (show CapOk _ _ _ _ from ⟨.inl ⟨.inr rfl, rfl⟩, .inl ⟨.inl rfl, rfl⟩, .inr (.inl ⟨by decide, by decide, by decide⟩), trivial⟩) trivial (fun C s₂ H₂ fp => .nil) (fun C s₂ H₂ fp => (pe_op op_rep (pe_lst (pa_cons pe_int pa_nil)) (pe_glob (by rfl) m1 (show RelV (.int 8) (.int 8 t1) from ⟨_, rfl⟩)))) ndIn (hdot := dotIn)) rfl) (pss_one (ps_fld (pv 0) pe_int rfl))))), ?_⟩
    refine ⟨_, rfl, x, rfl, th, _, rfl, ?_⟩
    cases hb : goodN x with
    | false =>
      have e' := e hb
      cases th with
      | int i =>
        refine iteF ⟨_, rfl, 1, i, rfl, rfl, _, rfl, ?_⟩
        by_cases h1 : (1 : Int) ≤ i
        · rw [decide_eq_true h1]
          have h2 : ¬ i ≤ 200 := fun z => by
            simp only [goodN, decide_eq_true h1, decide_eq_true z] at hb
            cases hb
          refine iteT ⟨i, 200, rfl, rfl, _, rfl, ?_⟩
          rw [decide_eq_false h2]
          exact iteT ⟨by decide, e'⟩
        · rw [decide_eq_false h1]
          exact iteF ⟨_, rfl, iteT ⟨by decide, e'⟩⟩
      | non => exact iteT ⟨by decide, e'⟩
      | bl b => exact iteT ⟨by decide, e'⟩
      | str z => exact iteT ⟨by decide, e'⟩
      | lst z => exact iteT ⟨by decide, e'⟩
      | frz z => exact iteT ⟨by decide, e'⟩
      | tup z => exact iteT ⟨by decide, e'⟩
      | dic z => exact iteT ⟨by decide, e'⟩
    | true =>
    obtain ⟨n, rfl, h1, h2⟩ := goodN_nat hb
    refine iteF ⟨_, rfl, 1, (n : Int), rfl, rfl, _, rfl, ?_⟩
    rw [decide_eq_true (by omega)]
    refine iteT ⟨(n : Int), 200, rfl, rfl, _, rfl, ?_⟩
    rw [decide_eq_true (by omega)]
    refine iteF ?_
    -- holders
    refine ⟨by show 1 ≤ sizeLine; decide, fun l hln => ?_⟩
    refine ⟨_, rfl, l, (n : Int), _, rfl, rfl, upd_same, by omega, by omega, rep_ok h2, fun h hh => ?_⟩
    rw [Int.toNat_natCast, repI, rep_map]
    have ml : m ≠ l := ne_of_none hm hln
    have hl' : h ≠ l := (ne_of_none upd_same hh).symm
    rw [upd_ne hl'] at hh
    have mh : m ≠ h := ne_of_none hm hh
    refine ⟨_, rfl, m, C, dx, _, rfl, (by rw [upd_ne mh, upd_ne ml]; exact hm), S.cl, S.nh, (by show 0 < 1000; decide), ?_⟩
    -- sheets
    refine ⟨_, rfl, (n : Int), rfl, by omega, by omega, ?_⟩
    rw [Int.toNat_natCast]
    generalize hH1 : upd (upd (upd H l (.lst [V.int 0])) h (.lst ((List.replicate n (0 : Int)).map V.int))) m (.ins C dx (putF "holders" (.ref h) [])) = H1
    have b1 : But m H H1 := fun b o hb e => by
      rw [← hH1, upd_ne hb, upd_ne (ne_of_none e hh), upd_ne (ne_of_none e hln)]
      exact e
    have e1 : H1 m = some (.ins C dx (putF "holders" (.ref h) [])) := by rw [← hH1]; exact upd_same
    have e2 : H1 h = some (.lst ((List.replicate n (0 : Int)).map V.int)) := by rw [← hH1, upd_ne mh.symm]; exact upd_same
    have fr : ∀ b, H1 b = none → H b = none := fun b e => by
      cases z : H b with
      | none => rfl
      | some o =>
        by_cases hb : b = m
        · subst hb; rw [e1] at e; cases e
        · rw [b1 b o hb z] at e; cases e
    refine comp_range (lo := 0) (n := n) (fun D i ys H' => ∃ qs : Pgs, H1 D = none ∧ Same H1 H' ∧ Pg H' D qs ∧ ys = qs.map pgV ∧ qs.length = i ∧ Good qs ∧ (∀ b, At D qs b → H1 b = none) ∧ ∀ k, k < qs.length → ∃ p ws, qs[k]? = some (some (p, ws))) ?_ ?_ ?_ ?_
    · intro D hD
      refine ⟨[], hD, same_new hD, ⟨upd_same, fun i p ws e => by simp at e, fun i j p ws ws' e => by simp at e⟩, rfl, rfl, fun i p ws e => by simp at e, fun b hb => ?_, fun k hk => absurd hk (Nat.not_lt_zero _)⟩
      rcases hb with rfl | ⟨i, ws, e⟩
      · exact hD
      · simp at e
    · rintro D i ys H' _ ⟨qs, _, _, g, rfl, _⟩
      exact g.top
    · rintro D i ys H' hi ⟨qs, hD, ss, g, rfl, hl, hg, hf, hal⟩
      refine ⟨by show 1 ≤ sizeLine; decide, fun l2 hl2 => ?_⟩
      have r1 := same_new (o := .lst [V.int 0]) hl2
      refine ⟨l2, 8, _, rfl, rfl, upd_same, by decide, by decide, (by show 1 * (8 : Nat) ≤ sizeLine; decide), fun p hp => ?_⟩
      have r2 := same_new (o := .lst (List.replicate (8 : Int).toNat [V.int 0]).flatten) hp
      have r := r1.trans r2
      have hn : ∀ (q : Addr) (ws : List Int), some (p, z8) = some (q, ws) → upd (upd H' l2 (.lst [V.int 0])) p (.lst (List.replicate (8 : Int).toNat [V.int 0]).flatten) q = some (.lst (ws.map V.int)) ∧ H' q = none := fun q ws e => by
        cases e
        exact ⟨upd_same.trans rfl, r1.free hp⟩
      refine ⟨r _ _ g.top, (by rw [List.length_map, hl]; exact Nat.lt_of_lt_of_le (by omega : i < 201) (by decide)), qs ++ [some (p, z8)], hD, Same.set (ss.trans r) hD, g.app r hn, by rw [List.map_append]; rfl, by rw [List.length_append, hl]; rfl, hg.app fun q ws e => ?_, fun b hb => ?_, fun k hk => ?_⟩
      · cases e
        exact ⟨rfl, by decide⟩
      · rcases hb.app with z | ⟨ws, z⟩
        · exact hf b z
        · cases z
          exact ss.free (r1.free hp)
      · rw [List.length_append] at hk
        by_cases z : k < qs.length
        · rw [List.getElem?_append_left z]
          exact hal k z
        · have : k = qs.length := by simp at hk; omega
          subst this
          exact ⟨p, z8, by rw [List.getElem?_append_right (Nat.le_refl _), Nat.sub_self]; rfl⟩
    · rintro D ys H' ⟨qs, hD, ss, g, rfl, hl, hg, hf, hal⟩
      have md : m ≠ D := ne_of_none e1 hD
      have hd : h ≠ D := ne_of_none e2 hD
      refine ⟨_, rfl, m, C, dx, _, rfl, ss _ _ e1, S.cl, S.ns, (by show 1 < 1000; decide), ?_⟩
      refine ⟨_, rfl, m, C, dx, _, rfl, upd_same, S.cl, S.np, (by show 2 < 1000; decide), ?_⟩
      have mA : ∀ b, At D qs b → b ≠ m := fun b hb z => by rw [z] at hb; have := hf m hb; rw [e1] at this; cases this
      refine q n rfl hb h D qs _ (fun b o hb e => ?_) (fun b hb => ?_) ⟨⟨dx, _, upd_same, ⟨?_, ?_, fun g z1 z2 z3 => ?_⟩⟩, ?_, ?_, (by rw [hl, List.length_replicate]), hal, hg, fun z => ?_, fun i hi => (by rw [(List.mem_replicate.mp hi).2]; exact Int.le_refl 0), (by rw [List.length_replicate]; exact h1), (by rw [List.length_replicate]; exact h2)⟩
      · rw [upd_ne hb, upd_ne hb]
        exact ss _ _ (b1 b o hb e)
      · rcases hb with rfl | hb
        · exact hh
        · exact fr b (hf b hb)
      · rw [lookup_putF, if_neg (by decide +kernel), lookup_putF, if_neg (by decide +kernel), lookup_putF, if_pos rfl]
      · rw [lookup_putF, if_neg (by decide +kernel), lookup_putF, if_pos rfl]
      · rw [lookup_putF, if_neg z3, lookup_putF, if_neg z2, lookup_putF, if_neg z1]
        rfl
      · rw [upd_ne mh.symm, upd_ne mh.symm]
        exact ss _ _ e2
      · exact g.keep fun b hb => by rw [upd_ne (mA b hb), upd_ne (mA b hb)]
      · have := hf h z
        rw [e2] at this
        cases this
theorem scSix : FnScope ["self"] ["self"] (defScope sSize) := ⟨rfl, rfl, rfl, by decide +kernel, rfl, by decide +kernel, by decide +kernel⟩
theorem ok_size {f : Addr} {fd : FuncData} (F : Fun K "size" "Frames.size" sSize f fd) (S : Shf K mg C NF) (T : Txt K mg) : FnOk P w K mg base CX0 1 f fd ["self"] (spSize C) := by
  refine F.ok scSix (fun vs H Q E h' => ?_) (fun cdv A outer s H vs Q E hr h' => ?_)
  · obtain ⟨m, h, g, ns, ps, rfl, _⟩ := h'
    rfl
  · obtain ⟨m, h, g, ns, ps, rfl, W, q⟩ := h'
    obtain ⟨dx, fs, hm, fo⟩ := W.ob
    refine ⟨_, (pss_one (ps_ret (pe_callB call_len_seq (by rfl) T.len PySem.boot_len (pa_cons (pe_fld (pv 0) rfl) pa_nil)))), ?_⟩
    refine ⟨_, rfl, m, C, dx, fs, _, rfl, hm, S.cl, S.nh, fo.hol, h, _, rfl, .inl (SqL.of W.ho), ?_⟩
    rw [List.length_map]
    exact q
theorem scFrx : FnScope ["self"] ["self"] (defScope sFree) := ⟨rfl, rfl, rfl, by decide +kernel, rfl, by decide +kernel, by decide +kernel⟩
theorem ok_free {f : Addr} {fd : FuncData} (F : Fun K "free" "Frames.free" sFree f fd) (S : Shf K mg C NF) (T : Txt K mg) : FnOk P w K mg base CX0 1 f fd ["self"] (spFree C) := by
  refine F.ok scFrx (fun vs H Q E h' => ?_) (fun cdv A outer s H vs Q E hr h' => ?_)
  · obtain ⟨m, h, g, ns, ps, rfl, _⟩ := h'
    rfl
  · obtain ⟨m, h, g, ns, ps, rfl, W, q⟩ := h'
    obtain ⟨dx, fs, hm, fo⟩ := W.ob
    refine ⟨_, pss_one (ps_ret (pe_bm PySem.F.plainAttrs_list PySem.F.slot_list_count PySem.F.type_list_count mt_count (pe_fld (pv 0) rfl) (pa_cons pe_int pa_nil))), ?_⟩
    exact ⟨_, rfl, m, C, dx, fs, _, rfl, hm, S.cl, S.nh, fo.hol, .inl ⟨rfl, _, SqL.of W.ho⟩, h, 0, _, rfl, rfl, W.ho, q⟩
theorem scHa : FnScope ["self", "page"] ["self", "page"] (defScope sHas) := ⟨rfl, rfl, rfl, by decide +kernel, rfl, by decide +kernel, by decide +kernel⟩
theorem ok_has {f f1 f2 : Addr} {fd fd1 fd2 : FuncData} (F : Fun K "has" "Frames.has" sHas f fd) (B : Dn K mg "is_below" sBelow ["thing", "bound"] f1 fd1) (G : FnOk P w K mg base CX0 2 f1 fd1 ["thing", "bound"] spBelow)
    (Z : Me K C "size" "Frames.size" sSize ["self"] f2 fd2) (GZ : FnOk P w K mg base CX0 1 f2 fd2 ["self"] (spSize C)) (S : Shf K mg C NF) : FnOk P w K mg base CX0 3 f fd ["self", "page"] (spHas C) := by
  refine F.ok scHa (fun vs H Q E h' => ?_) (fun cdv A outer s H vs Q E hr h' => ?_)
  · obtain ⟨m, h, g, ns, ps, x, rfl, _⟩ := h'
    rfl
  · obtain ⟨m, h, g, ns, ps, x, rfl, W, th, q⟩ := h'
    obtain ⟨dx, fs, hm, fo⟩ := W.ob
    have hr1 : Room 1 _ := hr.mono (by decide)
    refine ⟨_, (pss_one (ps_ret (pe_and (pe_call G hr (by rfl) B.m B.F.kp B.b .nil pass0 (pa_cons (pv 1) (pa_cons (pe_meth0 (pv 0) S.cl Z.m GZ hr1 Z.b .nil pass0) pa_nil))) (pe_one (pe_cmpR op_gt (pe_ix ix_list (pe_fld (pv 0) rfl) (pv 1) (fun _ _ => rfl)) pe_int (nomark _)))))), ?_⟩
    refine ⟨_, rfl, _, rfl, m, dx, fs, rfl, hm, fo.no _ (by decide +kernel) (by decide +kernel) (by decide +kernel), m, h, g, ns, ps, rfl, W, x, _, rfl, th, _, rfl, ?_⟩
    cases hb : below x (ns.length : Int) with
    | false =>
      refine iteF ?_
      rw [hasF_below hb] at q
      exact q
    | true =>
      obtain ⟨i, rfl, h0, h1⟩ := below_int hb
      obtain ⟨j, rfl⟩ : ∃ j : Nat, i = (j : Int) := ⟨i.toNat, by omega⟩
      have hj : j < ns.length := by omega
      refine iteT ⟨_, rfl, m, C, dx, fs, _, rfl, hm, S.cl, S.nh, fo.hol, _, rfl, h, _, _, _, rfl, rfl, SqL.of W.ho, atI_word hj, _, 0, rfl, rfl, ?_⟩
      rw [hasF_of hj] at q
      exact q
theorem scCk : FnScope ["self", "frame"] ["self", "frame"] (defScope sChk) := ⟨rfl, rfl, rfl, by decide +kernel, rfl, by decide +kernel, by decide +kernel⟩
theorem ok_chk {f f2 : Addr} {fd fd2 : FuncData} (F : Fun K "check_taken" "Frames.check_taken" sChk f fd)
    (Z : Me K C "has" "Frames.has" sHas ["self", "page"] f2 fd2) (GZ : FnOk P w K mg base CX0 3 f2 fd2 ["self", "page"] (spHas C)) (S : Shf K mg C NF) : FnOk P w K mg base (CXr P w) 4 f fd ["self", "frame"] (spChk C NF) := by
  refine F.okR scCk (fun vs H Q E h' => ?_) (fun cdv A outer s H vs Q E hr h' => ?_)
  · obtain ⟨m, h, g, ns, ps, x, rfl, _⟩ := h'
    rfl
  · obtain ⟨m, h, g, ns, ps, x, rfl, W, th, q, e⟩ := h'
    obtain ⟨dx, fs, hm, fo⟩ := W.ob
    refine ⟨_, (pss_one (ps_if (pt_not (pt_val (pe_meth (pv 0) S.cl Z.m GZ hr Z.b .nil pass0 (pa_cons (pv 1) pa_nil)))) (pss_one (ps_raise S.xf S.nf raisesR rfl (pa_cons pe_str pa_nil))) pss_nil)), ?_⟩
    refine ⟨_, rfl, m, dx, fs, rfl, hm, fo.no _ (by decide +kernel) (by decide +kernel) (by decide +kernel), _, rfl, m, h, g, ns, ps, x, rfl, W, th, _, rfl, ?_⟩
    cases hb : hasF ns x with
    | false => exact iteT ⟨by decide, e hb⟩
    | true => exact iteF (q hb)
theorem scOw : FnScope ["self", "frame"] ["self", "frame"] (defScope sOwn) := ⟨rfl, rfl, rfl, by decide +kernel, rfl, by decide +kernel, by decide +kernel⟩
theorem ok_own {f f2 : Addr} {fd fd2 : FuncData} (F : Fun K "owners" "Frames.owners" sOwn f fd)
    (Z : Me K C "has" "Frames.has" sHas ["self", "page"] f2 fd2) (GZ : FnOk P w K mg base CX0 3 f2 fd2 ["self", "page"] (spHas C)) (S : Shf K mg C NF) : FnOk P w K mg base CX0 4 f fd ["self", "frame"] (spOwn C) := by
  refine F.ok scOw (fun vs H Q E h' => ?_) (fun cdv A outer s H vs Q E hr h' => ?_)
  · obtain ⟨m, h, g, ns, ps, x, rfl, _⟩ := h'
    rfl
  · obtain ⟨m, h, g, ns, ps, x, rfl, W, th, q⟩ := h'
    obtain ⟨dx, fs, hm, fo⟩ := W.ob
    refine ⟨_, (pss_one (ps_ret (pe_ifExp (pt_val (pe_meth (pv 0) S.cl Z.m GZ hr Z.b .nil pass0 (pa_cons (pv 1) pa_nil))) (pe_ix ix_list (pe_fld (pv 0) rfl) (pv 1) (fun _ _ => rfl)) pe_int))), ?_⟩
    refine ⟨_, rfl, m, dx, fs, rfl, hm, fo.no _ (by decide +kernel) (by decide +kernel) (by decide +kernel), _, rfl, m, h, g, ns, ps, x, rfl, W, th, _, rfl, ?_⟩
    cases hb : hasF ns x with
    | false =>
      refine iteF ?_
      have h0 := own_nn W.nn x
      have h1 := of_decide_eq_false hb
      have h2 : own ns x = 0 := by omega
      rw [h2] at q
      exact q
    | true =>
      obtain ⟨j, rfl, hj, _⟩ := hasF_nat hb
      rw [own_nat hj] at q
      exact iteT ⟨_, rfl, m, C, dx, fs, _, rfl, hm, S.cl, S.nh, fo.hol, _, rfl, h, _, _, _, rfl, rfl, SqL.of W.ho, atI_word hj, q⟩
theorem scShare : FnScope ["self", "frame"] ["self", "frame"] (defScope sShare) := ⟨rfl, rfl, rfl, by decide +kernel, rfl, by decide +kernel, by decide +kernel⟩
theorem ok_share {f f2 : Addr} {fd fd2 : FuncData} (F : Fun K "share" "Frames.share" sShare f fd)
    (Z : Me K C "check_taken" "Frames.check_taken" sChk ["self", "frame"] f2 fd2) (GZ : FnOk P w K mg base (CXr P w) 4 f2 fd2 ["self", "frame"] (spChk C NF)) (S : Shf K mg C NF) : FnOk P w K mg base (CXr P w) 5 f fd ["self", "frame"] (spMv C NF 1) := by
  refine F.okR scShare (fun vs H Q E h' => ?_) (fun cdv A outer s H vs Q E hr h' => ?_)
  · obtain ⟨m, h, g, ns, ps, x, rfl, _⟩ := h'
    rfl
  · obtain ⟨m, h, g, ns, ps, x, rfl, W, th, q, e⟩ := h'
    obtain ⟨dx, fs, hm, fo⟩ := W.ob
    refine ⟨_, pss_cons (ps_expr (pe_meth (pv 0) S.cl Z.m GZ hr Z.b .nil passR (pa_cons (pv 1) pa_nil))) (pss_one (ps_augS (pe_fld (pv 0) rfl) (pv 1) get_list pe_int ip_add set_list)), ?_⟩
    refine ⟨_, rfl, m, dx, fs, rfl, hm, fo.no _ (by decide +kernel) (by decide +kernel) (by decide +kernel), _, rfl, m, h, g, ns, ps, x, rfl, W, th, (fun hb => ?_), e⟩
    obtain ⟨j, rfl, hj, hp⟩ := hasF_nat hb
    refine ⟨_, rfl, m, C, dx, fs, _, rfl, hm, S.cl, S.nh, fo.hol, _, rfl, h, _, _, _, rfl, rfl, SqL.of W.ho, atI_word hj, ns.getD j 0, 1, rfl, rfl, h, _, _, j, rfl, rfl, W.ho, (by rw [List.length_map]; exact ixN_nat hj), ?_⟩
    rw [← List.map_set]
    dsimp only
    exact q j _ rfl hj hp But.upd (W.hold _ (List.length_set ..) (nn_set W.nn (by omega)))
theorem scDrop : FnScope ["self", "frame"] ["self", "frame"] (defScope sDrop) := ⟨rfl, rfl, rfl, by decide +kernel, rfl, by decide +kernel, by decide +kernel⟩
theorem ok_drop {f f2 : Addr} {fd fd2 : FuncData} (F : Fun K "drop" "Frames.drop" sDrop f fd)
    (Z : Me K C "check_taken" "Frames.check_taken" sChk ["self", "frame"] f2 fd2) (GZ : FnOk P w K mg base (CXr P w) 4 f2 fd2 ["self", "frame"] (spChk C NF)) (S : Shf K mg C NF) : FnOk P w K mg base (CXr P w) 5 f fd ["self", "frame"] (spMv C NF (-1)) := by
  refine F.okR scDrop (fun vs H Q E h' => ?_) (fun cdv A outer s H vs Q E hr h' => ?_)
  · obtain ⟨m, h, g, ns, ps, x, rfl, _⟩ := h'
    rfl
  · obtain ⟨m, h, g, ns, ps, x, rfl, W, th, q, e⟩ := h'
    obtain ⟨dx, fs, hm, fo⟩ := W.ob
    refine ⟨_, pss_cons (ps_expr (pe_meth (pv 0) S.cl Z.m GZ hr Z.b .nil passR (pa_cons (pv 1) pa_nil))) (pss_one (ps_augS (pe_fld (pv 0) rfl) (pv 1) get_list pe_int ip_sub set_list)), ?_⟩
    refine ⟨_, rfl, m, dx, fs, rfl, hm, fo.no _ (by decide +kernel) (by decide +kernel) (by decide +kernel), _, rfl, m, h, g, ns, ps, x, rfl, W, th, (fun hb => ?_), e⟩
    obtain ⟨j, rfl, hj, hp⟩ := hasF_nat hb
    refine ⟨_, rfl, m, C, dx, fs, _, rfl, hm, S.cl, S.nh, fo.hol, _, rfl, h, _, _, _, rfl, rfl, SqL.of W.ho, atI_word hj, ns.getD j 0, 1, rfl, rfl, h, _, _, j, rfl, rfl, W.ho, (by rw [List.length_map]; exact ixN_nat hj), ?_⟩
    rw [← List.map_set]
    dsimp only
    rw [show ns.getD j 0 - 1 = ns.getD j 0 + (-1) by omega]
    exact q j _ rfl hj hp But.upd (W.hold _ (List.length_set ..) (nn_set W.nn (by omega)))
theorem scTk : FnScope ["self", "frame"] ["self"] (defScope sTake) := ⟨rfl, rfl, rfl, by decide +kernel, rfl, by decide +kernel, by decide +kernel⟩
theorem ok_take {f f1 : Addr} {fd fd1 : FuncData} (F : Fun K "take" "Frames.take" sTake f fd) (M1 : Me K C "free" "Frames.free" sFree ["self"] f1 fd1) (G1 : FnOk P w K mg base CX0 1 f1 fd1 ["self"] (spFree C)) (S : Shf K mg C NF) : FnOk P w K mg base (CXr P w) 2 f fd ["self"] (spTake C NF) := by
  obtain ⟨t1, m1⟩ := S.cells
  refine F.okR scTk (fun vs H Q E h' => ?_) (fun cdv A outer s H vs Q E hr h' => ?_)
  · obtain ⟨m, h, g, ns, ps, rfl, _⟩ := h'
    rfl
  · obtain ⟨m, h, g, ns, ps, rfl, W, q, ex⟩ := h'
    obtain ⟨dx, fs, hm, fo⟩ := W.ob
    refine ⟨_, pss_cons (ps_if (pt_cmpR op_eq (pe_meth0 (pv 0) S.cl M1.m G1 hr M1.b .nil pass0) pe_int (nomark _)) (pss_one (ps_raise S.xf S.nf raisesR rfl (pa_cons pe_str pa_nil))) pss_nil) (pss_cons (ps_set (i := 1) scTk.nd rfl (Or.inl rfl) (pe_bm PySem.F.plainAttrs_list PySem.F.slot_list_index PySem.F.type_list_index mt_index (pe_fld (pv 0) rfl) (pa_cons pe_int pa_nil))) (pss_cons (ps_asg pe_int (pg_sub (pe_fld (pv 0) rfl) (pv 1) set_list)) (pss_cons (ps_asg (pe_op op_rep (pe_lst (pa_cons pe_int pa_nil)) (pe_glob (by rfl) m1 (show RelV (.int 8) (.int 8 t1) from ⟨_, rfl⟩))) (pg_sub (pe_fld (pv 0) rfl) (pv 1) set_list)) (pss_one (ps_ret (pv 1)))))), ?_⟩
    refine ⟨_, rfl, m, dx, fs, rfl, hm, fo.no _ (by decide +kernel) (by decide +kernel) (by decide +kernel), m, h, g, ns, ps, rfl, W, rfl, _, rfl, ?_⟩
    rcases first0 ns with h0 | ⟨j, hj, hno⟩
    · have hc : ns.count 0 = 0 := List.count_eq_zero.mpr h0
      rw [hc]
      exact iteT ⟨by decide, ex h0⟩
    have hjl : j < ns.length := (List.getElem?_eq_some_iff.mp hj).1
    have hc : ¬ ns.count 0 = 0 := fun z => List.count_eq_zero.mp z (List.mem_of_getElem? hj)
    refine iteFS (decide_eq_false (by intro z; have z' := V.int.inj z; omega)) ?_
    refine ⟨_, rfl, m, C, dx, fs, _, rfl, hm, S.cl, S.nh, fo.hol, .inl ⟨rfl, _, SqL.of W.ho⟩, h, 0, _, j, rfl, rfl, W.ho, hj, hno, ?_⟩
    refine ⟨_, rfl, m, C, dx, fs, _, rfl, hm, S.cl, S.nh, fo.hol, _, rfl, h, _, _, j, rfl, rfl, W.ho, (by rw [List.length_map]; exact ixN_nat hjl), ?_⟩
    rw [← List.map_set]
    have W1 := W.hold (ns.set j 1) (List.length_set ..) (nn_set W.nn (by decide))
    obtain ⟨dx1, fs1, hm1, fo1⟩ := W1.ob
    refine ⟨by show 1 ≤ sizeLine; decide, fun l hln => ?_⟩
    have r1 := same_new (o := .lst [V.int 0]) hln
    refine ⟨l, 8, _, rfl, rfl, upd_same, by decide, by decide, (by show 1 * (8 : Nat) ≤ sizeLine; decide), fun e he => ?_⟩
    have r2 := same_new (o := .lst (List.replicate (8 : Int).toNat [V.int 0]).flatten) he
    have s2 := r1.trans r2
    have e0 : H e = none := by
      have z := r1.free he
      by_cases eh : e = h
      · rw [eh, upd_same] at z; cases z
      · rw [upd_ne eh] at z; exact z
    refine ⟨_, rfl, m, C, dx1, fs1, _, rfl, s2 _ _ hm1, S.cl, S.ns, fo1.she, _, rfl, g, _, _, j, rfl, rfl, s2 _ _ W1.sh.top, (by rw [List.length_map, W.ln]; exact ixN_nat hjl), ?_⟩
    obtain ⟨F2, K2⟩ := W.take hjl s2 (p := e) (upd_same.trans rfl) e0
    exact ⟨_, rfl, q j e _ hj hno e0 (Keep2.of s2) F2⟩
end
end K44

end
section
set_option Elab.async false
set_option linter.all false
set_option maxRecDepth 100000
set_option maxHeartbeats 4000000
namespace K44
open PySem L2
abbrev sWord : Stmt := top 27
abbrev sCWord : Stmt := top 31
abbrev sRead : Stmt := inClass (top 32) 4
abbrev sWrite : Stmt := inClass (top 32) 5
abbrev sSpot : Stmt := inClass (top 32) 7
abbrev sCPage : Stmt := inClass (top 32) 8
abbrev sWordAt : Stmt := inClass (top 36) 3
abbrev sPutWord : Stmt := inClass (top 36) 4
structure Sto (K : PySem.W.Frag) (mg : Str → Option Value) (NP NL NW : Addr) : Prop where
  words : ∃ t, mg "WORDS" = some (.int 281474976710656 t)
  np : mg "NoPage" = some (.ref NP)
  xp : excIn K NP = true
  nl : mg "NoPlace" = some (.ref NL)
  xl : excIn K NL = true
  nw : mg "NoWord" = some (.ref NW)
  xw : excIn K NW = true
def spWord : Sp := fun vs H Q _ => ∃ x, vs = [x] ∧ Th H x ∧ Q (.bl (below x 281474976710656)) H
def spCWord (NW : Addr) : Sp := fun vs H Q E => ∃ z, vs = [z] ∧ Th H z ∧ (below z 281474976710656 = true → Q .non H) ∧ (below z 281474976710656 = false → E (.ref NW) none H)
def spCPage (C NP : Addr) : Sp := fun vs H Q E => ∃ (m h g : Addr) (ns : List Int) (ps : Pgs) (x : V), vs = [.ref m, x] ∧ Fr C H m h g ns ps ∧ Th H x ∧ (hasF ns x = true → Q .non H) ∧ (hasF ns x = false → E (.ref NP) none H)
def spSpot (C NP NL : Addr) : Sp := fun vs H Q E => ∃ (m h g : Addr) (ns : List Int) (ps : Pgs) (x y : V), vs = [.ref m, x, y] ∧ Fr C H m h g ns ps ∧ Th H x ∧ Th H y ∧ (hasF ns x = true → below y 8 = true → Q .non H) ∧ (hasF ns x = false → E (.ref NP) none H) ∧ (hasF ns x = true → below y 8 = false → E (.ref NL) none H)
def spWordAt (C : Addr) : Sp := fun vs H Q _ => ∃ (m h g : Addr) (ns : List Int) (ps : Pgs) (i j : Nat) (p : Addr) (ws : List Int), vs = [.ref m, .int i, .int j] ∧ Fr C H m h g ns ps ∧ ps[i]? = some (some (p, ws)) ∧ j < 8 ∧ Q (.int (ws.getD j 0)) H
def spPutWord (C : Addr) : Sp := fun vs H Q _ => ∃ (m h g : Addr) (ns : List Int) (ps : Pgs) (i j : Nat) (w : Int) (p : Addr) (ws : List Int), vs = [.ref m, .int i, .int j, .int w] ∧ Fr C H m h g ns ps ∧ ps[i]? = some (some (p, ws)) ∧ j < 8 ∧ 0 ≤ w ∧ w < 281474976710656 ∧ ∀ H', But p H H' → Fr C H' m h g ns (setW ps i j w) → Q .non H'
def spRead (C NP NL : Addr) : Sp := fun vs H Q E => ∃ (m h g : Addr) (ns : List Int) (ps : Pgs) (x y : V), vs = [.ref m, x, y] ∧ Fr C H m h g ns ps ∧ Th H x ∧ Th H y ∧
  (∀ (i j : Nat) (p : Addr) (ws : List Int), x = .int i → y = .int j → ps[i]? = some (some (p, ws)) → hasF ns x = true → j < 8 → Q (.int (ws.getD j 0)) H) ∧ (hasF ns x = false → E (.ref NP) none H) ∧ (hasF ns x = true → below y 8 = false → E (.ref NL) none H)
def spWrite (C NP NL NW : Addr) : Sp := fun vs H Q E => ∃ (m h g : Addr) (ns : List Int) (ps : Pgs) (x y z : V), vs = [.ref m, x, y, z] ∧ Fr C H m h g ns ps ∧ Th H x ∧ Th H y ∧ Th H z ∧
  (∀ (i j : Nat) (w : Int) (p : Addr) (ws : List Int) (H' : Hp), x = .int i → y = .int j → z = .int w → ps[i]? = some (some (p, ws)) → hasF ns x = true → j < 8 → 0 ≤ w → w < 281474976710656 → But p H H' → Fr C H' m h g ns (setW ps i j w) → Q .non H') ∧
  (hasF ns x = false → E (.ref NP) none H) ∧ (hasF ns x = true → below y 8 = false → E (.ref NL) none H) ∧ (hasF ns x = true → below y 8 = true → below z 281474976710656 = false → E (.ref NW) none H)
section
variable {P : Program} {w : World} {K : PySem.W.Frag} {mg : Str → Option Value} {base : Heap} {C NF NP NL NW : Addr}
theorem at_setW {g b : Addr} {ps : Pgs} {i j : Nat} {w : Int} {p : Addr} {ws : List Int} (e : ps[i]? = some (some (p, ws))) (h : At g (setW ps i j w) b) : At g ps b := by
  rw [setW_at e] at h
  rcases h.put with z | ⟨vs, z⟩
  · exact z
  · cases z
    exact .inr ⟨i, ws, e⟩
theorem Fr.setW {H : Hp} {m h g : Addr} {ns : List Int} {ps : Pgs} {i j : Nat} {v : Int} {p : Addr} {ws : List Int} (W : Fr C H m h g ns ps) (e : ps[i]? = some (some (p, ws))) (v0 : 0 ≤ v) (v1 : v < 281474976710656) :
    Fr C (upd H p (.lst ((ws.map V.int).set j (.int v)))) m h g ns (setW ps i j v) := by
  obtain ⟨dx, fs, hm, fo⟩ := W.ob
  have ap : At g ps p := .inr ⟨i, ws, e⟩
  refine ⟨⟨dx, fs, by rw [upd_ne (W.mAt ap)]; exact hm, fo⟩, by rw [upd_ne (show h ≠ p from fun z => W.ap (z ▸ ap))]; exact W.ho, W.sh.setW e, by rw [setW_len]; exact W.ln, fun k hk => ?_, W.gd.setW e v0 v1, fun z => W.ap (at_setW e z), W.nn, W.lo, W.hm⟩
  rw [setW_len] at hk
  rw [setW_at e]
  by_cases z : i = k
  · subst z
    exact ⟨p, _, List.getElem?_set_self hk⟩
  · rw [List.getElem?_set_ne z]
    exact W.al k hk
theorem scWd : FnScope ["thing"] ["thing"] (defScope sWord) := ⟨rfl, rfl, rfl, by decide +kernel, rfl, by decide +kernel, by decide +kernel⟩
theorem ok_word {f f1 : Addr} {fd fd1 : FuncData} (F : Fun K "is_word" "is_word" sWord f fd) (B : Dn K mg "is_below" sBelow ["thing", "bound"] f1 fd1) (G : FnOk P w K mg base CX0 2 f1 fd1 ["thing", "bound"] spBelow) (Z : Sto K mg NP NL NW) : FnOk P w K mg base CX0 3 f fd ["thing"] spWord := by
  refine F.ok scWd (fun vs H Q E h => ?_) (fun cdv A outer s H vs Q E hr h => ?_)
  · obtain ⟨x, rfl, _⟩ := h
    rfl
  · obtain ⟨x, rfl, th, q⟩ := h
    obtain ⟨t3, m3⟩ := Z.words
    refine ⟨_, (pss_one (ps_ret (pe_call G hr (by rfl) B.m B.F.kp B.b .nil pass0 (pa_cons (pv 0) (pa_cons (pe_glob (by rfl) m3 (show RelV (.int 281474976710656) (.int 281474976710656 t3) from ⟨_, rfl⟩)) pa_nil))))), ?_⟩
    exact ⟨x, rfl, x, _, rfl, th, q⟩
theorem scCW : FnScope ["word"] ["word"] (defScope sCWord) := ⟨rfl, rfl, rfl, by decide +kernel, rfl, by decide +kernel, by decide +kernel⟩
theorem ok_cword {f f3 : Addr} {fd fd3 : FuncData} (F : Fun K "check_word" "check_word" sCWord f fd) (B : Dn K mg "is_word" sWord ["thing"] f3 fd3) (G : FnOk P w K mg base CX0 3 f3 fd3 ["thing"] spWord) (Z : Sto K mg NP NL NW) : FnOk P w K mg base (CXr P w) 4 f fd ["word"] (spCWord NW) := by
  refine F.okR scCW (fun vs H Q E h => ?_) (fun cdv A outer s H vs Q E hr h => ?_)
  · obtain ⟨z, rfl, _⟩ := h
    rfl
  · obtain ⟨z, rfl, tz, q, e3⟩ := h
    refine ⟨_, (pss_one (ps_if (pt_not (pt_val (pe_call G hr (by rfl) B.m B.F.kp B.b .nil pass0 (pa_cons (pv 0) pa_nil)))) (pss_one (ps_raise Z.xw Z.nw raisesR rfl (pa_cons pe_str pa_nil))) pss_nil)), ?_⟩
    refine ⟨_, rfl, z, rfl, tz, _, rfl, ?_⟩
    cases hd : below z 281474976710656 with
    | false => exact iteT ⟨by decide, e3 hd⟩
    | true => exact iteF (q hd)
theorem scCp : FnScope ["self", "page"] ["self", "page"] (defScope sCPage) := ⟨rfl, rfl, rfl, by decide +kernel, rfl, by decide +kernel, by decide +kernel⟩
theorem ok_cpage {f f2 : Addr} {fd fd2 : FuncData} (F : Fun K "check_page" "Store.check_page" sCPage f fd)
    (M1 : Me K C "has" "Frames.has" sHas ["self", "page"] f2 fd2) (GM1 : FnOk P w K mg base CX0 3 f2 fd2 ["self", "page"] (spHas C)) (S : Shf K mg C NF) (Z : Sto K mg NP NL NW) : FnOk P w K mg base (CXr P w) 4 f fd ["self", "page"] (spCPage C NP) := by
  refine F.okR scCp (fun vs H Q E h' => ?_) (fun cdv A outer s H vs Q E hr h' => ?_)
  · obtain ⟨m, h, g, ns, ps, x, rfl, _⟩ := h'
    rfl
  · obtain ⟨m, h, g, ns, ps, x, rfl, W, th, q, e⟩ := h'
    obtain ⟨dx, fs, hm, fo⟩ := W.ob
    refine ⟨_, (pss_one (ps_if (pt_not (pt_val (pe_meth (pv 0) S.cl M1.m GM1 hr M1.b .nil pass0 (pa_cons (pv 1) pa_nil)))) (pss_one (ps_raise Z.xp Z.np raisesR rfl (pa_cons pe_str pa_nil))) pss_nil)), ?_⟩
    refine ⟨_, rfl, m, dx, fs, rfl, hm, fo.no _ (by decide +kernel) (by decide +kernel) (by decide +kernel), _, rfl, m, h, g, ns, ps, x, rfl, W, th, _, rfl, ?_⟩
    cases hb : hasF ns x with
    | false => exact iteT ⟨by decide, e hb⟩
    | true => exact iteF (q hb)
theorem scSp : FnScope ["self", "page", "cell"] ["self", "page", "cell"] (defScope sSpot) := ⟨rfl, rfl, rfl, by decide +kernel, rfl, by decide +kernel, by decide +kernel⟩
theorem ok_spot {f f1 f2 : Addr} {fd fd1 fd2 : FuncData} (F : Fun K "check_spot" "Store.check_spot" sSpot f fd) (B : Dn K mg "is_below" sBelow ["thing", "bound"] f1 fd1) (G : FnOk P w K mg base CX0 2 f1 fd1 ["thing", "bound"] spBelow)
    (M1 : Me K C "check_page" "Store.check_page" sCPage ["self", "page"] f2 fd2) (GM1 : FnOk P w K mg base (CXr P w) 4 f2 fd2 ["self", "page"] (spCPage C NP)) (S : Shf K mg C NF) (Z : Sto K mg NP NL NW) : FnOk P w K mg base (CXr P w) 5 f fd ["self", "page", "cell"] (spSpot C NP NL) := by
  refine F.okR scSp (fun vs H Q E h' => ?_) (fun cdv A outer s H vs Q E hr h' => ?_)
  · obtain ⟨m, h, g, ns, ps, x, y, rfl, _⟩ := h'
    rfl
  · obtain ⟨m, h, g, ns, ps, x, y, rfl, W, th, ty, q, e1, e2⟩ := h'
    obtain ⟨dx, fs, hm, fo⟩ := W.ob
    obtain ⟨t1, m1⟩ := S.cells
    have hr2 : Room 2 _ := hr.mono (by decide)
    refine ⟨_, (pss_cons (ps_expr (pe_meth (pv 0) S.cl M1.m GM1 hr M1.b .nil passR (pa_cons (pv 1) pa_nil))) (pss_one (ps_if (pt_not (pt_val (pe_call G hr2 (by rfl) B.m B.F.kp B.b .nil pass0 (pa_cons (pv 2) (pa_cons (pe_glob (by rfl) m1 (show RelV (.int 8) (.int 8 t1) from ⟨_, rfl⟩)) pa_nil))))) (pss_one (ps_raise Z.xl Z.nl raisesR rfl (pa_cons pe_str pa_nil))) pss_nil))), ?_⟩
    refine ⟨_, rfl, m, dx, fs, rfl, hm, fo.no _ (by decide +kernel) (by decide +kernel) (by decide +kernel), _, rfl, m, h, g, ns, ps, x, rfl, W, th, fun hb => ?_, e1⟩
    refine ⟨_, rfl, y, _, rfl, ty, _, rfl, ?_⟩
    cases hc : below y 8 with
    | false => exact iteT ⟨by decide, e2 hb hc⟩
    | true => exact iteF (q hb hc)
theorem scWa : FnScope ["self", "page", "cell"] ["self", "page", "cell"] (defScope sWordAt) := ⟨rfl, rfl, rfl, by decide +kernel, rfl, by decide +kernel, by decide +kernel⟩
theorem ok_wordat {f : Addr} {fd : FuncData} (F : Fun K "word_at" "Frames.word_at" sWordAt f fd) (S : Shf K mg C NF) : FnOk P w K mg base CX0 1 f fd ["self", "page", "cell"] (spWordAt C) := by
  refine F.ok scWa (fun vs H Q E h' => ?_) (fun cdv A outer s H vs Q E hr h' => ?_)
  · obtain ⟨m, h, g, ns, ps, i, j, p, ws, rfl, _⟩ := h'
    rfl
  · obtain ⟨m, h, g, ns, ps, i, j, p, ws, rfl, W, e, hj, q⟩ := h'
    obtain ⟨dx, fs, hm, fo⟩ := W.ob
    obtain ⟨o, ho, ha⟩ := atI_pg (ps := ps) (i := i) (List.getElem?_eq_some_iff.mp e).1
    obtain rfl : o = some (p, ws) := Option.some.inj (ho.symm.trans e)
    refine ⟨_, (pss_one (ps_ret (pe_ix ix_list (pe_ix ix_list (pe_fld (pv 0) rfl) (pv 1) (fun _ _ => rfl)) (pv 2) (fun _ _ => rfl)))), ?_⟩
    exact ⟨_, rfl, m, C, dx, fs, _, rfl, hm, S.cl, S.ns, fo.she, _, rfl, g, _, _, _, rfl, rfl, SqL.of W.sh.top, ha, _, rfl, p, _, _, _, rfl, rfl, SqL.of (W.sh.each i p ws e).1, atI_word (by rw [(W.gd i p ws e).1]; exact hj), q⟩
theorem scPw : FnScope ["self", "page", "cell", "word"] ["self", "page", "cell", "word"] (defScope sPutWord) := ⟨rfl, rfl, rfl, by decide +kernel, rfl, by decide +kernel, by decide +kernel⟩
theorem ok_putword {f : Addr} {fd : FuncData} (F : Fun K "put_word" "Frames.put_word" sPutWord f fd) (S : Shf K mg C NF) : FnOk P w K mg base CX0 1 f fd ["self", "page", "cell", "word"] (spPutWord C) := by
  refine F.ok scPw (fun vs H Q E h' => ?_) (fun cdv A outer s H vs Q E hr h' => ?_)
  · obtain ⟨m, h, g, ns, ps, i, j, v, p, ws, rfl, _⟩ := h'
    rfl
  · obtain ⟨m, h, g, ns, ps, i, j, v, p, ws, rfl, W, e, hj, v0, v1, q⟩ := h'
    obtain ⟨dx, fs, hm, fo⟩ := W.ob
    obtain ⟨o, ho, ha⟩ := atI_pg (ps := ps) (i := i) (List.getElem?_eq_some_iff.mp e).1
    obtain rfl : o = some (p, ws) := Option.some.inj (ho.symm.trans e)
    refine ⟨_, (pss_one (ps_asg (pv 3) (pg_sub (pe_ix ix_list (pe_fld (pv 0) rfl) (pv 1) (fun _ _ => rfl)) (pv 2) set_list))), ?_⟩
    exact ⟨_, rfl, _, rfl, m, C, dx, fs, _, rfl, hm, S.cl, S.ns, fo.she, _, rfl, g, _, _, _, rfl, rfl, SqL.of W.sh.top, ha, _, rfl, p, _, _, _, rfl, rfl, (W.sh.each i p ws e).1, ixN_nat (by rw [List.length_map, (W.gd i p ws e).1]; exact hj), q _ But.upd (Fr.setW W e v0 v1)⟩
theorem scRd : FnScope ["self", "page", "cell"] ["self", "page", "cell"] (defScope sRead) := ⟨rfl, rfl, rfl, by decide +kernel, rfl, by decide +kernel, by decide +kernel⟩
theorem ok_read {f f1 f2 : Addr} {fd fd1 fd2 : FuncData} (F : Fun K "read" "Store.read" sRead f fd) (M1 : Me K C "check_spot" "Store.check_spot" sSpot ["self", "page", "cell"] f1 fd1) (GM1 : FnOk P w K mg base (CXr P w) 5 f1 fd1 ["self", "page", "cell"] (spSpot C NP NL))
    (M2 : Me K C "word_at" "Frames.word_at" sWordAt ["self", "page", "cell"] f2 fd2) (GM2 : FnOk P w K mg base CX0 1 f2 fd2 ["self", "page", "cell"] (spWordAt C)) (S : Shf K mg C NF) : FnOk P w K mg base (CXr P w) 6 f fd ["self", "page", "cell"] (spRead C NP NL) := by
  refine F.okR scRd (fun vs H Q E h' => ?_) (fun cdv A outer s H vs Q E hr h' => ?_)
  · obtain ⟨m, h, g, ns, ps, x, y, rfl, _⟩ := h'
    rfl
  · obtain ⟨m, h, g, ns, ps, x, y, rfl, W, th, ty, q, e1, e2⟩ := h'
    obtain ⟨dx, fs, hm, fo⟩ := W.ob
    have hr1 : Room 1 _ := hr.mono (by decide)
    refine ⟨_, (pss_cons (ps_expr (pe_meth (pv 0) S.cl M1.m GM1 hr M1.b .nil passR (pa_cons (pv 1) (pa_cons (pv 2) pa_nil)))) (pss_one (ps_ret (pe_meth (pv 0) S.cl M2.m GM2 hr1 M2.b .nil pass0 (pa_cons (pv 1) (pa_cons (pv 2) pa_nil)))))), ?_⟩
    refine ⟨_, rfl, m, dx, fs, rfl, hm, fo.no _ (by decide +kernel) (by decide +kernel) (by decide +kernel), _, rfl, _, rfl, m, h, g, ns, ps, x, y, rfl, W, th, ty, fun hb hc => ?_, e1, e2⟩
    obtain ⟨i, rfl, hi, hp⟩ := hasF_nat hb
    obtain ⟨p, ws, e⟩ := W.al i (by rw [W.ln]; exact hi)
    obtain ⟨j, rfl, j0, j1⟩ := below_int hc
    obtain ⟨n, rfl⟩ : ∃ n : Nat, j = (n : Int) := ⟨j.toNat, by omega⟩
    exact ⟨_, rfl, m, dx, fs, rfl, hm, fo.no _ (by decide +kernel) (by decide +kernel) (by decide +kernel), _, rfl, _, rfl, m, h, g, ns, ps, i, n, p, ws, rfl, W, e, (by omega), q i n p ws rfl rfl e hb (by omega)⟩
theorem scWr : FnScope ["self", "page", "cell", "word"] ["self", "page", "cell", "word"] (defScope sWrite) := ⟨rfl, rfl, rfl, by decide +kernel, rfl, by decide +kernel, by decide +kernel⟩
theorem ok_write {f f1 f2 f3 : Addr} {fd fd1 fd2 fd3 : FuncData} (F : Fun K "write" "Store.write" sWrite f fd) (M1 : Me K C "check_spot" "Store.check_spot" sSpot ["self", "page", "cell"] f1 fd1) (GM1 : FnOk P w K mg base (CXr P w) 5 f1 fd1 ["self", "page", "cell"] (spSpot C NP NL))
    (B : Dn K mg "check_word" sCWord ["word"] f3 fd3) (G : FnOk P w K mg base (CXr P w) 4 f3 fd3 ["word"] (spCWord NW))
    (M2 : Me K C "put_word" "Frames.put_word" sPutWord ["self", "page", "cell", "word"] f2 fd2) (GM2 : FnOk P w K mg base CX0 1 f2 fd2 ["self", "page", "cell", "word"] (spPutWord C)) (S : Shf K mg C NF) : FnOk P w K mg base (CXr P w) 6 f fd ["self", "page", "cell", "word"] (spWrite C NP NL NW) := by
  refine F.okR scWr (fun vs H Q E h' => ?_) (fun cdv A outer s H vs Q E hr h' => ?_)
  · obtain ⟨m, h, g, ns, ps, x, y, z, rfl, _⟩ := h'
    rfl
  · obtain ⟨m, h, g, ns, ps, x, y, z, rfl, W, th, ty, tz, q, e1, e2, e3⟩ := h'
    obtain ⟨dx, fs, hm, fo⟩ := W.ob
    have hr1 : Room 1 _ := hr.mono (by decide)
    have hr4 : Room 4 _ := hr.mono (by decide)
    refine ⟨_, (pss_cons (ps_expr (pe_meth (pv 0) S.cl M1.m GM1 hr M1.b .nil passR (pa_cons (pv 1) (pa_cons (pv 2) pa_nil)))) (pss_cons (ps_expr (pe_call G hr4 (by rfl) B.m B.F.kp B.b .nil passR (pa_cons (pv 3) pa_nil))) (pss_one (ps_expr (pe_meth (pv 0) S.cl M2.m GM2 hr1 M2.b .nil pass0 (pa_cons (pv 1) (pa_cons (pv 2) (pa_cons (pv 3) pa_nil)))))))), ?_⟩
    refine ⟨_, rfl, m, dx, fs, rfl, hm, fo.no _ (by decide +kernel) (by decide +kernel) (by decide +kernel), _, rfl, _, rfl, m, h, g, ns, ps, x, y, rfl, W, th, ty, fun hb hc => ?_, e1, e2⟩
    refine ⟨_, rfl, z, rfl, tz, fun hd => ?_, fun hd => e3 hb hc hd⟩
    obtain ⟨i, rfl, hi, hp⟩ := hasF_nat hb
    obtain ⟨p, ws, e⟩ := W.al i (by rw [W.ln]; exact hi)
    obtain ⟨j, rfl, j0, j1⟩ := below_int hc
    obtain ⟨n, rfl⟩ : ∃ n : Nat, j = (n : Int) := ⟨j.toNat, by omega⟩
    obtain ⟨v, rfl, v0, v1⟩ := below_int hd
    exact ⟨_, rfl, m, dx, fs, rfl, hm, fo.no _ (by decide +kernel) (by decide +kernel) (by decide +kernel), _, rfl, _, rfl, _, rfl, m, h, g, ns, ps, i, n, v, p, ws, rfl, W, e, (by omega), v0, v1, fun H' bt W' => q i n v p ws H' rfl rfl rfl e hb (by omega) v0 v1 bt W'⟩
end
end K44

end
section
set_option Elab.async false
set_option linter.all false
set_option maxRecDepth 100000
set_option maxHeartbeats 4000000
namespace K44
open PySem L2
abbrev sWords : Stmt := inClass (top 32) 6
abbrev sPInit : Stmt := inClass (top 34) 0
abbrev sFill : Stmt := inClass (top 34) 1
abbrev sPSize : Stmt := inClass (top 34) 2
abbrev sFrame : Stmt := inClass (top 34) 3
abbrev sThere : Stmt := inClass (top 34) 4
abbrev sAlone : Stmt := inClass (top 34) 5
abbrev sLead : Stmt := inClass (top 34) 6
abbrev sGive : Stmt := inClass (top 34) 7
abbrev sFresh : Stmt := inClass (top 34) 8
abbrev sPages : Stmt := inClass (top 34) 10
abbrev sEight : Stmt := top 29
abbrev sImage : Stmt := top 30
structure Shp (K : PySem.W.Frag) (CP : Addr) : Prop where
  cl : Cls K CP
  nf : NoAttr K CP "floor"
  ng : NoAttr K CP "goals"
structure Im (K : PySem.W.Frag) (mg : Str → Option Value) (NI : Addr) : Prop where
  most : ∃ t, mg "MOST_PAGES" = some (.int 24 t)
  ni : mg "NoImage" = some (.ref NI)
  xi : excIn K NI = true
  lst : mg "list" = none
  all : mg "all" = none
def spWords (C : Addr) : Sp := fun vs H Q _ => ∃ (m h g : Addr) (ns : List Int) (ps : Pgs) (f : Nat) (p : Addr) (ws : List Int), vs = [.ref m, .int f] ∧ Fr C H m h g ns ps ∧ ps[f]? = some (some (p, ws)) ∧ ∀ l H', Same H H' → H l = none → H' l = some (.lst (ws.map V.int)) → Q (.ref l) H'
def spFill (C CP NF : Addr) : Sp := fun vs H Q E => ∃ (a m h g w : Addr) (ns ws : List Int) (ps : Pgs), vs = [.ref a, .ref w] ∧ Fr C H m h g ns ps ∧ Pf CP H a m ∧ H w = some (.lst (ws.map V.int)) ∧ ¬ Ow m h g ps w ∧ ws.length = 8 ∧ (∀ v ∈ ws, 0 ≤ v ∧ v < 281474976710656) ∧
  (∀ (j : Nat) (p : Addr) (H' : Hp), ns[j]? = some 0 → (∀ i, i < j → ns[i]? ≠ some 0) → H p = none → Keep2 h g H H' → Fr C H' m h g (ns.set j 1) (ps.set j (some (p, ws))) → Q (.int j) H') ∧ ((0 : Int) ∉ ns → E (.ref NF) none H)
def spPSize (CP : Addr) : Sp := fun vs H Q _ => ∃ (a e m : Addr) (G : Gs), vs = [.ref a] ∧ Pt CP H a e m G ∧ Q (.int G.length) H
def spFrame (CP : Addr) : Sp := fun vs H Q _ => ∃ (a e m : Addr) (G : Gs) (x : V), vs = [.ref a, x] ∧ Pt CP H a e m G ∧ Th H x ∧ Q (frV G x) H
def spThere (CP NP : Addr) : Sp := fun vs H Q E => ∃ (a e m : Addr) (G : Gs) (x : V), vs = [.ref a, x] ∧ Pt CP H a e m G ∧ Th H x ∧ (frV G x ≠ .non → Q .non H) ∧ (frV G x = .non → E (.ref NP) none H)
def spAlone (C CP NP NF : Addr) : Sp := fun vs H Q E => ∃ (a e m h g : Addr) (ns : List Int) (ps : Pgs) (G : Gs) (x : V), vs = [.ref a, x] ∧ Fr C H m h g ns ps ∧ Pt CP H a e m G ∧ ¬ Ow m h g ps e ∧ Th H x ∧ (frV G x = .non → E (.ref NP) none H) ∧
  ∀ (i f : Nat), x = .int i → G[i]? = some (some f) → (f < ns.length ∧ 0 < ns.getD f 0) ∧ (ns.getD f 0 = 1 → Q (.bl false) H) ∧
    (ns.getD f 0 ≠ 1 → (0 : Int) ∉ ns → ∀ H', Same H H' → E (.ref NF) none H') ∧
    (ns.getD f 0 ≠ 1 → ∀ (j : Nat) (p : Addr) (H' : Hp), ns[j]? = some 0 → (∀ i, i < j → ns[i]? ≠ some 0) → H p = none → (∀ b o, b ≠ h → b ≠ g → b ≠ e → H b = some o → H' b = some o) → Fr C H' m h g ((ns.set j 1).set f (ns.getD f 0 - 1)) (ps.set j (some (p, wdF ps f))) → Pt CP H' a e m (G.set i (some j)) → Q (.bl true) H')
def spLead (C CP NP NF : Addr) : Sp := fun vs H Q E => ∃ (a e m h g : Addr) (ns : List Int) (ps : Pgs) (G : Gs) (x y : V), vs = [.ref a, x, y] ∧ Fr C H m h g ns ps ∧ Pt CP H a e m G ∧ ¬ Ow m h g ps e ∧ Th H x ∧ Th H y ∧ (frV G x = .non → E (.ref NP) none H) ∧ (frV G x ≠ .non → hasF ns y = false → E (.ref NF) none H) ∧
  ∀ (i f t : Nat), x = .int i → G[i]? = some (some f) → y = .int t → hasF ns y = true → (f < ns.length ∧ 0 < ns.getD f 0) ∧ (f = t → Q .non H) ∧
    (f ≠ t → ∀ H' : Hp, (∀ b o, b ≠ h → b ≠ e → H b = some o → H' b = some o) → Fr C H' m h g ((ns.set t (ns.getD t 0 + 1)).set f (ns.getD f 0 - 1)) ps → Pt CP H' a e m (G.set i (some t)) → Q .non H')
def spGive (C CP NP : Addr) : Sp := fun vs H Q E => ∃ (a e m h g : Addr) (ns : List Int) (ps : Pgs) (G : Gs) (x : V), vs = [.ref a, x] ∧ Fr C H m h g ns ps ∧ Pt CP H a e m G ∧ ¬ Ow m h g ps e ∧ Th H x ∧ (frV G x = .non → E (.ref NP) none H) ∧
  ∀ (i f : Nat), x = .int i → G[i]? = some (some f) → (f < ns.length ∧ 0 < ns.getD f 0) ∧ ∀ H' : Hp, (∀ b o, b ≠ h → b ≠ e → H b = some o → H' b = some o) → Fr C H' m h g (ns.set f (ns.getD f 0 - 1)) ps → Pt CP H' a e m (G.set i none) → Q .non H'
def spFresh (C CP NP NF : Addr) : Sp := fun vs H Q E => ∃ (a e m h g : Addr) (ns : List Int) (ps : Pgs) (G : Gs) (x : V), vs = [.ref a, x] ∧ Fr C H m h g ns ps ∧ Pt CP H a e m G ∧ ¬ Ow m h g ps e ∧ Th H x ∧ ((below x G.length = false ∨ frV G x ≠ .non) → E (.ref NP) none H) ∧
  ∀ i : Nat, x = .int i → G[i]? = some none → ((0 : Int) ∉ ns → E (.ref NF) none H) ∧ ∀ (j : Nat) (p : Addr) (H' : Hp), ns[j]? = some 0 → (∀ i, i < j → ns[i]? ≠ some 0) → H p = none → (∀ b o, b ≠ h → b ≠ g → b ≠ e → H b = some o → H' b = some o) → Fr C H' m h g (ns.set j 1) (ps.set j (some (p, z8))) → Pt CP H' a e m (G.set i (some j)) → Q .non H'
def spPages (C CP : Addr) : Sp := fun vs H Q _ => ∃ (a e m h g : Addr) (ns : List Int) (ps : Pgs) (G : Gs), vs = [.ref a] ∧ Fr C H m h g ns ps ∧ Pt CP H a e m G ∧ G.length ≤ 1000 ∧ (∀ f, some f ∈ G → f < ns.length) ∧ ∀ D H' qs, Same H H' → Pg H' D qs → cont qs = ctF ps G → (∀ b, At D qs b → H b = none) → Q (.ref D) H'
section
variable {P : Program} {w : World} {K : PySem.W.Frag} {mg : Str → Option Value} {base : Heap} {C CP NF NP NL NW NI : Addr}
theorem list8_of {ws : List Int} (h : ws.length = 8) : [ws.getD 0 0, ws.getD 1 0, ws.getD 2 0, ws.getD 3 0, ws.getD 4 0, ws.getD 5 0, ws.getD 6 0, ws.getD 7 0] = ws := by
  match ws, h with
  | [_, _, _, _, _, _, _, _], _ => rfl
theorem scWo : FnScope ["self", "page"] ["self", "page"] (defScope sWords) := ⟨rfl, rfl, rfl, by decide +kernel, rfl, by decide +kernel, by decide +kernel⟩
theorem ndWo : (compN "cell" ["self", "page"]).Nodup := by decide +kernel
theorem dotWo : (".0" : Str) ∉ (["self", "page"] : List Str) := by decide +kernel
theorem ok_words {f f1 : Addr} {fd fd1 : FuncData} (F : Fun K "words_of" "Store.words_of" sWords f fd) (M1 : Me K C "word_at" "Frames.word_at" sWordAt ["self", "page", "cell"] f1 fd1) (GM1 : FnOk P w K mg base CX0 1 f1 fd1 ["self", "page", "cell"] (spWordAt C)) (S : Shf K mg C NF) (T : Txt K mg) : FnOk P w K mg base CX0 2 f fd ["self", "page"] (spWords C) := by
  obtain ⟨t1, m1⟩ := S.cells
  refine F.ok scWo (fun vs H Q E h' => ?_) (fun cdv A outer s H vs Q E hr h' => ?_)
  · obtain ⟨m, h, g, ns, ps, fr, p, ws, rfl, _⟩ := h'
    rfl
  · obtain ⟨m, h, g, ns, ps, fr, p, ws, rfl, W, e, q⟩ := h'
    have w8 : ws.length = 8 := (W.gd fr p ws e).1
    refine ⟨_, (pss_one (ps_ret (pe_comp (cl := [("self", s.heap.objs.size + 1), ("page", s.heap.objs.size + 1 + 1)]) (tc := tYes) (te := tMeth C "word_at" (spWordAt C) [] E0 (tVar 1) (tCons (tVar 2) (tCons (tVar 0) tNil))) rfl (pi_range1 (by rfl) T.rng (pa_cons (pe_glob (by rfl) m1 (show RelV (.int 8) (.int 8 t1) from ⟨_, rfl⟩)) pa_nil)) rfl (by repeat' (first | exact trivial | refine ⟨.inl ⟨.inr rfl, rfl⟩, ?_⟩ | refine ⟨.inl ⟨.inl rfl, rfl⟩, ?_⟩ | refine ⟨.inr (.inl ⟨by decide, by decide, by decide⟩), ?_⟩ | refine ⟨.inr (.inr ⟨rfl, by decide +kernel, by decide +kernel, rfl, rfl⟩), ?_⟩)) (show ClOk _ _ from ⟨rfl, rfl, trivial⟩) (fun C s₂ H₂ fp => .nil) (fun C s₂ H₂ fp => (pe_meth (pv 1) S.cl M1.m GM1 hr M1.b .nil pass0 (pa_cons (pv 2) (pa_cons (pv 0) pa_nil)))) ndWo (hdot := dotWo)))), ?_⟩
    refine ⟨8, rfl, by decide, by decide, comp_range (lo := 0) (n := 8) (fun D i ys H' => H D = none ∧ Same H H' ∧ ys = (List.range i).map (fun k => V.int (ws.getD k 0)) ∧ H' D = some (.lst ys)) ?_ ?_ ?_ ?_⟩
    · exact fun D hD => ⟨hD, same_new hD, rfl, upd_same⟩
    · rintro D i ys H' _ ⟨_, _, _, e⟩
      exact e
    · rintro D i ys H' hi ⟨hD, ss, rfl, e2⟩
      have ei : (0 : Int) + (i : Int) = (i : Int) := by omega
      rw [ei]
      have W2 := W.same ss
      obtain ⟨dx, fs, hm, fo⟩ := W2.ob
      refine iteT ⟨_, rfl, m, dx, fs, rfl, hm, fo.no _ (by decide +kernel) (by decide +kernel) (by decide +kernel), _, rfl, _, rfl, m, h, g, ns, ps, fr, i, p, ws, rfl, W2, e, hi, e2, (by rw [List.length_map, List.length_range]; exact Nat.lt_of_lt_of_le hi (by decide)), hD, ss.set hD, ?_, upd_same⟩
      rw [List.range_succ, List.map_append]
      rfl
    · rintro D ys H' ⟨hD, ss, rfl, e2⟩
      refine q D H' ss hD ?_
      rw [e2]
      have : (List.range 8).map (fun k => V.int (ws.getD k 0)) = ([ws.getD 0 0, ws.getD 1 0, ws.getD 2 0, ws.getD 3 0, ws.getD 4 0, ws.getD 5 0, ws.getD 6 0, ws.getD 7 0] : List Int).map V.int := rfl
      rw [this, list8_of w8]
theorem scFi : FnScope ["self", "words", "frame", "cell"] ["self", "words"] (defScope sFill) := ⟨rfl, rfl, rfl, by decide +kernel, rfl, by decide +kernel, by decide +kernel⟩
theorem ok_fill {f f1 f2 : Addr} {fd fd1 fd2 : FuncData} (F : Fun K "filled" "Parts.filled" sFill f fd) (M1 : Me K C "take" "Frames.take" sTake ["self"] f1 fd1) (GM1 : FnOk P w K mg base (CXr P w) 2 f1 fd1 ["self"] (spTake C NF))
    (M2 : Me K C "write" "Store.write" sWrite ["self", "page", "cell", "word"] f2 fd2) (GM2 : FnOk P w K mg base (CXr P w) 6 f2 fd2 ["self", "page", "cell", "word"] (spWrite C NP NL NW)) (S : Shf K mg C NF) (SP : Shp K CP) (T : Txt K mg) : FnOk P w K mg base (CXr P w) 7 f fd ["self", "words"] (spFill C CP NF) := by
  obtain ⟨t1, m1⟩ := S.cells
  refine F.okR scFi (fun vs H Q E h' => ?_) (fun cdv A outer s H vs Q E hr h' => ?_)
  · obtain ⟨a, m, h, g, wa, ns, ws, ps, rfl, _⟩ := h'
    rfl
  · obtain ⟨a, m, h, g, wa, ns, ws, ps, rfl, W, pf, hw, nw, w8, wb, q, ex⟩ := h'
    obtain ⟨dx, fs, ha, pfl, pno⟩ := pf
    obtain ⟨dm, fm, hm, fo⟩ := W.ob
    have hr2 : Room 2 _ := hr.mono (by decide)
    refine ⟨_, (pss_cons (ps_set (i := 2) scFi.nd rfl (Or.inl rfl) (pe_meth0 (pe_fld (pv 0) rfl) S.cl M1.m GM1 hr2 M1.b .nil passR)) (pss_cons (ps_for passesOwnR rfl (pi_range1 (by rfl) T.rng (pa_cons (pe_glob (by rfl) m1 (show RelV (.int 8) (.int 8 t1) from ⟨_, rfl⟩)) pa_nil)) (pg_name (i := 3) scFi.nd rfl (Or.inl rfl)) (pss_one (ps_expr (pe_meth (pe_fld (pv 0) rfl) S.cl M2.m GM2 hr M2.b .nil passX0 (pa_cons (pv 2) (pa_cons (pv 3) (pa_cons (pe_ix ix_list (pv 1) (pv 3) (fun _ _ => rfl)) pa_nil))))))) (pss_one (ps_ret (pv 2))))), ?_⟩
    refine ⟨_, rfl, a, CP, dx, fs, _, rfl, ha, SP.cl, SP.nf, pfl, m, dm, fm, rfl, hm, fo.no _ (by decide +kernel) (by decide +kernel) (by decide +kernel), m, h, g, ns, ps, rfl, W, fun j p H1 hj hno fp kp W1 => ?_, ex⟩
    have hjl : j < ns.length := (List.getElem?_eq_some_iff.mp hj).1
    have hjp : j < ps.length := by rw [W.ln]; exact hjl
    have ah : a ≠ h := ne_of ha W.ho (by intro z; cases z)
    have ag : a ≠ g := ne_of ha W.sh.top (by intro z; cases z)
    have wh : wa ≠ h := fun z => nw (.inr (.inl z))
    have wg : wa ≠ g := fun z => nw (.inr (.inr (.inl z)))
    refine ⟨8, rfl, by decide, by decide, ?_⟩
    refine for_range (lo := 0) (n := 8) (fun i σ H' => (∃ v, σ = [some (.ref a), some (.ref wa), some (.int j), v]) ∧ Keep2 h g H H' ∧ ∃ us : List Int, us.length = 8 ∧ (∀ k, k < i → us[k]? = ws[k]?) ∧ Fr C H' m h g (ns.set j 1) (ps.set j (some (p, us)))) ?_ ?_ ?_
    · exact ⟨⟨_, rfl⟩, kp, z8, rfl, fun k hk => absurd hk (Nat.not_lt_zero _), W1⟩
    · rintro i σ H' hi ⟨⟨v, rfl⟩, k2, us, u8, ug, W2⟩
      have ei : (0 : Int) + (i : Int) = (i : Int) := by omega
      rw [ei]
      obtain ⟨dm2, fm2, hm2, fo⟩ := W2.ob
      have hpj : (ps.set j (some (p, us)))[j]? = some (some (p, us)) := List.getElem?_set_self hjp
      have hf : hasF (ns.set j 1) (.int j) = true := by
        rw [hasF_of (by rw [List.length_set]; exact hjl), List.getD_eq_getElem?_getD, List.getElem?_set_self hjl]
        rfl
      obtain ⟨v0, v1⟩ := wb (ws.getD i 0) (L2.getD_mem (by omega))
      refine ⟨_, rfl, a, CP, dx, fs, _, rfl, k2 _ _ ah ag ha, SP.cl, SP.nf, pfl, m, dm2, fm2, rfl, hm2, fo.no _ (by decide +kernel) (by decide +kernel) (by decide +kernel), _, rfl, _, rfl, _, rfl, _, rfl, wa, _, _, _, rfl, rfl, SqL.of (k2 _ _ wh wg hw), atI_word (by omega), m, h, g, _, _, _, _, _, rfl, W2, .int _, .int _, .int _, fun i' j' v' p' ws' H3 ex ey ez e _ hj' _ _ bt W3 => ?_, (fun z => by rw [hf] at z; cases z), (fun _ z => by rw [below_of (by omega) (by omega)] at z; cases z), (fun _ _ z => by rw [below_of v0 v1] at z; cases z)⟩
      have e1 : j = i' := (by { have := V.int.inj ex; omega })
      have e2 : i = j' := (by { have := V.int.inj ey; omega })
      have e3 : ws.getD i 0 = v' := V.int.inj ez
      subst e1 e2 e3
      have e4 := Option.some.inj (Option.some.inj (hpj.symm.trans e))
      have ep : p = p' := congrArg Prod.fst e4
      subst ep
      have es : setW (ps.set j (some (p, us))) j i (ws.getD i 0) = ps.set j (some (p, us.set i (ws.getD i 0))) := by
        rw [setW_at hpj, List.set_set]
      rw [es] at W3
      refine ⟨⟨_, rfl⟩, fun b o x1 x2 x3 => bt b o (ne_of_none x3 fp) (k2 b o x1 x2 x3), us.set i (ws.getD i 0), by rw [List.length_set]; exact u8, fun k hk => ?_, W3⟩
      by_cases z : i = k
      · subst z
        rw [List.getElem?_set_self (by omega), List.getD_eq_getElem?_getD, List.getElem?_eq_getElem (show i < ws.length by omega)]
        rfl
      · rw [List.getElem?_set_ne z]
        exact ug k (by omega)
    · rintro σ H' ⟨⟨v, rfl⟩, k2, us, u8, ug, W2⟩
      have : us = ws := by
        refine List.ext_getElem? fun k => ?_
        by_cases hk : k < 8
        · exact ug k hk
        · rw [List.getElem?_eq_none (by omega), List.getElem?_eq_none (by omega)]
      subst this
      exact ⟨_, rfl, q j p H' hj hno fp k2 W2⟩
theorem scPz : FnScope ["self"] ["self"] (defScope sPSize) := ⟨rfl, rfl, rfl, by decide +kernel, rfl, by decide +kernel, by decide +kernel⟩
theorem ok_psize {f : Addr} {fd : FuncData} (F : Fun K "size" "Parts.size" sPSize f fd) (SP : Shp K CP) (T : Txt K mg) : FnOk P w K mg base CX0 1 f fd ["self"] (spPSize CP) := by
  refine F.ok scPz (fun vs H Q E h' => ?_) (fun cdv A outer s H vs Q E hr h' => ?_)
  · obtain ⟨a, e, m, G, rfl, _⟩ := h'
    rfl
  · obtain ⟨a, e, m, G, rfl, p, q⟩ := h'
    obtain ⟨dx, fs, ha, pfl, pgo, pno⟩ := p.ob
    refine ⟨_, (pss_one (ps_ret (pe_callB call_len_seq (by rfl) T.len PySem.boot_len (pa_cons (pe_fld (pv 0) rfl) pa_nil)))), ?_⟩
    refine ⟨_, rfl, a, CP, dx, fs, _, rfl, ha, SP.cl, SP.ng, pgo, e, _, rfl, .inl (SqL.of p.go), ?_⟩
    rw [List.length_map]
    exact q
theorem scFm : FnScope ["self", "page"] ["self", "page"] (defScope sFrame) := ⟨rfl, rfl, rfl, by decide +kernel, rfl, by decide +kernel, by decide +kernel⟩
theorem ok_frame {f f1 f2 : Addr} {fd fd1 fd2 : FuncData} (F : Fun K "frame" "Parts.frame" sFrame f fd) (B : Dn K mg "is_below" sBelow ["thing", "bound"] f1 fd1) (GB : FnOk P w K mg base CX0 2 f1 fd1 ["thing", "bound"] spBelow) (M1 : Me K CP "size" "Parts.size" sPSize ["self"] f2 fd2) (GM1 : FnOk P w K mg base CX0 1 f2 fd2 ["self"] (spPSize CP)) (SP : Shp K CP) : FnOk P w K mg base CX0 3 f fd ["self", "page"] (spFrame CP) := by
  refine F.ok scFm (fun vs H Q E h' => ?_) (fun cdv A outer s H vs Q E hr h' => ?_)
  · obtain ⟨a, e, m, G, x, rfl, _⟩ := h'
    rfl
  · obtain ⟨a, e, m, G, x, rfl, p, th, q⟩ := h'
    obtain ⟨dx, fs, ha, pfl, pgo, pno⟩ := p.ob
    have hr1 : Room 1 _ := hr.mono (by decide)
    refine ⟨_, (pss_one (ps_ret (pe_ifExp (pt_val (pe_call GB hr (by rfl) B.m B.F.kp B.b .nil pass0 (pa_cons (pv 1) (pa_cons (pe_meth0 (pv 0) SP.cl M1.m GM1 hr1 M1.b .nil pass0) pa_nil)))) (pe_ix ix_list (pe_fld (pv 0) rfl) (pv 1) (fun _ _ => rfl)) pe_non))), ?_⟩
    refine ⟨_, rfl, _, rfl, a, dx, fs, rfl, ha, pno _ (by decide +kernel) (by decide +kernel), a, e, m, G, rfl, p, x, _, rfl, th, _, rfl, ?_⟩
    cases hb : below x (G.length : Int) with
    | false =>
      rw [frV_below hb] at q
      exact iteF q
    | true =>
      obtain ⟨i, rfl, h0, h1⟩ := below_int hb
      obtain ⟨j, rfl⟩ : ∃ j : Nat, i = (j : Int) := ⟨i.toNat, by omega⟩
      have hj : j < G.length := by omega
      have eg : G[j]? = some (G.getD j none) := by rw [List.getD_eq_getElem?_getD, List.getElem?_eq_getElem hj]; rfl
      rw [frV_nat hj] at q
      exact iteT ⟨_, rfl, a, CP, dx, fs, _, rfl, ha, SP.cl, SP.ng, pgo, _, rfl, e, _, _, _, rfl, rfl, SqL.of p.go, atI_go eg, q⟩
theorem scCt : FnScope ["self", "page"] ["self", "page"] (defScope sThere) := ⟨rfl, rfl, rfl, by decide +kernel, rfl, by decide +kernel, by decide +kernel⟩
theorem ok_there {f f1 : Addr} {fd fd1 : FuncData} (F : Fun K "check_there" "Parts.check_there" sThere f fd) (M1 : Me K CP "frame" "Parts.frame" sFrame ["self", "page"] f1 fd1) (GM1 : FnOk P w K mg base CX0 3 f1 fd1 ["self", "page"] (spFrame CP)) (SP : Shp K CP) (Z : Sto K mg NP NL NW) : FnOk P w K mg base (CXr P w) 4 f fd ["self", "page"] (spThere CP NP) := by
  refine F.okR scCt (fun vs H Q E h' => ?_) (fun cdv A outer s H vs Q E hr h' => ?_)
  · obtain ⟨a, e, m, G, x, rfl, _⟩ := h'
    rfl
  · obtain ⟨a, e, m, G, x, rfl, p, th, q, ex⟩ := h'
    obtain ⟨dx, fs, ha, pfl, pgo, pno⟩ := p.ob
    refine ⟨_, (pss_one (ps_if (pt_cmpR op_isN (pe_meth (pv 0) SP.cl M1.m GM1 hr M1.b .nil pass0 (pa_cons (pv 1) pa_nil)) pe_non (nomark _)) (pss_one (ps_raise Z.xp Z.np raisesR rfl (pa_cons pe_str pa_nil))) pss_nil)), ?_⟩
    refine ⟨_, rfl, a, dx, fs, rfl, ha, pno _ (by decide +kernel) (by decide +kernel), _, rfl, a, e, m, G, x, rfl, p, th, rfl, _, rfl, ?_⟩
    by_cases hv : frV G x = .non
    · exact iteTS (decide_eq_true hv) ⟨by decide, ex hv⟩
    · exact iteFS (decide_eq_false hv) (q hv)
theorem scAl : FnScope ["self", "page", "shared"] ["self", "page"] (defScope sAlone) := ⟨rfl, rfl, rfl, by decide +kernel, rfl, by decide +kernel, by decide +kernel⟩
theorem ok_alone {f f1 f2 f3 f4 f5 : Addr} {fd fd1 fd2 fd3 fd4 fd5 : FuncData} (F : Fun K "alone" "Parts.alone" sAlone f fd) (M1 : Me K CP "check_there" "Parts.check_there" sThere ["self", "page"] f1 fd1) (GM1 : FnOk P w K mg base (CXr P w) 4 f1 fd1 ["self", "page"] (spThere CP NP))
    (M2 : Me K C "owners" "Frames.owners" sOwn ["self", "frame"] f2 fd2) (GM2 : FnOk P w K mg base CX0 4 f2 fd2 ["self", "frame"] (spOwn C)) (M3 : Me K CP "filled" "Parts.filled" sFill ["self", "words"] f3 fd3) (GM3 : FnOk P w K mg base (CXr P w) 7 f3 fd3 ["self", "words"] (spFill C CP NF))
    (M4 : Me K C "words_of" "Store.words_of" sWords ["self", "page"] f4 fd4) (GM4 : FnOk P w K mg base CX0 2 f4 fd4 ["self", "page"] (spWords C)) (M5 : Me K C "drop" "Frames.drop" sDrop ["self", "frame"] f5 fd5) (GM5 : FnOk P w K mg base (CXr P w) 5 f5 fd5 ["self", "frame"] (spMv C NF (-1))) (S : Shf K mg C NF) (SP : Shp K CP) : FnOk P w K mg base (CXr P w) 8 f fd ["self", "page"] (spAlone C CP NP NF) := by
  refine F.okR scAl (fun vs H Q E h' => ?_) (fun cdv A outer s H vs Q E hr h' => ?_)
  · obtain ⟨a, e, m, h, g, ns, ps, G, x, rfl, _⟩ := h'
    rfl
  · obtain ⟨a, e, m, h, g, ns, ps, G, x, rfl, W, p, ne, th, ex, k⟩ := h'
    obtain ⟨dx, fs, ha, pfl, pgo, pno⟩ := p.ob
    obtain ⟨dm, fm, hm, fo⟩ := W.ob
    have hr2 : Room 2 _ := hr.mono (by decide)
    have hr4 : Room 4 _ := hr.mono (by decide)
    have hr5 : Room 5 _ := hr.mono (by decide)
    refine ⟨_, (pss_cons (ps_expr (pe_meth (pv 0) SP.cl M1.m GM1 hr4 M1.b .nil passR (pa_cons (pv 1) pa_nil))) (pss_cons (ps_set (i := 2) scAl.nd rfl (Or.inl rfl) (pe_ix ix_list (pe_fld (pv 0) rfl) (pv 1) (fun _ _ => rfl))) (pss_cons (ps_if (pt_cmpR op_eq (pe_meth (pe_fld (pv 0) rfl) S.cl M2.m GM2 hr4 M2.b .nil pass0 (pa_cons (pv 2) pa_nil)) pe_int (nomark _)) (pss_one (ps_ret pe_bl)) pss_nil) (pss_cons (ps_asg (pe_meth (pv 0) SP.cl M3.m GM3 hr M3.b .nil passR (pa_cons (pe_meth (pe_fld (pv 0) rfl) S.cl M4.m GM4 hr2 M4.b .nil pass0 (pa_cons (pv 2) pa_nil)) pa_nil)) (pg_sub (pe_fld (pv 0) rfl) (pv 1) set_list)) (pss_cons (ps_expr (pe_meth (pe_fld (pv 0) rfl) S.cl M5.m GM5 hr5 M5.b .nil passX0 (pa_cons (pv 2) pa_nil))) (pss_one (ps_ret pe_bl))))))), ?_⟩
    refine ⟨_, rfl, a, dx, fs, rfl, ha, pno _ (by decide +kernel) (by decide +kernel), _, rfl, a, e, m, G, x, rfl, p, th, fun hv => ?_, ex⟩
    obtain ⟨i, t, rfl, hi⟩ := frV_some hv
    obtain ⟨⟨hf, hf0⟩, k1, k2, k3⟩ := k i t rfl hi
    refine ⟨_, rfl, a, CP, dx, fs, _, rfl, ha, SP.cl, SP.ng, pgo, _, rfl, e, _, _, _, rfl, rfl, SqL.of p.go, atI_go hi, ?_⟩
    refine ⟨_, rfl, a, CP, dx, fs, _, rfl, ha, SP.cl, SP.nf, pfl, m, dm, fm, rfl, hm, fo.no _ (by decide +kernel) (by decide +kernel) (by decide +kernel), _, rfl, m, h, g, ns, ps, _, rfl, W, .int _, rfl, _, rfl, ?_⟩
    rw [show own ns (goV (some t)) = ns.getD t 0 from own_nat hf]
    by_cases h1 : ns.getD t 0 = 1
    · exact iteTS (by rw [h1, decide_eq_true rfl]) (k1 h1)
    refine iteFS (decide_eq_false fun z => h1 (V.int.inj z)) ?_
    obtain ⟨pt, wt, et⟩ := W.al t (by rw [W.ln]; exact hf)
    refine ⟨_, rfl, a, dx, fs, rfl, ha, pno _ (by decide +kernel) (by decide +kernel), _, rfl, a, CP, dx, fs, _, rfl, ha, SP.cl, SP.nf, pfl, m, dm, fm, rfl, hm, fo.no _ (by decide +kernel) (by decide +kernel) (by decide +kernel), _, rfl, m, h, g, ns, ps, t, pt, wt, rfl, W, et, fun l H1 s1 fl hl => ?_⟩
    have W1 := W.same s1
    have nl : ¬ Ow m h g ps l := fun hb => by
      rcases hb with z | z | z
      · rw [z, hm] at fl; cases fl
      · rw [z, W.ho] at fl; cases fl
      · obtain ⟨xs, y⟩ := z.lst W.sh
        rw [y] at fl; cases fl
    refine ⟨a, m, h, g, l, ns, wt, ps, rfl, W1, p.pf.same s1, hl, nl, (W.gd t pt wt et).1, (W.gd t pt wt et).2, fun j pj H2 hj hno fp kp W2 => ?_, fun z => k2 h1 z H1 s1⟩
    have hjl : j < ns.length := (List.getElem?_eq_some_iff.mp hj).1
    have hjt : j ≠ t := fun z => by
      rw [z, show ns[t]? = some (ns.getD t 0) by rw [List.getD_eq_getElem?_getD, List.getElem?_eq_getElem hf]; rfl] at hj
      have := Option.some.inj hj
      omega
    have ah : a ≠ h := ne_of ha W.ho (by intro z; cases z)
    have ag : a ≠ g := ne_of ha W.sh.top (by intro z; cases z)
    have eh : e ≠ h := fun z => ne (.inr (.inl z))
    have eg : e ≠ g := fun z => ne (.inr (.inr (.inl z)))
    have ha2 := kp _ _ ah ag (s1 _ _ ha)
    have he2 := kp _ _ eh eg (s1 _ _ p.go)
    refine ⟨_, rfl, a, CP, dx, fs, _, rfl, ha2, SP.cl, SP.ng, pgo, _, rfl, e, _, _, i, rfl, rfl, he2, (by rw [List.length_map]; exact ixN_nat (getG hi).1), ?_⟩
    rw [show (G.map goV).set i (V.int (j : Int)) = (G.set i (some j)).map goV by rw [List.map_set]; rfl]
    have ae : a ≠ e := ne_of ha p.go (by intro z; cases z)
    have neo : ∀ b, Ow m h g (ps.set j (some (pj, wt))) b → b ≠ e := fun b hb z => by
      rcases hb with y | y | y
      · exact ne (.inl (z ▸ y))
      · exact ne (.inr (.inl (z ▸ y)))
      · rcases y.put with y | ⟨ws, y⟩
        · exact ne (.inr (.inr (z ▸ y)))
        · cases y
          rw [z] at fp
          rw [s1 _ _ p.go] at fp
          cases fp
    have W3 : Fr C (upd H2 e (.lst ((G.set i (some j)).map goV))) m h g (ns.set j 1) (ps.set j (some (pj, wt))) := W2.keep fun b hb => upd_ne (neo b hb)
    have P2 : Pt CP H2 a e m G := ⟨⟨dx, fs, ha2, pfl, pgo, pno⟩, he2⟩
    have P3 := P2.set (G.set i (some j))
    obtain ⟨dm3, fm3, hm3, fo⟩ := W3.ob
    obtain ⟨dx3, fs3, ha3, pfl3, pgo3, pno3⟩ := P3.ob
    have tl : t < (ns.set j 1).length := by rw [List.length_set]; exact hf
    have tg : (ns.set j 1).getD t 0 = ns.getD t 0 := by rw [List.getD_eq_getElem?_getD, List.getElem?_set_ne hjt, List.getD_eq_getElem?_getD]
    refine ⟨_, rfl, a, CP, dx3, fs3, _, rfl, ha3, SP.cl, SP.nf, pfl3, m, dm3, fm3, rfl, hm3, fo.no _ (by decide +kernel) (by decide +kernel) (by decide +kernel), _, rfl, m, h, g, _, _, _, rfl, W3, .int _, fun t2 H4 ext ht2 hp2 bt W4 => ?_, fun z => ?_⟩
    · have e1 : t = t2 := (by { have := V.int.inj ext; omega })
      subst e1
      rw [tg] at W4
      refine k3 h1 j pj H4 hj hno (s1.free fp) (fun b o x1 x2 x3 x4 => bt b o x1 (by rw [upd_ne x3]; exact kp b o x1 x2 (s1 _ _ x4))) ?_ (P3.kept fun b u hb x => bt b u (fun z => ?_) x)
      · rw [wdF_of et]
        exact W4
      · rcases hb with y | y
        · exact ah (y ▸ z)
        · exact eh (y ▸ z)
    · rw [show hasF (ns.set j 1) (goV (some t)) = decide (0 < (ns.set j 1).getD t 0) from hasF_of tl, tg, decide_eq_true hf0] at z
      cases z
end
end K44

end
section
set_option Elab.async false
set_option linter.all false
set_option maxRecDepth 100000
set_option maxHeartbeats 4000000
namespace K44
open PySem L2
def spPInit (C CP : Addr) : Sp := fun vs H Q _ => ∃ (a dx m h g pl : Addr) (ns : List Int) (ps qs : Pgs), vs = [.ref a, .ref m, .ref pl] ∧ H a = some (.ins CP dx []) ∧ Fr C H m h g ns ps ∧ Pg H pl qs ∧ Good qs ∧ 1 ≤ qs.length ∧ qs.length ≤ 24 ∧ (∀ b, At pl qs b → ¬ Ow m h g ps b) ∧ qs.countP Option.isSome ≤ ns.count 0 ∧
  ∀ (e : Addr) (H' : Hp) (ns' : List Int) (ps' : Pgs) (G : Gs), (∀ b o, b ≠ a → b ≠ h → b ≠ g → H b = some o → H' b = some o) → H e = none → Fr C H' m h g ns' ps' → ¬ Ow m h g ps' e → (∀ b, Ow m h g ps' b → Ow m h g ps b ∨ H b = none) → Pt CP H' a e m G → ctF ps' G = cont qs → ns'.length = ns.length →
    (∀ f, ns'.getD f 0 = ns.getD f 0 + (G.count (some f) : Nat)) → (∀ f, some f ∈ G → f < ns.length) → (∀ f, 0 < ns.getD f 0 → wdF ps' f = wdF ps f) → (∀ f, G.count (some f) ≤ 1) → (∀ (k t : Nat), G[k]? = some (some t) → (ns.getD t 0 + ((G.take k).count (some t) : Nat) = 0 ∧ ∀ t', t' < t → 0 < ns.getD t' 0 + ((G.take k).count (some t') : Nat))) → Q .non H'
theorem count_set0 {ns : List Int} {j : Nat} (h : ns[j]? = some 0) : (ns.set j 1).count 0 + 1 = ns.count 0 := by
  obtain ⟨hj, he⟩ := List.getElem?_eq_some_iff.mp h
  have hc : 0 < ns.count 0 := List.count_pos_iff.mpr (List.mem_of_getElem? h)
  rw [List.count_set hj, he]
  simp
  omega
theorem getD_set1 {ns : List Int} {j f : Nat} {v : Int} (h : j < ns.length) : (ns.set j v).getD f 0 = if j = f then v else ns.getD f 0 := by
  split
  · rename_i z
    subst z
    rw [List.getD_eq_getElem?_getD, List.getElem?_set_self h]
    rfl
  · rename_i z
    rw [List.getD_eq_getElem?_getD, List.getElem?_set_ne z, List.getD_eq_getElem?_getD]
section
variable {P : Program} {w : World} {K : PySem.W.Frag} {mg : Str → Option Value} {base : Heap} {C CP NF NP NL NW NI : Addr}
theorem getT {ns : List Int} {f : Nat} (h : f < ns.length) : ns[f]? = some (ns.getD f 0) := by
  rw [List.getD_eq_getElem?_getD, List.getElem?_eq_getElem h]
  rfl
theorem scLe : FnScope ["self", "page", "frame", "ahead"] ["self", "page", "frame"] (defScope sLead) := ⟨rfl, rfl, rfl, by decide +kernel, rfl, by decide +kernel, by decide +kernel⟩
theorem ok_lead {f f1 f2 f3 f4 : Addr} {fd fd1 fd2 fd3 fd4 : FuncData} (F : Fun K "lead" "Parts.lead" sLead f fd) (M1 : Me K CP "check_there" "Parts.check_there" sThere ["self", "page"] f1 fd1) (GM1 : FnOk P w K mg base (CXr P w) 4 f1 fd1 ["self", "page"] (spThere CP NP))
    (M2 : Me K C "check_taken" "Frames.check_taken" sChk ["self", "frame"] f2 fd2) (GM2 : FnOk P w K mg base (CXr P w) 4 f2 fd2 ["self", "frame"] (spChk C NF)) (M3 : Me K C "share" "Frames.share" sShare ["self", "frame"] f3 fd3) (GM3 : FnOk P w K mg base (CXr P w) 5 f3 fd3 ["self", "frame"] (spMv C NF 1))
    (M4 : Me K C "drop" "Frames.drop" sDrop ["self", "frame"] f4 fd4) (GM4 : FnOk P w K mg base (CXr P w) 5 f4 fd4 ["self", "frame"] (spMv C NF (-1))) (S : Shf K mg C NF) (SP : Shp K CP) : FnOk P w K mg base (CXr P w) 6 f fd ["self", "page", "frame"] (spLead C CP NP NF) := by
  refine F.okR scLe (fun vs H Q E h' => ?_) (fun cdv A outer s H vs Q E hr h' => ?_)
  · obtain ⟨a, e, m, h, g, ns, ps, G, x, y, rfl, _⟩ := h'
    rfl
  · obtain ⟨a, e, m, h, g, ns, ps, G, x, y, rfl, W, p, ne, th, ty, ex, ex2, k⟩ := h'
    obtain ⟨dx, fs, ha, pfl, pgo, pno⟩ := p.ob
    obtain ⟨dm, fm, hm, fo⟩ := W.ob
    have hr4 : Room 4 _ := hr.mono (by decide)
    refine ⟨_, (pss_cons (ps_expr (pe_meth (pv 0) SP.cl M1.m GM1 hr4 M1.b .nil passR (pa_cons (pv 1) pa_nil))) (pss_cons (ps_expr (pe_meth (pe_fld (pv 0) rfl) S.cl M2.m GM2 hr4 M2.b .nil passR (pa_cons (pv 2) pa_nil))) (pss_cons (ps_set (i := 3) scLe.nd rfl (Or.inl rfl) (pe_ix ix_list (pe_fld (pv 0) rfl) (pv 1) (fun _ _ => rfl))) (pss_one (ps_if (pt_cmpR op_ne (pv 3) (pv 2) (nomark _)) (pss_cons (ps_expr (pe_meth (pe_fld (pv 0) rfl) S.cl M3.m GM3 hr M3.b .nil passX0 (pa_cons (pv 2) pa_nil))) (pss_cons (ps_expr (pe_meth (pe_fld (pv 0) rfl) S.cl M4.m GM4 hr M4.b .nil passX0 (pa_cons (pv 3) pa_nil))) (pss_one (ps_asg (pv 2) (pg_sub (pe_fld (pv 0) rfl) (pv 1) set_list))))) pss_nil))))), ?_⟩
    refine ⟨_, rfl, a, dx, fs, rfl, ha, pno _ (by decide +kernel) (by decide +kernel), _, rfl, a, e, m, G, x, rfl, p, th, fun hv => ?_, ex⟩
    refine ⟨_, rfl, a, CP, dx, fs, _, rfl, ha, SP.cl, SP.nf, pfl, m, dm, fm, rfl, hm, fo.no _ (by decide +kernel) (by decide +kernel) (by decide +kernel), _, rfl, m, h, g, ns, ps, y, rfl, W, ty, fun hy => ?_, fun z => ex2 hv z⟩
    obtain ⟨i, t, rfl, hi⟩ := frV_some hv
    obtain ⟨u, rfl, hu, hu0⟩ := hasF_nat hy
    obtain ⟨⟨hf, hf0⟩, k1, k2⟩ := k i t u rfl hi rfl hy
    refine ⟨_, rfl, a, CP, dx, fs, _, rfl, ha, SP.cl, SP.ng, pgo, _, rfl, e, _, _, _, rfl, rfl, SqL.of p.go, atI_go hi, ?_⟩
    refine ⟨_, rfl, _, rfl, rfl, _, rfl, ?_⟩
    by_cases htu : t = u
    · exact iteFS (by subst htu; show (!decide (V.int (t : Int) = V.int (t : Int))) = false; rw [decide_eq_true rfl]; rfl) (k1 htu)
    refine iteTS (by show (!decide (V.int (t : Int) = V.int (u : Int))) = true; rw [decide_eq_false (fun z => htu (by have := V.int.inj z; omega))]; rfl) ?_
    have ah : a ≠ h := ne_of ha W.ho (by intro z; cases z)
    have eh : e ≠ h := fun z => ne (.inr (.inl z))
    refine ⟨_, rfl, a, CP, dx, fs, _, rfl, ha, SP.cl, SP.nf, pfl, m, dm, fm, rfl, hm, fo.no _ (by decide +kernel) (by decide +kernel) (by decide +kernel), _, rfl, m, h, g, ns, ps, _, rfl, W, .int _, fun u2 H1 eu hu2 hp2 bt W1 => ?_, fun z => by rw [hy] at z; cases z⟩
    have e1 : u = u2 := (by { have := V.int.inj eu; omega })
    subst e1
    have ha1 := bt _ _ ah ha
    have he1 := bt _ _ eh p.go
    obtain ⟨dm1, fm1, hm1, fo⟩ := W1.ob
    have tl : t < (ns.set u (ns.getD u 0 + 1)).length := by rw [List.length_set]; exact hf
    have tg : (ns.set u (ns.getD u 0 + 1)).getD t 0 = ns.getD t 0 := by rw [getD_set1 hu, if_neg (fun z => htu z.symm)]
    refine ⟨_, rfl, a, CP, dx, fs, _, rfl, ha1, SP.cl, SP.nf, pfl, m, dm1, fm1, rfl, hm1, fo.no _ (by decide +kernel) (by decide +kernel) (by decide +kernel), _, rfl, m, h, g, _, ps, _, rfl, W1, .int _, fun t2 H2 et ht2 hp3 bt2 W2 => ?_, fun z => ?_⟩
    · have e2 : t = t2 := (by { have := V.int.inj et; omega })
      subst e2
      rw [tg] at W2
      have ha2 := bt2 _ _ ah ha1
      have he2 := bt2 _ _ eh he1
      refine ⟨_, rfl, _, rfl, a, CP, dx, fs, _, rfl, ha2, SP.cl, SP.ng, pgo, _, rfl, e, _, _, i, rfl, rfl, he2, (by rw [List.length_map]; exact ixN_nat (getG hi).1), ?_⟩
      rw [show (G.map goV).set i (V.int (u : Int)) = (G.set i (some u)).map goV by rw [List.map_set]; rfl]
      have P2 : Pt CP H2 a e m G := ⟨⟨dx, fs, ha2, pfl, pgo, pno⟩, he2⟩
      exact k2 htu _ (fun b o x1 x2 x3 => by rw [upd_ne x2]; exact bt2 b o x1 (bt b o x1 x3)) (W2.keep fun b hb => upd_ne (fun z => ne (z ▸ hb))) (P2.set _)
    · rw [show hasF (ns.set u (ns.getD u 0 + 1)) (goV (some t)) = decide (0 < (ns.set u (ns.getD u 0 + 1)).getD t 0) from hasF_of tl, tg, decide_eq_true hf0] at z
      cases z
theorem scGi : FnScope ["self", "page"] ["self", "page"] (defScope sGive) := ⟨rfl, rfl, rfl, by decide +kernel, rfl, by decide +kernel, by decide +kernel⟩
theorem ok_give {f f1 f4 : Addr} {fd fd1 fd4 : FuncData} (F : Fun K "give" "Parts.give" sGive f fd) (M1 : Me K CP "check_there" "Parts.check_there" sThere ["self", "page"] f1 fd1) (GM1 : FnOk P w K mg base (CXr P w) 4 f1 fd1 ["self", "page"] (spThere CP NP))
    (M4 : Me K C "drop" "Frames.drop" sDrop ["self", "frame"] f4 fd4) (GM4 : FnOk P w K mg base (CXr P w) 5 f4 fd4 ["self", "frame"] (spMv C NF (-1))) (S : Shf K mg C NF) (SP : Shp K CP) : FnOk P w K mg base (CXr P w) 6 f fd ["self", "page"] (spGive C CP NP) := by
  refine F.okR scGi (fun vs H Q E h' => ?_) (fun cdv A outer s H vs Q E hr h' => ?_)
  · obtain ⟨a, e, m, h, g, ns, ps, G, x, rfl, _⟩ := h'
    rfl
  · obtain ⟨a, e, m, h, g, ns, ps, G, x, rfl, W, p, ne, th, ex, k⟩ := h'
    obtain ⟨dx, fs, ha, pfl, pgo, pno⟩ := p.ob
    obtain ⟨dm, fm, hm, fo⟩ := W.ob
    have hr4 : Room 4 _ := hr.mono (by decide)
    refine ⟨_, (pss_cons (ps_expr (pe_meth (pv 0) SP.cl M1.m GM1 hr4 M1.b .nil passR (pa_cons (pv 1) pa_nil))) (pss_cons (ps_expr (pe_meth (pe_fld (pv 0) rfl) S.cl M4.m GM4 hr M4.b .nil passX0 (pa_cons (pe_ix ix_list (pe_fld (pv 0) rfl) (pv 1) (fun _ _ => rfl)) pa_nil))) (pss_one (ps_asg pe_non (pg_sub (pe_fld (pv 0) rfl) (pv 1) set_list))))), ?_⟩
    refine ⟨_, rfl, a, dx, fs, rfl, ha, pno _ (by decide +kernel) (by decide +kernel), _, rfl, a, e, m, G, x, rfl, p, th, fun hv => ?_, ex⟩
    obtain ⟨i, t, rfl, hi⟩ := frV_some hv
    obtain ⟨⟨hf, hf0⟩, k1⟩ := k i t rfl hi
    have ah : a ≠ h := ne_of ha W.ho (by intro z; cases z)
    have eh : e ≠ h := fun z => ne (.inr (.inl z))
    refine ⟨_, rfl, a, CP, dx, fs, _, rfl, ha, SP.cl, SP.nf, pfl, m, dm, fm, rfl, hm, fo.no _ (by decide +kernel) (by decide +kernel) (by decide +kernel), _, rfl, a, CP, dx, fs, _, rfl, ha, SP.cl, SP.ng, pgo, _, rfl, e, _, _, _, rfl, rfl, SqL.of p.go, atI_go hi, m, h, g, ns, ps, _, rfl, W, .int _, fun t2 H2 et ht2 hp3 bt2 W2 => ?_, fun z => ?_⟩
    · have e2 : t = t2 := (by { have := V.int.inj et; omega })
      subst e2
      have ha2 := bt2 _ _ ah ha
      have he2 := bt2 _ _ eh p.go
      refine ⟨_, rfl, a, CP, dx, fs, _, rfl, ha2, SP.cl, SP.ng, pgo, _, rfl, e, _, _, i, rfl, rfl, he2, (by rw [List.length_map]; exact ixN_nat (getG hi).1), ?_⟩
      rw [show (G.map goV).set i V.non = (G.set i none).map goV by rw [List.map_set]; rfl]
      have P2 : Pt CP H2 a e m G := ⟨⟨dx, fs, ha2, pfl, pgo, pno⟩, he2⟩
      exact k1 _ (fun b o x1 x2 x3 => by rw [upd_ne x2]; exact bt2 b o x1 x3) (W2.keep fun b hb => upd_ne (fun z => ne (z ▸ hb))) (P2.set _)
    · rw [show hasF ns (goV (some t)) = decide (0 < ns.getD t 0) from hasF_of hf, decide_eq_true hf0] at z
      cases z
theorem scFs : FnScope ["self", "page"] ["self", "page"] (defScope sFresh) := ⟨rfl, rfl, rfl, by decide +kernel, rfl, by decide +kernel, by decide +kernel⟩
theorem ok_fresh {f f1 f2 f3 : Addr} {fd fd1 fd2 fd3 : FuncData} (F : Fun K "fresh" "Parts.fresh" sFresh f fd) (B : Dn K mg "is_below" sBelow ["thing", "bound"] f1 fd1) (GB : FnOk P w K mg base CX0 2 f1 fd1 ["thing", "bound"] spBelow) (M1 : Me K CP "size" "Parts.size" sPSize ["self"] f2 fd2) (GM1 : FnOk P w K mg base CX0 1 f2 fd2 ["self"] (spPSize CP))
    (M2 : Me K C "take" "Frames.take" sTake ["self"] f3 fd3) (GM2 : FnOk P w K mg base (CXr P w) 2 f3 fd3 ["self"] (spTake C NF)) (S : Shf K mg C NF) (SP : Shp K CP) (Z : Sto K mg NP NL NW) : FnOk P w K mg base (CXr P w) 3 f fd ["self", "page"] (spFresh C CP NP NF) := by
  refine F.okR scFs (fun vs H Q E h' => ?_) (fun cdv A outer s H vs Q E hr h' => ?_)
  · obtain ⟨a, e, m, h, g, ns, ps, G, x, rfl, _⟩ := h'
    rfl
  · obtain ⟨a, e, m, h, g, ns, ps, G, x, rfl, W, p, ne, th, ex, k⟩ := h'
    obtain ⟨dx, fs, ha, pfl, pgo, pno⟩ := p.ob
    obtain ⟨dm, fm, hm, fo⟩ := W.ob
    have hr1 : Room 1 _ := hr.mono (by decide)
    refine ⟨_, (pss_cons (ps_if (PW.pt (pw_or (pt_not (pt_val (pe_call GB hr (by rfl) B.m B.F.kp B.b .nil pass0 (pa_cons (pv 1) (pa_cons (pe_meth0 (pv 0) SP.cl M1.m GM1 hr1 M1.b .nil pass0) pa_nil))))) (pw_or1 (pt_cmpR op_notN (pe_ix ix_list (pe_fld (pv 0) rfl) (pv 1) (fun _ _ => rfl)) pe_non (nomark _))))) (pss_one (ps_raise Z.xp Z.np raisesR rfl (pa_cons pe_str pa_nil))) pss_nil) (pss_one (ps_asg (pe_meth0 (pe_fld (pv 0) rfl) S.cl M2.m GM2 hr M2.b .nil passR) (pg_sub (pe_fld (pv 0) rfl) (pv 1) set_list)))), ?_⟩
    refine ⟨_, rfl, _, rfl, a, dx, fs, rfl, ha, pno _ (by decide +kernel) (by decide +kernel), a, e, m, G, rfl, p, x, _, rfl, th, _, rfl, ?_⟩
    cases hb : below x (G.length : Int) with
    | false => exact iteT ⟨by decide, ex (.inl hb)⟩
    | true =>
    obtain ⟨i0, rfl, h0, h1⟩ := below_int hb
    obtain ⟨i, rfl⟩ : ∃ i : Nat, i0 = (i : Int) := ⟨i0.toNat, by omega⟩
    have hi : i < G.length := by omega
    have eg : G[i]? = some (G.getD i none) := by rw [List.getD_eq_getElem?_getD, List.getElem?_eq_getElem hi]; rfl
    refine iteF ⟨_, rfl, a, CP, dx, fs, _, rfl, ha, SP.cl, SP.ng, pgo, _, rfl, e, _, _, _, rfl, rfl, SqL.of p.go, atI_go eg, rfl, _, rfl, ?_⟩
    cases ho : G.getD i none with
    | some t => exact iteTS (by show (!decide (V.int (t : Int) = V.non)) = true; rw [decide_eq_false nofun]; rfl) ⟨by decide, ex (.inr (by rw [frV_nat hi, ho]; exact nofun))⟩
    | none =>
    rw [ho] at eg
    refine iteFS rfl ?_
    obtain ⟨k1, k2⟩ := k i rfl eg
    refine ⟨_, rfl, a, CP, dx, fs, _, rfl, ha, SP.cl, SP.nf, pfl, m, dm, fm, rfl, hm, fo.no _ (by decide +kernel) (by decide +kernel) (by decide +kernel), m, h, g, ns, ps, rfl, W, fun j pj H2 hj hno fp kp W2 => ?_, k1⟩
    have ah : a ≠ h := ne_of ha W.ho (by intro z; cases z)
    have ag : a ≠ g := ne_of ha W.sh.top (by intro z; cases z)
    have eh : e ≠ h := fun z => ne (.inr (.inl z))
    have eg' : e ≠ g := fun z => ne (.inr (.inr (.inl z)))
    have ha2 := kp _ _ ah ag ha
    have he2 := kp _ _ eh eg' p.go
    refine ⟨_, rfl, a, CP, dx, fs, _, rfl, ha2, SP.cl, SP.ng, pgo, _, rfl, e, _, _, i, rfl, rfl, he2, (by rw [List.length_map]; exact ixN_nat hi), ?_⟩
    rw [show (G.map goV).set i (V.int (j : Int)) = (G.set i (some j)).map goV by rw [List.map_set]; rfl]
    have neo : ∀ b, Ow m h g (ps.set j (some (pj, z8))) b → b ≠ e := fun b hb z => by
      rcases hb with y | y | y
      · exact ne (.inl (z ▸ y))
      · exact ne (.inr (.inl (z ▸ y)))
      · rcases y.put with y | ⟨ws, y⟩
        · exact ne (.inr (.inr (z ▸ y)))
        · cases y
          rw [z, p.go] at fp
          cases fp
    have P2 : Pt CP H2 a e m G := ⟨⟨dx, fs, ha2, pfl, pgo, pno⟩, he2⟩
    exact k2 j pj _ hj hno fp (fun b o x1 x2 x3 x4 => by rw [upd_ne x3]; exact kp b o x1 x2 x4) (W2.keep fun b hb => upd_ne (neo b hb)) (P2.set _)
theorem scPs : FnScope ["self"] ["self"] (defScope sPages) := ⟨rfl, rfl, rfl, by decide +kernel, rfl, by decide +kernel, by decide +kernel⟩
theorem ndPs : (compN "frame" ["self"]).Nodup := by decide +kernel
theorem dotPs : (".0" : Str) ∉ (["self"] : List Str) := by decide +kernel
theorem ok_pages {f f1 : Addr} {fd fd1 : FuncData} (F : Fun K "pages" "Parts.pages" sPages f fd) (M1 : Me K C "words_of" "Store.words_of" sWords ["self", "page"] f1 fd1) (GM1 : FnOk P w K mg base CX0 2 f1 fd1 ["self", "page"] (spWords C)) (S : Shf K mg C NF) (SP : Shp K CP) : FnOk P w K mg base CX0 3 f fd ["self"] (spPages C CP) := by
  refine F.ok scPs (fun vs H Q E h' => ?_) (fun cdv A outer s H vs Q E hr h' => ?_)
  · obtain ⟨a, e, m, h, g, ns, ps, G, rfl, _⟩ := h'
    rfl
  · obtain ⟨a, e, m, h, g, ns, ps, G, rfl, W, p, hl, hr0, q⟩ := h'
    obtain ⟨dx, fs, ha, pfl, pgo, pno⟩ := p.ob
    refine ⟨_, (pss_one (ps_ret (pe_comp (cl := [("self", s.heap.objs.size + 1)]) (tc := tYes) (te := tIf (tTest (tOp (fun x y H Q => y = .non ∧ Q (.bl (decide (x = .non))) H) (tVar 0) (tC .non))) (tC .non) (tMeth C "words_of" (spWords C) [] E0 (tFld K (tVar 1) "floor") (tCons (tVar 0) tNil))) rfl (pi_list (pe_fld (pv 0) rfl)) rfl (by repeat' (first | exact trivial | refine ⟨.inl ⟨.inr rfl, rfl⟩, ?_⟩ | refine ⟨.inl ⟨.inl rfl, rfl⟩, ?_⟩ | refine ⟨.inr (.inl ⟨by decide, by decide, by decide⟩), ?_⟩ | refine ⟨.inr (.inr ⟨rfl, by decide +kernel, by decide +kernel, rfl, rfl⟩), ?_⟩)) (show ClOk _ _ from ⟨rfl, trivial⟩) (fun C s₂ H₂ fp => .nil) (fun C s₂ H₂ fp => (pe_ifExp (pt_cmpR op_isN (pv 0) pe_non (nomark _)) pe_non (pe_meth (pe_fld (pv 1) rfl) S.cl M1.m GM1 hr M1.b .nil pass0 (pa_cons (pv 0) pa_nil)))) ndPs (hdot := dotPs)))), ?_⟩
    refine ⟨_, rfl, a, CP, dx, fs, _, rfl, ha, SP.cl, SP.ng, pgo, e, rfl, ⟨_, SqL.of p.go⟩, comp_list (xs := G.map goV) (fun D i ys H' => ∃ qs : Pgs, H D = none ∧ Same H H' ∧ Pg H' D qs ∧ ys = qs.map pgV ∧ qs.length = i ∧ cont qs = (ctF ps G).take i ∧ (∀ b, At D qs b → H b = none)) ?_ ?_ ?_ ?_⟩
    · intro D hD
      refine ⟨[], hD, same_new hD, ⟨upd_same, fun i p ws e => by simp at e, fun i j p ws ws' e => by simp at e⟩, rfl, rfl, rfl, fun b hb => ?_⟩
      rcases hb with rfl | ⟨i, ws, e⟩
      · exact hD
      · simp at e
    · rintro D i ys H' _ ⟨qs, _, ss, g, rfl, _⟩
      exact ⟨SqL.of (ss _ _ p.go), g.top⟩
    · rintro D i x ys H' hi ⟨qs, hD, ss, gq, rfl, hql, hc, hf⟩
      rw [List.getElem?_map] at hi
      cases eo : G[i]? with
      | none => rw [eo] at hi; cases hi
      | some o =>
      rw [eo] at hi
      have hi' : goV o = x := Option.some.inj hi
      subst hi'
      have hil : i < G.length := (List.getElem?_eq_some_iff.mp eo).1
      have sl : i < sizeLine := Nat.lt_of_lt_of_le (show i < 1001 by omega) (by decide)
      have tk : (ctF ps G).take (i + 1) = (ctF ps G).take i ++ [o.map (wdF ps)] := by
        have : (ctF ps G)[i]? = some (o.map (wdF ps)) := by unfold ctF; rw [List.getElem?_map, eo]; rfl
        rw [List.take_add_one, this]
        rfl
      cases o with
      | none =>
        refine iteT ⟨_, rfl, rfl, _, rfl, iteT ⟨gq.top, (by rw [List.length_map, hql]; exact sl), qs ++ [none], hD, ss.set hD, gq.app (o := none) (Same.refl _) (fun q ws e => by cases e), by rw [List.map_append]; rfl, by rw [List.length_append, hql]; rfl, by rw [tk, ← hc]; unfold cont; rw [List.map_append]; rfl, fun b hb => ?_⟩⟩
        rcases hb.app with z | ⟨ws, z⟩
        · exact hf b z
        · cases z
      | some t =>
        have ht := hr0 t (List.mem_of_getElem? eo)
        obtain ⟨pt, wt, et⟩ := W.al t (by rw [W.ln]; exact ht)
        have W1 := W.same ss
        obtain ⟨dm, fm, hm, fo⟩ := W1.ob
        refine iteT ⟨_, rfl, rfl, _, rfl, iteFS (decide_eq_false nofun) ⟨_, rfl, a, CP, dx, fs, _, rfl, ss _ _ ha, SP.cl, SP.nf, pfl, m, dm, fm, rfl, hm, fo.no _ (by decide +kernel) (by decide +kernel) (by decide +kernel), _, rfl, m, h, g, ns, ps, t, pt, wt, rfl, W1, et, fun l H2 s2 fl hl2 => ?_⟩⟩
        have hn : ∀ (q : Addr) (ws : List Int), some (l, wt) = some (q, ws) → H2 q = some (.lst (ws.map V.int)) ∧ H' q = none := fun q ws e => by
          cases e
          exact ⟨hl2, fl⟩
        refine ⟨s2 _ _ gq.top, (by rw [List.length_map, hql]; exact sl), qs ++ [some (l, wt)], hD, (ss.trans s2).set hD, gq.app s2 hn, by rw [List.map_append]; rfl, by rw [List.length_append, hql]; rfl, ?_, fun b hb => ?_⟩
        · rw [tk, ← hc]
          unfold cont
          rw [List.map_append]
          show _ = _ ++ [some (wdF ps t)]
          rw [wdF_of et]
          rfl
        · rcases hb.app with z | ⟨ws, z⟩
          · exact hf b z
          · cases z
            exact ss.free fl
    · rintro D ys H' ⟨qs, hD, ss, gq, rfl, hql, hc, hf⟩
      refine q D H' qs ss gq ?_ hf
      rw [hc, List.take_of_length_le]
      unfold ctF
      rw [List.length_map, List.length_map]
      exact Nat.le_refl _
theorem scEi : FnScope ["thing"] ["thing"] (defScope sEight) := ⟨rfl, rfl, rfl, by decide +kernel, rfl, by decide +kernel, by decide +kernel⟩
theorem ndEi : (compN "word" ["thing"]).Nodup := by decide +kernel
theorem dotEi : (".0" : Str) ∉ (["thing"] : List Str) := by decide +kernel
def spEight : Sp := fun vs H Q _ => ∃ (p : Addr) (ws : List Int), vs = [.ref p] ∧ H p = some (.lst (ws.map V.int)) ∧ ws.length = 8 ∧ (∀ w ∈ ws, 0 ≤ w ∧ w < 281474976710656) ∧ ∀ H', Same H H' → Q (.bl true) H'
theorem ok_eight {f f1 : Addr} {fd fd1 : FuncData} (F : Fun K "is_eight_words" "is_eight_words" sEight f fd) (B : Dn K mg "is_word" sWord ["thing"] f1 fd1) (G : FnOk P w K mg base CX0 3 f1 fd1 ["thing"] spWord) (S : Shf K mg C NF) (I : Im K mg NI) (T : Txt K mg) : FnOk P w K mg base CX0 4 f fd ["thing"] spEight := by
  refine F.ok scEi (fun vs H Q E h => ?_) (fun cdv A outer s H vs Q E hr h => ?_)
  · obtain ⟨p, ws, rfl, _⟩ := h
    rfl
  · obtain ⟨p, ws, rfl, hp, hl, hw, q⟩ := h
    obtain ⟨t2, m2⟩ := S.cells
    refine ⟨_, (pss_one (ps_ret (pe_and (pe_callB call_islist (by rfl) T.isi PyProof.Rows.boot_isinstance (pa_cons (pv 0) (pa_cons (pe_bltn (by rfl) I.lst PyProof.Rows.boot_list (show RelV (.ty "list") (.type "list") from rfl)) pa_nil))) (pe_and (pe_cmpR op_eq (pe_callB call_len_seq (by rfl) T.len PySem.boot_len (pa_cons (pv 0) pa_nil)) (pe_glob (by rfl) m2 (show RelV (.int 8) (.int 8 t2) from ⟨_, rfl⟩)) (nomark _)) (pe_one (pe_callB (call_allB rfl) (by rfl) I.all PyProof.Rows.boot_all (pa_cons (pe_comp (cl := []) (tc := tYes) (te := tCall spWord [] E0 (tCons (tVar 0) tNil)) rfl (pi_list (pv 0)) (closureFor_none (by decide +kernel)) (show CapOk _ _ _ _ from ⟨.inl ⟨.inr rfl, rfl⟩, .inl ⟨.inl rfl, rfl⟩, .inr (.inl ⟨by decide, by decide, by decide⟩), trivial⟩) trivial (fun C s₂ H₂ fp => .nil) (fun C s₂ H₂ fp => (pe_call G hr (by rfl) B.m B.F.kp B.b .nil pass0 (pa_cons (pv 0) pa_nil))) ndEi (hdot := dotEi)) pa_nil))))))), ?_⟩
    refine ⟨_, rfl, _, rfl, .lst hp, _, rfl, iteTS (isLst_of hp) ?_⟩
    refine ⟨_, rfl, p, _, rfl, .inl (SqL.of hp), rfl, _, rfl, iteTS (by show decide (V.int ((ws.map V.int).length : Int) = V.int 8) = true; rw [List.length_map, hl]; rfl) ?_⟩
    refine ⟨_, rfl, p, rfl, ⟨_, SqL.of hp⟩, comp_list (xs := ws.map V.int) (fun D i ys H' => H D = none ∧ Same H H' ∧ ys = (List.replicate i true).map V.bl ∧ H' D = some (.lst ys)) ?_ ?_ ?_ ?_⟩
    · exact fun D hD => ⟨hD, same_new hD, rfl, upd_same⟩
    · rintro D i ys H' _ ⟨hD, ss, rfl, hy⟩
      exact ⟨SqL.of (ss _ _ hp), hy⟩
    · rintro D i x ys H' hi ⟨hD, ss, rfl, hy⟩
      rw [List.getElem?_map] at hi
      cases e : ws[i]? with
      | none => rw [e] at hi; cases hi
      | some z =>
        rw [e] at hi
        have hi' : V.int z = x := Option.some.inj hi
        subst hi'
        obtain ⟨z0, z1⟩ := hw z (List.mem_of_getElem? e)
        have hil : i < 8 := by rw [← hl]; exact (List.getElem?_eq_some_iff.mp e).1
        refine iteT ⟨_, rfl, _, rfl, .int z, ?_⟩
        rw [below_of z0 z1]
        refine ⟨hy, ?_, hD, Same.set ss hD, ?_, upd_same⟩
        · rw [List.length_map, List.length_replicate]
          exact Nat.lt_of_lt_of_le hil (by decide)
        · rw [List.replicate_succ', List.map_append]
          rfl
    · rintro D ys H' ⟨hD, ss, rfl, hy⟩
      refine ⟨D, _, rfl, hy, ?_⟩
      rw [show ((List.replicate (ws.map V.int).length true).all id) = true by simp]
      exact q H' ss
theorem scIm : FnScope ["pages", "page"] ["pages"] (defScope sImage) := ⟨rfl, rfl, rfl, by decide +kernel, rfl, by decide +kernel, by decide +kernel⟩
def spImage : Sp := fun vs H Q _ => ∃ (p : Addr) (ps : Pgs), vs = [.ref p] ∧ Pg H p ps ∧ Good ps ∧ 1 ≤ ps.length ∧ ps.length ≤ 24 ∧ ∀ H', Same H H' → Q .non H'
theorem ok_image {f f1 : Addr} {fd fd1 : FuncData} (F : Fun K "check_image" "check_image" sImage f fd) (B : Dn K mg "is_eight_words" sEight ["thing"] f1 fd1) (G : FnOk P w K mg base CX0 4 f1 fd1 ["thing"] spEight) (S : Shf K mg C NF) (I : Im K mg NI) (T : Txt K mg) : FnOk P w K mg base (CXr P w) 5 f fd ["pages"] spImage := by
  refine F.okR scIm (fun vs H Q E h => ?_) (fun cdv A outer s H vs Q E hr h => ?_)
  · obtain ⟨p, ps, rfl, _⟩ := h
    rfl
  · obtain ⟨p, ps, rfl, g, hg, l1, l2, q⟩ := h
    obtain ⟨t3, m3⟩ := I.most
    refine ⟨_, (pss_cons (ps_if (PW.pt (pw_or (pt_not (pt_val (pe_callB call_islist (by rfl) T.isi PyProof.Rows.boot_isinstance (pa_cons (pv 0) (pa_cons (pe_bltn (by rfl) I.lst PyProof.Rows.boot_list (show RelV (.ty "list") (.type "list") from rfl)) pa_nil))))) (pw_or1 (pt_not (pt_chain op_le op_le pe_int (pe_callB call_len_seq (by rfl) T.len PySem.boot_len (pa_cons (pv 0) pa_nil)) (pe_glob (by rfl) m3 (show RelV (.int 24) (.int 24 t3) from ⟨_, rfl⟩))))))) (pss_one (ps_raise I.xi I.ni raisesR rfl (pa_cons pe_str pa_nil))) pss_nil) (pss_one (ps_for passesOwnR rfl (pi_list (pv 0)) (pg_name (i := 1) scIm.nd rfl (Or.inl rfl)) (pss_one (ps_if (PW.pt (pw_and (pt_cmpR op_notN (pv 1) pe_non (nomark _)) (pw_and1 (pt_not (pt_val (pe_call G hr (by rfl) B.m B.F.kp B.b .nil pass0 (pa_cons (pv 1) pa_nil))))))) (pss_one (ps_raise I.xi I.ni raisesR rfl (pa_cons pe_str pa_nil))) pss_nil))))), ?_⟩
    refine ⟨_, rfl, _, rfl, .lst g.top, _, rfl, iteFS (by show (!isLst H (.ref p)) = false; rw [isLst_of g.top]; rfl) ?_⟩
    refine ⟨_, rfl, p, _, rfl, .inl (SqL.of g.top), 1, _, rfl, rfl, _, rfl, iteTS (by show decide ((1 : Int) ≤ ((ps.map pgV).length : Int)) = true; rw [List.length_map]; exact decide_eq_true (by omega)) ?_⟩
    refine ⟨_, 24, rfl, rfl, _, rfl, iteFS (by show (!decide ((((ps.map pgV).length : Int)) ≤ 24)) = false; rw [List.length_map, decide_eq_true (by omega)]; rfl) ?_⟩
    refine ⟨_, rfl, p, rfl, ⟨_, SqL.of g.top⟩, for_list (K := K) (a := p) (xs := ps.map pgV) (fun i σ H' => (∃ v, σ = [some (.ref p), v]) ∧ Same H H') ⟨⟨_, rfl⟩, Same.refl _⟩ (fun i σ H' _ ⟨_, ss⟩ => SqL.of (ss _ _ g.top)) ?_ ?_⟩
    · rintro i x σ H' hi ⟨⟨v, rfl⟩, ss⟩
      rw [List.getElem?_map] at hi
      cases e : ps[i]? with
      | none => rw [e] at hi; cases hi
      | some o =>
        rw [e] at hi
        have hi' : pgV o = x := Option.some.inj hi
        subst hi'
        cases o with
        | none =>
          refine ⟨_, rfl, rfl, _, rfl, iteF ?_⟩
          refine iteF ?_
          exact ⟨⟨_, rfl⟩, ss⟩
        | some z =>
          obtain ⟨a, ws⟩ := z
          refine ⟨_, rfl, rfl, _, rfl, iteT ?_⟩
          refine ⟨_, rfl, a, ws, rfl, ss _ _ (g.each i a ws e).1, (hg i a ws e).1, (hg i a ws e).2, fun H2 s2 => ⟨_, rfl, iteF ?_⟩⟩
          exact ⟨⟨_, rfl⟩, ss.trans s2⟩
    · rintro σ H' ⟨_, ss⟩
      exact q H' ss
theorem scPi : FnScope ["self", "frames", "pages"] ["self", "frames", "pages"] (defScope sPInit) := ⟨rfl, rfl, rfl, by decide +kernel, rfl, by decide +kernel, by decide +kernel⟩
theorem ndPi : (compN "page" ["self", "frames", "pages"]).Nodup := by decide +kernel
theorem dotPi : (".0" : Str) ∉ (["self", "frames", "pages"] : List Str) := by decide +kernel
theorem ok_pinit {f f1 f2 : Addr} {fd fd1 fd2 : FuncData} (F : Fun K "__init__" "Parts.__init__" sPInit f fd) (B : Dn K mg "check_image" sImage ["pages"] f1 fd1) (GB : FnOk P w K mg base (CXr P w) 5 f1 fd1 ["pages"] spImage) (M1 : Me K CP "filled" "Parts.filled" sFill ["self", "words"] f2 fd2) (GM1 : FnOk P w K mg base (CXr P w) 7 f2 fd2 ["self", "words"] (spFill C CP NF)) (S : Shf K mg C NF) (SP : Shp K CP) : FnOk P w K mg base (CXr P w) 8 f fd ["self", "frames", "pages"] (spPInit C CP) := by
  refine F.okR scPi (fun vs H Q E h' => ?_) (fun cdv A outer s H vs Q E hr h' => ?_)
  · obtain ⟨a, dx, m, h, g, pl, ns, ps, qs, rfl, _⟩ := h'
    rfl
  · obtain ⟨a, dx, m, h, g, pl, ns, ps, qs, rfl, ha, W, gp, gd, l1, l2, dj, hc0, q⟩ := h'
    have hr5 : Room 5 _ := hr.mono (by decide)
    refine ⟨_, (pss_cons (ps_expr (pe_call GB hr5 (by rfl) B.m B.F.kp B.b .nil passR (pa_cons (pv 2) pa_nil))) (pss_cons (ps_fld (pv 0) (pv 1) rfl) (pss_one (ps_fld (pv 0) (pe_comp (cl := [("self", s.heap.objs.size + 1)]) (tc := tYes) (te := tIf (tTest (tOp (fun x y H Q => y = .non ∧ Q (.bl (decide (x = .non))) H) (tVar 0) (tC .non))) (tC .non) (tMeth CP "filled" (spFill C CP NF) [] E0 (tVar 1) (tCons (tVar 0) tNil))) rfl (pi_list (pv 2)) rfl (by repeat' (first | exact trivial | refine ⟨.inl ⟨.inr rfl, rfl⟩, ?_⟩ | refine ⟨.inl ⟨.inl rfl, rfl⟩, ?_⟩ | refine ⟨.inr (.inl ⟨by decide, by decide, by decide⟩), ?_⟩ | refine ⟨.inr (.inr ⟨rfl, by decide +kernel, by decide +kernel, rfl, rfl⟩), ?_⟩)) (show ClOk _ _ from ⟨rfl, trivial⟩) (fun C s₂ H₂ fp => .nil) (fun C s₂ H₂ fp => (pe_ifExp (pt_cmpR op_isN (pv 0) pe_non (nomark _)) pe_non (pe_meth (pv 1) SP.cl M1.m GM1 hr M1.b .nil passX0 (pa_cons (pv 0) pa_nil)))) ndPi (hdot := dotPi)) rfl)))), ?_⟩
    refine ⟨_, rfl, pl, qs, rfl, gp, gd, l1, l2, fun H0 s0 => ?_⟩
    refine ⟨_, rfl, _, rfl, a, CP, dx, _, rfl, s0 _ _ ha, SP.cl, SP.nf, (by show 0 < 1000; decide), ?_⟩
    have hapl : ∀ b, At pl qs b → b ≠ a := fun b hb z => by
      obtain ⟨xs, y⟩ := hb.lst gp
      rw [z, ha] at y; cases y
    have ha0 := s0 _ _ ha
    have W0 := W.same s0
    have aOw : ¬ Ow m h g ps a := fun hb => by
      rcases hb with z | z | z
      · obtain ⟨dm, fm, hm, fo⟩ := W.ob
        rw [← z, ha] at hm
        cases hm
        have := fo.hol
        cases this
      · rw [z, W.ho] at ha; cases ha
      · obtain ⟨xs, y⟩ := z.lst W.sh
        rw [y] at ha; cases ha
    have W1 : Fr C (upd H0 a (.ins CP dx (putF "floor" (.ref m) []))) m h g ns ps := W0.keep fun b hb => upd_ne (fun z => aOw (z ▸ hb))
    have g1 : Pg (upd H0 a (.ins CP dx (putF "floor" (.ref m) []))) pl qs := (gp.same s0).keep fun b hb => upd_ne (hapl b hb)
    have a1 : upd H0 a (.ins CP dx (putF "floor" (.ref m) [])) a = some (.ins CP dx (putF "floor" (.ref m) [])) := upd_same
    have k1 : ∀ b o, b ≠ a → H b = some o → upd H0 a (.ins CP dx (putF "floor" (.ref m) [])) b = some o := fun b o x y => by rw [upd_ne x]; exact s0 _ _ y
    have f1 : ∀ b, upd H0 a (.ins CP dx (putF "floor" (.ref m) [])) b = none → H b = none := fun b y => by
      by_cases z : b = a
      · rw [z, upd_same] at y; cases y
      · rw [upd_ne z] at y; exact s0.free y
    have pf1 : ∀ H', H' a = some (.ins CP dx (putF "floor" (.ref m) [])) → Pf CP H' a m := fun H' y => ⟨dx, _, y, by rw [lookup_putF, if_pos rfl], fun n z1 z2 => by rw [lookup_putF, if_neg z1]; rfl⟩
    generalize upd H0 a (.ins CP dx (putF "floor" (.ref m) [])) = H1 at *
    have ah : a ≠ h := fun z => aOw (.inr (.inl z))
    have ag : a ≠ g := fun z => aOw (.inr (.inr (.inl z)))
    refine ⟨_, rfl, pl, rfl, ⟨_, SqL.of g1.top⟩, comp_list (xs := qs.map pgV) (fun D i ys H' => ∃ (ns' : List Int) (ps' : Pgs) (G : Gs), H1 D = none ∧ (∀ b o, b ≠ h → b ≠ g → H1 b = some o → H' b = some o) ∧ Fr C H' m h g ns' ps' ∧ (∀ b, Ow m h g ps' b → Ow m h g ps b ∨ H1 b = none) ∧ ¬ Ow m h g ps' D ∧ ys = G.map goV ∧ H' D = some (.lst ys) ∧ G.length = i ∧ ctF ps' G = (cont qs).take i ∧ ns'.length = ns.length ∧
      (∀ f, ns'.getD f 0 = ns.getD f 0 + (G.count (some f) : Nat)) ∧ (∀ f, some f ∈ G → f < ns.length) ∧ (∀ f, 0 < ns.getD f 0 → wdF ps' f = wdF ps f) ∧ ns'.count 0 + (qs.take i).countP Option.isSome = ns.count 0 ∧ (∀ f, G.count (some f) ≤ 1) ∧ (∀ (k t : Nat), G[k]? = some (some t) → (ns.getD t 0 + ((G.take k).count (some t) : Nat) = 0 ∧ ∀ t', t' < t → 0 < ns.getD t' 0 + ((G.take k).count (some t') : Nat)))) ?_ ?_ ?_ ?_⟩
    · intro D hD
      have nD : ¬ Ow m h g ps D := fun hb => by
        rcases hb with z | z | z
        · obtain ⟨dm, fm, hm, fo⟩ := W1.ob
          rw [z, hm] at hD; cases hD
        · rw [z, W1.ho] at hD; cases hD
        · obtain ⟨xs, y⟩ := z.lst W1.sh
          rw [y] at hD; cases hD
      exact ⟨ns, ps, [], hD, fun b o _ _ x => same_new hD _ _ x, W1.same (same_new hD), fun b x => .inl x, nD, rfl, upd_same, rfl, rfl, rfl, fun f => by simp, fun f z => (by cases z), fun f _ => rfl, by simp, fun f => by simp, fun k t y => by simp at y⟩
    · rintro D i ys H' _ ⟨ns', ps', G, hD, kp, W', n1, nD, rfl, eD, _⟩
      refine ⟨SqL.of (kp _ _ (fun z => dj pl (.inl rfl) (.inr (.inl z))) (fun z => dj pl (.inl rfl) (.inr (.inr (.inl z)))) g1.top), eD⟩
    · rintro D i x ys H' hi ⟨ns', ps', G, hD, kp, W', n1, nD, rfl, eD, hGl, hct, hnl, hcn, hrg, hwd, hc1, hu, hgr⟩
      rw [List.getElem?_map] at hi
      cases eo : qs[i]? with
      | none => rw [eo] at hi; cases hi
      | some o =>
      rw [eo] at hi
      have hi' : pgV o = x := Option.some.inj hi
      subst hi'
      have hil : i < qs.length := (List.getElem?_eq_some_iff.mp eo).1
      have sl : i < sizeLine := Nat.lt_of_lt_of_le (show i < 25 by omega) (by decide)
      have ha' := kp _ _ ah ag a1
      have tk : (cont qs).take (i + 1) = (cont qs).take i ++ [o.map (·.2)] := by
        have : (cont qs)[i]? = some (o.map (·.2)) := by unfold cont; rw [List.getElem?_map, eo]; rfl
        rw [List.take_add_one, this]
        rfl
      have tq : qs.take (i + 1) = qs.take i ++ [o] := by
        rw [List.take_add_one, eo]
        rfl
      have cle : (qs.take (i + 1)).countP Option.isSome ≤ qs.countP Option.isSome := List.Sublist.countP_le (List.take_sublist ..)
      rw [tq, List.countP_append] at cle
      cases o with
      | none =>
        refine iteT ⟨_, rfl, rfl, _, rfl, iteT ⟨eD, (by rw [List.length_map, hGl]; exact sl), ns', ps', G ++ [none], hD, fun b o x1 x2 x3 => ?_, W'.keep fun b hb => upd_ne (fun z => nD (z ▸ hb)), n1, nD, by rw [List.map_append]; rfl, upd_same, by rw [List.length_append, hGl]; rfl, ?_, hnl, fun f => ?_, fun f z => ?_, hwd, ?_, fun f => ?_, fun k t y => ?_⟩⟩
        · rw [upd_ne (ne_of_none x3 hD)]
          exact kp b o x1 x2 x3
        · rw [tk, ← hct]
          unfold ctF
          rw [List.map_append]
          rfl
        · rw [hcn f, List.count_append]
          simp
        · rcases List.mem_append.mp z with y | y
          · exact hrg f y
          · cases List.mem_singleton.mp y
        · rw [tq, List.countP_append]
          simpa using hc1
        · rw [List.count_append]
          simpa using hu f
        · rcases Nat.lt_or_ge k G.length with z | z
          · rw [List.getElem?_append_left z] at y
            rw [List.take_append_of_le_length (Nat.le_of_lt z)]
            exact hgr k t y
          · rw [List.getElem?_append_right z] at y
            cases hk : k - G.length with
            | zero => rw [hk] at y; cases y
            | succ n => rw [hk] at y; cases y
      | some z0 =>
        obtain ⟨pw, ws⟩ := z0
        have aw : At pl qs pw := .inr ⟨i, ws, eo⟩
        obtain ⟨x1, _⟩ := g1.each i pw ws eo
        have xw := kp _ _ (fun z => dj pw aw (.inr (.inl z))) (fun z => dj pw aw (.inr (.inr (.inl z)))) x1
        have nw : ¬ Ow m h g ps' pw := fun hb => by
          rcases n1 pw hb with y | y
          · exact dj pw aw y
          · rw [x1] at y; cases y
        have pos : (0 : Int) ∈ ns' := by
          have : 0 < ns'.count 0 := by simp at cle; omega
          exact List.count_pos_iff.mp this
        refine iteT ⟨_, rfl, rfl, _, rfl, iteFS (decide_eq_false nofun) ⟨_, rfl, a, dx, _, rfl, ha', (by rw [lookup_putF, if_neg (by decide +kernel)]; rfl), _, rfl, a, m, h, g, pw, ns', ws, ps', rfl, W', pf1 _ ha', xw, nw, (gd i pw ws eo).1, (gd i pw ws eo).2, fun j p H2 hj hno fp kp2 W2 => ?_, fun z => z pos⟩⟩
        have hjl : j < ns'.length := (List.getElem?_eq_some_iff.mp hj).1
        have hjp : j < ps'.length := by rw [W'.ln]; exact hjl
        have hj0 : ns'.getD j 0 = 0 := by rw [List.getD_eq_getElem?_getD, hj]; rfl
        have hcj := hcn j
        rw [hj0] at hcj
        have nnj : 0 ≤ ns.getD j 0 := W.nn _ (L2.getD_mem (by omega))
        have cj0 : G.count (some j) = 0 := by omega
        have nj0 : ns.getD j 0 = 0 := by omega
        have njG : some j ∉ G := List.count_eq_zero.mp cj0
        have Dh : D ≠ h := fun z => nD (.inr (.inl z))
        have Dg : D ≠ g := fun z => nD (.inr (.inr (.inl z)))
        have eD2 := kp2 _ _ Dh Dg eD
        have n2 : ∀ b, Ow m h g (ps'.set j (some (p, ws))) b → Ow m h g ps' b ∨ b = p := fun b hb => by
          rcases hb with z | z | z
          · exact .inl (.inl z)
          · exact .inl (.inr (.inl z))
          · rcases z.put with y | ⟨us, y⟩
            · exact .inl (.inr (.inr y))
            · cases y
              exact .inr rfl
        have nD2 : ¬ Ow m h g (ps'.set j (some (p, ws))) D := fun hb => by
          rcases n2 D hb with y | y
          · exact nD y
          · rw [← y, eD] at fp; cases fp
        refine ⟨eD2, (by rw [List.length_map, hGl]; exact sl), ns'.set j 1, ps'.set j (some (p, ws)), G ++ [some j], hD, fun b o x1 x2 x3 => ?_, W2.keep fun b hb => upd_ne (fun z => nD2 (z ▸ hb)), fun b hb => ?_, nD2, by rw [List.map_append]; rfl, upd_same, by rw [List.length_append, hGl]; rfl, ?_, by rw [List.length_set]; exact hnl, fun f => ?_, fun f z => ?_, fun f hf => ?_, ?_, fun f => ?_, fun k t y => ?_⟩
        · rw [upd_ne (ne_of_none x3 hD)]
          exact kp2 b o x1 x2 (kp b o x1 x2 x3)
        · rcases n2 b hb with y | y
          · exact n1 b y
          · subst y
            cases hb1 : H1 b with
            | none => exact .inr rfl
            | some u =>
              by_cases y1 : b = h
              · exact .inl (.inr (.inl y1))
              · by_cases y2 : b = g
                · exact .inl (.inr (.inr (.inl y2)))
                · rw [kp b u y1 y2 hb1] at fp; cases fp
        · rw [tk, ← hct]
          unfold ctF
          rw [List.map_append]
          have := ctF_set (ps := ps') (o := some (p, ws)) njG
          unfold ctF at this
          rw [this]
          show _ ++ [some (wdF (ps'.set j (some (p, ws))) j)] = _
          rw [wdF_of (List.getElem?_set_self hjp)]
          rfl
        · rw [getD_set1 hjl, List.count_append]
          split
          · rename_i z
            subst z
            rw [nj0, cj0]
            simp
          · rename_i z
            rw [hcn f]
            simp [List.count_singleton, z]
        · rcases List.mem_append.mp z with y | y
          · exact hrg f y
          · cases List.mem_singleton.mp y
            omega
        · rw [wdF_ne (fun z => by rw [← z, nj0] at hf; omega)]
          exact hwd f hf
        · have := count_set0 hj
          rw [tq, List.countP_append]
          simp
          omega
        · rw [List.count_append]
          have h1 := hu f
          by_cases z : j = f
          · rw [← z, cj0]
            simp
          · simp [List.count_singleton, z]
            exact h1
        · rcases Nat.lt_or_ge k G.length with z | z
          · rw [List.getElem?_append_left z] at y
            rw [List.take_append_of_le_length (Nat.le_of_lt z)]
            exact hgr k t y
          · rw [List.getElem?_append_right z] at y
            cases hk : k - G.length with
            | succ n => rw [hk] at y; cases y
            | zero =>
              rw [hk] at y
              cases y
              have ek : k = G.length := by omega
              rw [ek, List.take_append_of_le_length (Nat.le_refl _), List.take_length]
              refine ⟨hcj.symm, fun t' ht' => ?_⟩
              have h1 := hcn t'
              have h2 : ns'.getD t' 0 ≠ 0 := fun z => hno t' ht' (by rw [getT (show t' < ns'.length by omega), z])
              have h3 : 0 ≤ ns'.getD t' 0 := W'.nn _ (L2.getD_mem (by omega))
              omega
    · rintro D ys H' ⟨ns', ps', G, hD, kp, W', n1, nD, rfl, eD, hGl, hct, hnl, hcn, hrg, hwd, hc1, hu, hgr⟩
      have ha' := kp _ _ ah ag a1
      have neD : a ≠ D := ne_of_none a1 hD
      have aOw' : ¬ Ow m h g ps' a := fun hb => by
        rcases n1 a hb with y | y
        · exact aOw y
        · rw [a1] at y; cases y
      refine ⟨_, rfl, a, CP, dx, _, rfl, ha', SP.cl, SP.ng, (by show 1 < 1000; decide), ?_⟩
      refine q D _ ns' ps' G (fun b o x0 x1 x2 x3 => by rw [upd_ne x0]; exact kp b o x1 x2 (k1 b o x0 x3)) (f1 D hD) (W'.keep fun b hb => upd_ne (fun z => aOw' (z ▸ hb))) nD (fun b hb => (n1 b hb).imp id (f1 b)) ⟨⟨dx, _, upd_same, ?_, ?_, fun n z1 z2 => ?_⟩, by rw [upd_ne neD.symm]; exact eD⟩ ?_ hnl hcn hrg hwd hu hgr
      · rw [lookup_putF, if_neg (by decide +kernel), lookup_putF, if_pos rfl]
      · rw [lookup_putF, if_pos rfl]
      · rw [lookup_putF, if_neg z2, lookup_putF, if_neg z1]
        rfl
      · rw [hct, List.take_of_length_le]
        unfold cont
        rw [List.length_map, List.length_map]
        exact Nat.le_refl _
end
end K44

end
section
set_option Elab.async false
set_option linter.all false
set_option maxRecDepth 100000
set_option maxHeartbeats 4000000
namespace K44
open PySem L2
abbrev sCell : Stmt := top 38
abbrev sLWhole : Stmt := top 39
abbrev sKinds : Stmt := top 40
abbrev sDo : Stmt := top 41
abbrev sRef : Stmt := top 42
abbrev sImg : Stmt := top 43
abbrev sLeast : Stmt := top 44
abbrev sCount : Stmt := top 45
abbrev sLFree : Stmt := top 46
abbrev sSome : Stmt := top 47
abbrev sLFrame : Stmt := top 48
abbrev sShows : Stmt := top 49
abbrev sLAlone : Stmt := top 50
abbrev sNone : Stmt := top 51
abbrev sDeed : Stmt := top 52
abbrev sLaw : Stmt := top 53
abbrev sPTold : Stmt := inClass (top 34) 9
structure Kd (K : PySem.W.Frag) (mg : Str → Option Value) (HE D : Addr) (b0 b1 : Bool) (c0 c1 c2 c3 c4 c5 c6 c7 c8 c9 c10 c11 c12 c13 c14 c15 c16 : Addr) : Prop where
  m0 : mg "NoPage" = some (.ref c0)
  i0 : IsC K D (.ref c0) b0
  m1 : mg "NoFrame" = some (.ref c1)
  i1 : IsC K D (.ref c1) b1
  m2 : mg "NoPlace" = some (.ref c2)
  i2 : IsC K D (.ref c2) false
  m3 : mg "NoRow" = some (.ref c3)
  i3 : IsC K D (.ref c3) false
  m4 : mg "NoImage" = some (.ref c4)
  i4 : IsC K D (.ref c4) false
  m5 : mg "NoShelf" = some (.ref c5)
  i5 : IsC K D (.ref c5) false
  m6 : mg "NoRoom" = some (.ref c6)
  i6 : IsC K D (.ref c6) false
  m7 : mg "NoBound" = some (.ref c7)
  i7 : IsC K D (.ref c7) false
  m8 : mg "NoName" = some (.ref c8)
  i8 : IsC K D (.ref c8) false
  m9 : mg "NoWay" = some (.ref c9)
  i9 : IsC K D (.ref c9) false
  m10 : mg "Busy" = some (.ref c10)
  i10 : IsC K D (.ref c10) false
  m11 : mg "Over" = some (.ref c11)
  i11 : IsC K D (.ref c11) false
  m12 : mg "NoOrder" = some (.ref c12)
  i12 : IsC K D (.ref c12) false
  m13 : mg "NoProgram" = some (.ref c13)
  i13 : IsC K D (.ref c13) false
  m14 : mg "NoText" = some (.ref c14)
  i14 : IsC K D (.ref c14) false
  m15 : mg "Fault" = some (.ref c15)
  i15 : IsC K D (.ref c15) false
  m16 : mg "NoWord" = some (.ref c16)
  i16 : IsC K D (.ref c16) false
  iv : IsC K D (.ty "ValueError") true
  ex : PySem.W.exmOne K (.ref D) (.ref HE) = some true
  vae : mg "ValueError" = none
  he : mg "HouseError" = some (.ref HE)
def kb (b0 b1 : Bool) : List Bool := [b0, b1, true, false, false, false, false, false, false, false, false, false, false, false, false, false, false, false]
def spCell (K : PySem.W.Frag) : Sp := fun vs H Q _ => ∃ (a : Addr) (ns : List Int) (k : Nat), vs = [.ref a, .int k] ∧ SqL K H a (ns.map V.int) ∧ Q (.int (ns.getD k 0)) H
def spKinds (D : Addr) (b0 b1 : Bool) : Sp := fun vs H Q _ => ∃ e, vs = [.ref e] ∧ H e = some (xob e (.ref D)) ∧ ∀ l H', Same H H' → H' l = some (.lst ((kb b0 b1).map V.bl)) → Q (.ref l) H'
def spKinds2 (NP NF : Addr) : Sp := fun vs H Q E => spKinds NP true false vs H Q E ∨ spKinds NF false true vs H Q E
def spPTold (CP : Addr) : Sp := fun vs H Q _ => ∃ (a e m : Addr) (G : Gs), vs = [.ref a] ∧ Pt CP H a e m G ∧ ∀ l H', Same H H' → H l = none → H' l = some (.lst (G.map goV)) → Q (.ref l) H'
def BadP (G : Gs) (wd : Str) (x : V) : Prop := ((wd = "alone" ∨ wd = "lead" ∨ wd = "give") ∧ frV G x = .non) ∨ (wd = "fresh" ∧ (below x G.length = false ∨ frV G x ≠ .non))
def BadF (ns : List Int) (G : Gs) (wd : Str) (x y : V) : Prop := wd = "lead" ∧ frV G x ≠ .non ∧ hasF ns y = false
def spDo (C CP NP NF : Addr) : Sp := fun vs H _ E => ∃ (a e m h g : Addr) (ns : List Int) (ps : Pgs) (G : Gs) (wd : Str) (x y : V), vs = [.ref a, .str wd, x, y] ∧ Fr C H m h g ns ps ∧ Pt CP H a e m G ∧ ¬ Ow m h g ps e ∧ Th H x ∧ Th H y ∧ ((BadP G wd x ∧ E (.ref NP) none H) ∨ (BadF ns G wd x y ∧ E (.ref NF) none H))
def spRef (C CP : Addr) : Sp := fun vs H Q _ => ∃ (a e m h g : Addr) (ns : List Int) (ps : Pgs) (G : Gs) (wd : Str) (x y : V) (due : Str), vs = [.ref a, .str wd, x, y, .str due] ∧ Fr C H m h g ns ps ∧ Pt CP H a e m G ∧ ¬ Ow m h g ps e ∧ Th H x ∧ Th H y ∧ ((BadP G wd x ∧ due = "page") ∨ (BadF ns G wd x y ∧ due = "frame")) ∧ ∀ H', Same H H' → Q (.bl true) H'
theorem eq_str {a : Str} : decide (V.str a = V.str a) = true := decide_eq_true rfl
theorem ne_str {a b : Str} (h : ¬ a = b) : decide (V.str a = V.str b) = false := decide_eq_false fun z => h (V.str.inj z)
section
variable {P : Program} {w : World} {K : PySem.W.Frag} {mg : Str → Option Value} {base : Heap} {C CP NF NP NL NW NI HE D c0 c1 c2 c3 c4 c5 c6 c7 c8 c9 c10 c11 c12 c13 c14 c15 c16 : Addr} {b0 b1 : Bool}
theorem scCe : FnScope ["_law_script", "_law_k"] ["_law_script", "_law_k"] (defScope sCell) := ⟨rfl, rfl, rfl, by decide +kernel, rfl, by decide +kernel, by decide +kernel⟩
theorem ok_cell {f : Addr} {fd : FuncData} (F : Fun K "_law_cell_at" "_law_cell_at" sCell f fd) (T : Txt K mg) : FnOk P w K mg base CX0 1 f fd ["_law_script", "_law_k"] (spCell K) := by
  refine F.ok scCe (fun vs H Q E h => ?_) (fun cdv A outer s H vs Q E hr h => ?_)
  · obtain ⟨x, ns, k, rfl, _⟩ := h
    rfl
  · obtain ⟨x, ns, k, rfl, hS, q⟩ := h
    refine ⟨_, (pss_cons (ps_if (pt_cmpR op_lt (pv 1) (pe_callB call_len_seq (by rfl) T.len PySem.boot_len (pa_cons (pv 0) pa_nil)) (nomark _)) (pss_one (ps_ret (pe_ix ix_list (pv 0) (pv 1) (fun _ _ => rfl)))) pss_nil) (pss_one (ps_ret pe_int))), ?_⟩
    refine ⟨_, rfl, _, rfl, x, _, rfl, .inl hS, _, _, rfl, rfl, _, rfl, ite2 (fun z => ?_) (fun z => ?_)⟩
    · have z' := of_decide_eq_true z
      rw [List.length_map] at z'
      exact ⟨_, rfl, _, rfl, x, _, _, _, rfl, rfl, hS, atI_word (by omega), q⟩
    · have z' : ¬ ((k : Int) < ((ns.map V.int).length : Int)) := fun y => z (decide_eq_true y)
      rw [List.length_map] at z'
      rw [List.getD_eq_getElem?_getD, List.getElem?_eq_none (by omega)] at q
      exact q
theorem scLW : FnScope ["_law_found"] ["_law_found"] (defScope sLWhole) := ⟨rfl, rfl, rfl, by decide +kernel, rfl, by decide +kernel, by decide +kernel⟩
theorem ok_lwhole {f : Addr} {fd : FuncData} (F : Fun K "_law_whole" "_law_whole" sLWhole f fd) (T : Txt K mg) : FnOk P w K mg base CX0 1 f fd ["_law_found"] spWhole := by
  refine F.ok scLW (fun vs H Q E h => ?_) (fun cdv A outer s H vs Q E hr h => ?_)
  · obtain ⟨x, rfl, _⟩ := h
    rfl
  · obtain ⟨x, rfl, th, q⟩ := h
    refine ⟨_, (pss_one (ps_ret (pe_and (pe_callB call_isint (by rfl) T.isi PyProof.Rows.boot_isinstance (pa_cons (pv 0) (pa_cons (pe_bltn (by rfl) T.int PyProof.Rows.boot_int (show RelV (.ty "int") (.type "int") from rfl)) pa_nil))) (pe_one (pe_not (pe_callB call_isbool (by rfl) T.isi PyProof.Rows.boot_isinstance (pa_cons (pv 0) (pa_cons (pe_bltn (by rfl) T.boo PyProof.Rows.boot_bool (show RelV (.ty "bool") (.type "bool") from rfl)) pa_nil)))))))), ?_⟩
    refine ⟨x, rfl, x, rfl, th, _, rfl, ?_⟩
    cases th with
    | non => exact iteF q
    | bl b => exact iteT ⟨_, rfl, _, rfl, .bl b, _, rfl, q⟩
    | int i => exact iteT ⟨_, rfl, _, rfl, .int i, _, rfl, q⟩
    | str z => exact iteF q
    | lst e => exact iteF q
    | frz e => exact iteF q
    | tup e => exact iteF q
    | dic e => exact iteF q
theorem scPt : FnScope ["self"] ["self"] (defScope sPTold) := ⟨rfl, rfl, rfl, by decide +kernel, rfl, by decide +kernel, by decide +kernel⟩
theorem ok_ptold {f : Addr} {fd : FuncData} (F : Fun K "told" "Parts.told" sPTold f fd) (SP : Shp K CP) (I : Im K mg NI) : FnOk P w K mg base CX0 1 f fd ["self"] (spPTold CP) := by
  refine F.ok scPt (fun vs H Q E h' => ?_) (fun cdv A outer s H vs Q E hr h' => ?_)
  · obtain ⟨a, e, m, G, rfl, _⟩ := h'
    rfl
  · obtain ⟨a, e, m, G, rfl, p, q⟩ := h'
    obtain ⟨dx, fs, ha, pfl, pgo, pno⟩ := p.ob
    refine ⟨_, (pss_one (ps_ret (pe_callTy call_list_of (by rfl) I.lst PyProof.Rows.boot_list (pa_cons (pe_fld (pv 0) rfl) pa_nil)))), ?_⟩
    exact ⟨_, rfl, a, CP, dx, fs, _, rfl, ha, SP.cl, SP.ng, pgo, e, _, rfl, .inl (SqL.of p.go), fun l hl => q l _ (same_new hl) hl upd_same⟩
theorem scKi : FnScope ["_law_e", "_law_some_here"] ["_law_e"] (defScope sKinds) := ⟨rfl, rfl, rfl, by decide +kernel, rfl, by decide +kernel, by decide +kernel⟩
theorem ok_kinds {f : Addr} {fd : FuncData} (F : Fun K "_law_kinds" "_law_kinds" sKinds f fd) (T : Txt K mg) (N : Kd K mg HE D b0 b1 c0 c1 c2 c3 c4 c5 c6 c7 c8 c9 c10 c11 c12 c13 c14 c15 c16) : FnOkQ P w K mg base 1 f fd ["_law_e"] (spKinds D b0 b1) := by
  refine F.okQ scKi (fun vs H Q h => ?_) (fun cdv A outer s H vs Q hr h => ?_)
  · obtain ⟨e, rfl, _⟩ := h
    rfl
  · obtain ⟨e, rfl, he, q⟩ := h
    refine ⟨_, (pss_cons (ps_set (i := 1) scKi.nd rfl (Or.inl rfl) (pe_lst (pa_cons (pe_callB (call_isexc N.i0) (by rfl) T.isi PyProof.Rows.boot_isinstance (pa_cons (pv 0) (pa_cons (pe_glob (by rfl) N.m0 (show RelV (.ref c0) (.ref c0) from rfl)) pa_nil))) (pa_cons (pe_callB (call_isexc N.i1) (by rfl) T.isi PyProof.Rows.boot_isinstance (pa_cons (pv 0) (pa_cons (pe_glob (by rfl) N.m1 (show RelV (.ref c1) (.ref c1) from rfl)) pa_nil))) (pa_cons (pe_callB (call_isexc N.iv) (by rfl) T.isi PyProof.Rows.boot_isinstance (pa_cons (pv 0) (pa_cons (pe_bltn (by rfl) N.vae PyProof.Rows.Boot.«ValueError» (show RelV (.ty "ValueError") (.type "ValueError") from rfl)) pa_nil))) (pa_cons (pe_callB (call_isexc N.i2) (by rfl) T.isi PyProof.Rows.boot_isinstance (pa_cons (pv 0) (pa_cons (pe_glob (by rfl) N.m2 (show RelV (.ref c2) (.ref c2) from rfl)) pa_nil))) pa_nil)))))) (pss_cons (ps_set (i := 1) scKi.nd rfl (Or.inl rfl) (pe_op op_cat (pv 1) (pe_lst (pa_cons (pe_callB (call_isexc N.i3) (by rfl) T.isi PyProof.Rows.boot_isinstance (pa_cons (pv 0) (pa_cons (pe_glob (by rfl) N.m3 (show RelV (.ref c3) (.ref c3) from rfl)) pa_nil))) (pa_cons (pe_callB (call_isexc N.i4) (by rfl) T.isi PyProof.Rows.boot_isinstance (pa_cons (pv 0) (pa_cons (pe_glob (by rfl) N.m4 (show RelV (.ref c4) (.ref c4) from rfl)) pa_nil))) (pa_cons (pe_callB (call_isexc N.i5) (by rfl) T.isi PyProof.Rows.boot_isinstance (pa_cons (pv 0) (pa_cons (pe_glob (by rfl) N.m5 (show RelV (.ref c5) (.ref c5) from rfl)) pa_nil))) (pa_cons (pe_callB (call_isexc N.i6) (by rfl) T.isi PyProof.Rows.boot_isinstance (pa_cons (pv 0) (pa_cons (pe_glob (by rfl) N.m6 (show RelV (.ref c6) (.ref c6) from rfl)) pa_nil))) pa_nil))))))) (pss_cons (ps_set (i := 1) scKi.nd rfl (Or.inl rfl) (pe_op op_cat (pv 1) (pe_lst (pa_cons (pe_callB (call_isexc N.i7) (by rfl) T.isi PyProof.Rows.boot_isinstance (pa_cons (pv 0) (pa_cons (pe_glob (by rfl) N.m7 (show RelV (.ref c7) (.ref c7) from rfl)) pa_nil))) (pa_cons (pe_callB (call_isexc N.i8) (by rfl) T.isi PyProof.Rows.boot_isinstance (pa_cons (pv 0) (pa_cons (pe_glob (by rfl) N.m8 (show RelV (.ref c8) (.ref c8) from rfl)) pa_nil))) (pa_cons (pe_callB (call_isexc N.i9) (by rfl) T.isi PyProof.Rows.boot_isinstance (pa_cons (pv 0) (pa_cons (pe_glob (by rfl) N.m9 (show RelV (.ref c9) (.ref c9) from rfl)) pa_nil))) (pa_cons (pe_callB (call_isexc N.i10) (by rfl) T.isi PyProof.Rows.boot_isinstance (pa_cons (pv 0) (pa_cons (pe_glob (by rfl) N.m10 (show RelV (.ref c10) (.ref c10) from rfl)) pa_nil))) pa_nil))))))) (pss_cons (ps_set (i := 1) scKi.nd rfl (Or.inl rfl) (pe_op op_cat (pv 1) (pe_lst (pa_cons (pe_callB (call_isexc N.i11) (by rfl) T.isi PyProof.Rows.boot_isinstance (pa_cons (pv 0) (pa_cons (pe_glob (by rfl) N.m11 (show RelV (.ref c11) (.ref c11) from rfl)) pa_nil))) (pa_cons (pe_callB (call_isexc N.i12) (by rfl) T.isi PyProof.Rows.boot_isinstance (pa_cons (pv 0) (pa_cons (pe_glob (by rfl) N.m12 (show RelV (.ref c12) (.ref c12) from rfl)) pa_nil))) (pa_cons (pe_callB (call_isexc N.i13) (by rfl) T.isi PyProof.Rows.boot_isinstance (pa_cons (pv 0) (pa_cons (pe_glob (by rfl) N.m13 (show RelV (.ref c13) (.ref c13) from rfl)) pa_nil))) (pa_cons (pe_callB (call_isexc N.i14) (by rfl) T.isi PyProof.Rows.boot_isinstance (pa_cons (pv 0) (pa_cons (pe_glob (by rfl) N.m14 (show RelV (.ref c14) (.ref c14) from rfl)) pa_nil))) pa_nil))))))) (pss_one (ps_ret (pe_op op_cat (pv 1) (pe_lst (pa_cons (pe_callB (call_isexc N.i15) (by rfl) T.isi PyProof.Rows.boot_isinstance (pa_cons (pv 0) (pa_cons (pe_glob (by rfl) N.m15 (show RelV (.ref c15) (.ref c15) from rfl)) pa_nil))) (pa_cons (pe_callB (call_isexc N.i16) (by rfl) T.isi PyProof.Rows.boot_isinstance (pa_cons (pv 0) (pa_cons (pe_glob (by rfl) N.m16 (show RelV (.ref c16) (.ref c16) from rfl)) pa_nil))) pa_nil)))))))))), ?_⟩
    refine ⟨_, rfl, e, rfl, he, _, rfl, e, rfl, he, _, rfl, e, rfl, he, _, rfl, e, rfl, he, by show 4 ≤ sizeLine; decide, fun p hp => ?_⟩
    have s1 := same_new (o := .lst [V.bl b0, V.bl b1, V.bl true, V.bl false]) hp
    have h1 := s1 _ _ he
    have z1 : upd H p (.lst [V.bl b0, V.bl b1, V.bl true, V.bl false]) p = some (.lst [V.bl b0, V.bl b1, V.bl true, V.bl false]) := upd_same
    generalize upd H p (.lst [V.bl b0, V.bl b1, V.bl true, V.bl false]) = H1 at *
    refine ⟨_, rfl, _, rfl, e, rfl, h1, _, rfl, e, rfl, h1, _, rfl, e, rfl, h1, _, rfl, e, rfl, h1, by show 4 ≤ sizeLine; decide, fun p2a hp2a => ?_⟩
    have t2 := same_new (o := .lst [V.bl false, V.bl false, V.bl false, V.bl false]) hp2a
    refine ⟨_, p2a, _, _, rfl, rfl, t2 _ _ z1, upd_same, by show 8 ≤ sizeLine; decide, fun p2 hp2 => ?_⟩
    have t2b := same_new (o := .lst ([V.bl b0, V.bl b1, V.bl true, V.bl false] ++ [V.bl false, V.bl false, V.bl false, V.bl false])) hp2
    have s2 := (s1.trans t2).trans t2b
    have h2 := t2b _ _ (t2 _ _ h1)
    have z2 : upd (upd H1 p2a (.lst [V.bl false, V.bl false, V.bl false, V.bl false])) p2 (.lst ([V.bl b0, V.bl b1, V.bl true, V.bl false] ++ [V.bl false, V.bl false, V.bl false, V.bl false])) p2 = some (.lst ([V.bl b0, V.bl b1, V.bl true, V.bl false] ++ [V.bl false, V.bl false, V.bl false, V.bl false])) := upd_same
    generalize upd (upd H1 p2a (.lst [V.bl false, V.bl false, V.bl false, V.bl false])) p2 (.lst ([V.bl b0, V.bl b1, V.bl true, V.bl false] ++ [V.bl false, V.bl false, V.bl false, V.bl false])) = H2 at *
    refine ⟨_, rfl, _, rfl, e, rfl, h2, _, rfl, e, rfl, h2, _, rfl, e, rfl, h2, _, rfl, e, rfl, h2, by show 4 ≤ sizeLine; decide, fun p3a hp3a => ?_⟩
    have t3 := same_new (o := .lst [V.bl false, V.bl false, V.bl false, V.bl false]) hp3a
    refine ⟨_, p3a, _, _, rfl, rfl, t3 _ _ z2, upd_same, by show 12 ≤ sizeLine; decide, fun p3 hp3 => ?_⟩
    have t3b := same_new (o := .lst (([V.bl b0, V.bl b1, V.bl true, V.bl false] ++ [V.bl false, V.bl false, V.bl false, V.bl false]) ++ [V.bl false, V.bl false, V.bl false, V.bl false])) hp3
    have s3 := (s2.trans t3).trans t3b
    have h3 := t3b _ _ (t3 _ _ h2)
    have z3 : upd (upd H2 p3a (.lst [V.bl false, V.bl false, V.bl false, V.bl false])) p3 (.lst (([V.bl b0, V.bl b1, V.bl true, V.bl false] ++ [V.bl false, V.bl false, V.bl false, V.bl false]) ++ [V.bl false, V.bl false, V.bl false, V.bl false])) p3 = some (.lst (([V.bl b0, V.bl b1, V.bl true, V.bl false] ++ [V.bl false, V.bl false, V.bl false, V.bl false]) ++ [V.bl false, V.bl false, V.bl false, V.bl false])) := upd_same
    generalize upd (upd H2 p3a (.lst [V.bl false, V.bl false, V.bl false, V.bl false])) p3 (.lst (([V.bl b0, V.bl b1, V.bl true, V.bl false] ++ [V.bl false, V.bl false, V.bl false, V.bl false]) ++ [V.bl false, V.bl false, V.bl false, V.bl false])) = H3 at *
    refine ⟨_, rfl, _, rfl, e, rfl, h3, _, rfl, e, rfl, h3, _, rfl, e, rfl, h3, _, rfl, e, rfl, h3, by show 4 ≤ sizeLine; decide, fun p4a hp4a => ?_⟩
    have t4 := same_new (o := .lst [V.bl false, V.bl false, V.bl false, V.bl false]) hp4a
    refine ⟨_, p4a, _, _, rfl, rfl, t4 _ _ z3, upd_same, by show 16 ≤ sizeLine; decide, fun p4 hp4 => ?_⟩
    have t4b := same_new (o := .lst (([V.bl b0, V.bl b1, V.bl true, V.bl false] ++ [V.bl false, V.bl false, V.bl false, V.bl false] ++ [V.bl false, V.bl false, V.bl false, V.bl false]) ++ [V.bl false, V.bl false, V.bl false, V.bl false])) hp4
    have s4 := (s3.trans t4).trans t4b
    have h4 := t4b _ _ (t4 _ _ h3)
    have z4 : upd (upd H3 p4a (.lst [V.bl false, V.bl false, V.bl false, V.bl false])) p4 (.lst (([V.bl b0, V.bl b1, V.bl true, V.bl false] ++ [V.bl false, V.bl false, V.bl false, V.bl false] ++ [V.bl false, V.bl false, V.bl false, V.bl false]) ++ [V.bl false, V.bl false, V.bl false, V.bl false])) p4 = some (.lst (([V.bl b0, V.bl b1, V.bl true, V.bl false] ++ [V.bl false, V.bl false, V.bl false, V.bl false] ++ [V.bl false, V.bl false, V.bl false, V.bl false]) ++ [V.bl false, V.bl false, V.bl false, V.bl false])) := upd_same
    generalize upd (upd H3 p4a (.lst [V.bl false, V.bl false, V.bl false, V.bl false])) p4 (.lst (([V.bl b0, V.bl b1, V.bl true, V.bl false] ++ [V.bl false, V.bl false, V.bl false, V.bl false] ++ [V.bl false, V.bl false, V.bl false, V.bl false]) ++ [V.bl false, V.bl false, V.bl false, V.bl false])) = H4 at *
    refine ⟨_, rfl, _, rfl, e, rfl, h4, _, rfl, e, rfl, h4, by show 2 ≤ sizeLine; decide, fun p5a hp5a => ?_⟩
    have t5 := same_new (o := .lst [V.bl false, V.bl false]) hp5a
    refine ⟨_, p5a, _, _, rfl, rfl, t5 _ _ z4, upd_same, by show 18 ≤ sizeLine; decide, fun p5 hp5 => ?_⟩
    exact q p5 _ ((s4.trans t5).trans (same_new hp5)) upd_same
theorem scDo : FnScope ["_law_part", "_law_word", "_law_page", "_law_frame_here"] ["_law_part", "_law_word", "_law_page", "_law_frame_here"] (defScope sDo) := ⟨rfl, rfl, rfl, by decide +kernel, rfl, by decide +kernel, by decide +kernel⟩
theorem ok_do {f f1 f2 f3 f4 : Addr} {fd fd1 fd2 fd3 fd4 : FuncData} (F : Fun K "_law_do" "_law_do" sDo f fd) (A1 : Me K CP "alone" "Parts.alone" sAlone ["self", "page"] f1 fd1) (GA1 : FnOk P w K mg base (CXr P w) 8 f1 fd1 ["self", "page"] (spAlone C CP NP NF))
    (A2 : Me K CP "lead" "Parts.lead" sLead ["self", "page", "frame"] f2 fd2) (GA2 : FnOk P w K mg base (CXr P w) 6 f2 fd2 ["self", "page", "frame"] (spLead C CP NP NF)) (A3 : Me K CP "give" "Parts.give" sGive ["self", "page"] f3 fd3) (GA3 : FnOk P w K mg base (CXr P w) 6 f3 fd3 ["self", "page"] (spGive C CP NP))
    (A4 : Me K CP "fresh" "Parts.fresh" sFresh ["self", "page"] f4 fd4) (GA4 : FnOk P w K mg base (CXr P w) 3 f4 fd4 ["self", "page"] (spFresh C CP NP NF)) (SP : Shp K CP) : FnOk P w K mg base (CXr P w) 9 f fd ["_law_part", "_law_word", "_law_page", "_law_frame_here"] (spDo C CP NP NF) := by
  refine F.okR scDo (fun vs H Q E h' => ?_) (fun cdv A outer s H vs Q E hr h' => ?_)
  · obtain ⟨a, e, m, h, g, ns, ps, G, wd, x, y, rfl, _⟩ := h'
    rfl
  · obtain ⟨a, e, m, h, g, ns, ps, G, wd, x, y, rfl, W, p, ne, tx, ty, hb⟩ := h'
    obtain ⟨dx, fs, ha, pfl, pgo, pno⟩ := p.ob
    have hr3 : Room 3 _ := hr.mono (by decide)
    have hr6 : Room 6 _ := hr.mono (by decide)
    refine ⟨_, (pss_cons (ps_if (pt_cmpR op_eq (pv 1) pe_str (nomark _)) (pss_one (ps_ret (pe_meth (pv 0) SP.cl A1.m GA1 hr A1.b .nil passR (pa_cons (pv 2) pa_nil)))) pss_nil) (pss_cons (ps_if (pt_cmpR op_eq (pv 1) pe_str (nomark _)) (pss_one (ps_ret (pe_meth (pv 0) SP.cl A2.m GA2 hr6 A2.b .nil passR (pa_cons (pv 2) (pa_cons (pv 3) pa_nil))))) pss_nil) (pss_cons (ps_if (pt_cmpR op_eq (pv 1) pe_str (nomark _)) (pss_one (ps_ret (pe_meth (pv 0) SP.cl A3.m GA3 hr6 A3.b .nil passR (pa_cons (pv 2) pa_nil)))) pss_nil) (pss_one (ps_ret (pe_meth (pv 0) SP.cl A4.m GA4 hr3 A4.b .nil passR (pa_cons (pv 2) pa_nil))))))), ?_⟩
    rcases hb with ⟨hb, q⟩ | ⟨⟨rfl, hx, hy⟩, q⟩
    · rcases hb with ⟨hw, hx⟩ | ⟨rfl, hx⟩
      · have no : ∀ (i f : Nat), x = .int i → G[i]? = some (some f) → False := fun i f ex hi => by rw [ex, frV_at hi] at hx; cases hx
        rcases hw with rfl | rfl | rfl
        · exact ⟨_, rfl, rfl, _, rfl, iteTS eq_str ⟨_, rfl, a, dx, fs, rfl, ha, pno _ (by decide +kernel) (by decide +kernel), _, rfl, a, e, m, h, g, ns, ps, G, x, rfl, W, p, ne, tx, (fun _ => q), fun i f ex hi => (no i f ex hi).elim⟩⟩
        · exact ⟨_, rfl, rfl, _, rfl, iteFS (ne_str (by decide +kernel)) ⟨_, rfl, rfl, _, rfl, iteTS eq_str ⟨_, rfl, a, dx, fs, rfl, ha, pno _ (by decide +kernel) (by decide +kernel), _, rfl, _, rfl, a, e, m, h, g, ns, ps, G, x, y, rfl, W, p, ne, tx, ty, (fun _ => q), (fun z => absurd hx z), fun i f t ex hi => (no i f ex hi).elim⟩⟩⟩
        · exact ⟨_, rfl, rfl, _, rfl, iteFS (ne_str (by decide +kernel)) ⟨_, rfl, rfl, _, rfl, iteFS (ne_str (by decide +kernel)) ⟨_, rfl, rfl, _, rfl, iteTS eq_str ⟨_, rfl, a, dx, fs, rfl, ha, pno _ (by decide +kernel) (by decide +kernel), _, rfl, a, e, m, h, g, ns, ps, G, x, rfl, W, p, ne, tx, (fun _ => q), fun i f ex hi => (no i f ex hi).elim⟩⟩⟩⟩
      · refine ⟨_, rfl, rfl, _, rfl, iteFS (ne_str (by decide +kernel)) ⟨_, rfl, rfl, _, rfl, iteFS (ne_str (by decide +kernel)) ⟨_, rfl, rfl, _, rfl, iteFS (ne_str (by decide +kernel)) ⟨_, rfl, a, dx, fs, rfl, ha, pno _ (by decide +kernel) (by decide +kernel), _, rfl, a, e, m, h, g, ns, ps, G, x, rfl, W, p, ne, tx, (fun _ => q), fun i ex hi => ?_⟩⟩⟩⟩
        exfalso
        rcases hx with z | z
        · rw [ex, below_of (by omega) (by have := (List.getElem?_eq_some_iff.mp hi).1; omega)] at z; cases z
        · exact z (by rw [ex]; exact frV_at hi)
    · exact ⟨_, rfl, rfl, _, rfl, iteFS (ne_str (by decide +kernel)) ⟨_, rfl, rfl, _, rfl, iteTS eq_str ⟨_, rfl, a, dx, fs, rfl, ha, pno _ (by decide +kernel) (by decide +kernel), _, rfl, _, rfl, a, e, m, h, g, ns, ps, G, x, y, rfl, W, p, ne, tx, ty, (fun z => absurd z hx), (fun _ _ => q), fun i f t ex hi et hh => absurd hh (by rw [hy]; decide)⟩⟩⟩
theorem scRe : FnScope ["_law_part", "_law_word", "_law_page", "_law_frame_here", "_law_due", "_law_kinds_here", "_law_e"] ["_law_part", "_law_word", "_law_page", "_law_frame_here", "_law_due"] (defScope sRef) := ⟨rfl, rfl, rfl, by decide +kernel, rfl, by decide +kernel, by decide +kernel⟩
theorem ok_ref {f f1 f2 : Addr} {fd fd1 fd2 : FuncData} (F : Fun K "_law_refused" "_law_refused" sRef f fd) (DD : Dn K mg "_law_do" sDo ["_law_part", "_law_word", "_law_page", "_law_frame_here"] f1 fd1) (GD : FnOk P w K mg base (CXr P w) 9 f1 fd1 ["_law_part", "_law_word", "_law_page", "_law_frame_here"] (spDo C CP NP NF))
    (DK : Dn K mg "_law_kinds" sKinds ["_law_e"] f2 fd2) (GK : FnOkQ P w K mg base 1 f2 fd2 ["_law_e"] (spKinds2 NP NF)) (X0 : Kd K mg HE NP true false c0 c1 c2 c3 c4 c5 c6 c7 c8 c9 c10 c11 c12 c13 c14 c15 c16) (X1 : Kd K mg HE NF false true c0 c1 c2 c3 c4 c5 c6 c7 c8 c9 c10 c11 c12 c13 c14 c15 c16) : FnOk P w K mg base CX0 10 f fd ["_law_part", "_law_word", "_law_page", "_law_frame_here", "_law_due"] (spRef C CP) := by
  refine F.ok scRe (fun vs H Q E h' => ?_) (fun cdv A outer s H vs Q E hr h' => ?_)
  · obtain ⟨a, e, m, h, g, ns, ps, G, wd, x, y, due, rfl, _⟩ := h'
    rfl
  · obtain ⟨a, e, m, h, g, ns, ps, G, wd, x, y, due, rfl, W, p, ne, tx, ty, hb, q⟩ := h'
    have hr1 : Room 1 _ := hr.mono (by decide)
    refine ⟨_, pss_cons (ps_set (i := 5) scRe.nd rfl (Or.inl rfl) (pe_lst pa_nil))
      (pss_cons (ps_try (i := 6) scRe.nd rfl rfl rfl rfl X0.he
        (psx_expr (pex_call GD hr (by rfl) DD.m DD.F.kp DD.b .nil (pa_cons (pv 0) (pa_cons (pv 1) (pa_cons (pv 2) (pa_cons (pv 3) pa_nil))))))
        (fun e => pss_one (ps_set (i := 5) scRe.nd rfl (Or.inl rfl) (pe_callQ GK (RoomQ.of hr1 _) (by rfl) DK.m DK.F.kp DK.b (pa_cons (pv 6) pa_nil)))))
      (pss_one (ps_ret (pe_cmpR (op_eqD hr.units) (pv 5) (pe_op op_cat (pe_lst (pa_cons (pe_cmpR op_eq (pv 4) pe_str (nomark _)) (pa_cons (pe_cmpR op_eq (pv 4) pe_str (nomark _)) (pa_cons pe_bl pa_nil)))) (pe_op op_rep (pe_lst (pa_cons pe_bl pa_nil)) pe_int)) (nomark _))))), ?_⟩
    refine ⟨by show 0 ≤ sizeLine; decide, fun p3 hp3 => ?_⟩
    have s0 := same_new (o := .lst []) hp3
    rcases hb with ⟨hb, rfl⟩ | ⟨hb, rfl⟩
    · refine ⟨_, rfl, _, rfl, _, rfl, _, rfl, a, e, m, h, g, ns, ps, G, wd, x, y, rfl, W.same s0, p.same s0, ne, tx.same s0, ty.same s0, .inl ⟨hb, ?_⟩⟩
      refine ⟨X0.ex, fun e he => ?_⟩
      have s2 := same_new (o := xob e (.ref NP)) he
      refine ⟨_, rfl, .inl ⟨e, rfl, upd_same, fun l H3 s3 hl => ?_⟩⟩
      refine ⟨_, rfl, _, rfl, rfl, _, rfl, rfl, by show 3 ≤ sizeLine; decide, fun p8 hp8 => ?_⟩
      rw [show decide (V.str "page" = V.str "page") = true from eq_str, show decide (V.str "page" = V.str "frame") = false from ne_str (by decide +kernel)]
      have s8 := same_new (o := .lst [V.bl true, V.bl false, V.bl true]) hp8
      refine new_rep (n := 15) (by decide) fun p9 X9 r9 z9 => ?_
      refine ⟨p8, p9, _, _, rfl, rfl, r9 _ _ upd_same, z9, by show 18 ≤ sizeLine; decide, fun p10 hp10 => ?_⟩
      have s10 := same_new (o := .lst ([V.bl true, V.bl false, V.bl true] ++ List.replicate 15 (V.bl false))) hp10
      refine ⟨_, _, .lst (SqL.of (s10 _ _ (r9 _ _ (s8 _ _ hl)))) (datsB (kb true false)), .lst (xs := (kb true false).map V.bl) (SqL.of (upd_same.trans rfl)) (datsB (kb true false)), shapedB _, shapedB _, ?_⟩
      rw [show PyData.eqv (.list ((kb true false).map PyData.bool)) (.list ((kb true false).map PyData.bool)) = true from eqvB _]
      exact q _ ((((s0.trans s2).trans s3).trans s8).trans (r9.trans s10))
    · refine ⟨_, rfl, _, rfl, _, rfl, _, rfl, a, e, m, h, g, ns, ps, G, wd, x, y, rfl, W.same s0, p.same s0, ne, tx.same s0, ty.same s0, .inr ⟨hb, ?_⟩⟩
      refine ⟨X1.ex, fun e he => ?_⟩
      have s2 := same_new (o := xob e (.ref NF)) he
      refine ⟨_, rfl, .inr ⟨e, rfl, upd_same, fun l H3 s3 hl => ?_⟩⟩
      refine ⟨_, rfl, _, rfl, rfl, _, rfl, rfl, by show 3 ≤ sizeLine; decide, fun p8 hp8 => ?_⟩
      rw [show decide (V.str "frame" = V.str "page") = false from ne_str (by decide +kernel), show decide (V.str "frame" = V.str "frame") = true from eq_str]
      have s8 := same_new (o := .lst [V.bl false, V.bl true, V.bl true]) hp8
      refine new_rep (n := 15) (by decide) fun p9 X9 r9 z9 => ?_
      refine ⟨p8, p9, _, _, rfl, rfl, r9 _ _ upd_same, z9, by show 18 ≤ sizeLine; decide, fun p10 hp10 => ?_⟩
      have s10 := same_new (o := .lst ([V.bl false, V.bl true, V.bl true] ++ List.replicate 15 (V.bl false))) hp10
      refine ⟨_, _, .lst (SqL.of (s10 _ _ (r9 _ _ (s8 _ _ hl)))) (datsB (kb false true)), .lst (xs := (kb false true).map V.bl) (SqL.of (upd_same.trans rfl)) (datsB (kb false true)), shapedB _, shapedB _, ?_⟩
      rw [show PyData.eqv (.list ((kb false true).map PyData.bool)) (.list ((kb false true).map PyData.bool)) = true from eqvB _]
      exact q _ ((((s0.trans s2).trans s3).trans s8).trans (r9.trans s10))
end
end K44

end
section
set_option Elab.async false
set_option linter.all false
set_option maxRecDepth 100000
set_option maxHeartbeats 4000000
namespace K44
open PySem L2
/-! how many lead where -/
def sumC (G : Gs) : Nat → Nat
  | 0 => 0
  | F + 1 => sumC G F + G.count (some F)
theorem sumC_nil : ∀ F, sumC [] F = 0
  | 0 => rfl
  | F + 1 => by rw [sumC, sumC_nil F]; rfl
theorem sumC_none (r : Gs) : ∀ F, sumC (none :: r) F = sumC r F
  | 0 => rfl
  | F + 1 => by rw [sumC, sumC, sumC_none r F, List.count_cons_of_ne (by simp)]
theorem sumC_far (r : Gs) (f : Nat) : ∀ F, F ≤ f → sumC (some f :: r) F = sumC r F
  | 0, _ => rfl
  | F + 1, h => by rw [sumC, sumC, sumC_far r f F (by omega), List.count_cons_of_ne (by simp; omega)]
theorem sumC_some (r : Gs) (f : Nat) : ∀ F, sumC (some f :: r) F ≤ sumC r F + 1
  | 0 => Nat.zero_le _
  | F + 1 => by
    by_cases h : f = F
    · subst h
      rw [sumC, sumC, sumC_far r f f (Nat.le_refl _), List.count_cons_self]
      omega
    · have := sumC_some r f F
      rw [sumC, sumC, List.count_cons_of_ne (by simp; exact h)]
      omega
theorem sumC_le : ∀ (G : Gs) (F : Nat), sumC G F ≤ G.countP Option.isSome
  | [], F => by rw [sumC_nil]; exact Nat.zero_le _
  | none :: r, F => by
    rw [sumC_none]
    have := sumC_le r F
    rw [List.countP_cons_of_neg (by simp)]
    exact this
  | some f :: r, F => by
    have h1 := sumC_some r f F
    have h2 := sumC_le r F
    rw [List.countP_cons_of_pos (by rfl)]
    omega
theorem getT' {ns : List Int} {f : Nat} (h : f < ns.length) : ns[f]? = some (ns.getD f 0) := by
  rw [List.getD_eq_getElem?_getD, List.getElem?_eq_getElem h]
  rfl
theorem free_many {ns : List Int} {A B : Gs} (h : ∀ f, ns.getD f 0 = (A.count (some f) : Nat) + (B.count (some f) : Nat)) : ∀ F, F ≤ ns.length → F ≤ (ns.take F).count 0 + sumC A F + sumC B F
  | 0, _ => Nat.zero_le _
  | F + 1, hF => by
    have ih := free_many h F (by omega)
    rw [List.take_add_one, getT' (show F < ns.length by omega)]
    show F + 1 ≤ ((ns.take F) ++ [ns.getD F 0]).count 0 + sumC A (F + 1) + sumC B (F + 1)
    rw [List.count_append, sumC, sumC]
    have hf := h F
    by_cases z : ns.getD F 0 = 0
    · rw [z]
      simp
      omega
    · have : 1 ≤ A.count (some F) + B.count (some F) := by omega
      omega
theorem free_more {ns : List Int} {A B : Gs} (h : ∀ f, ns.getD f 0 = (A.count (some f) : Nat) + (B.count (some f) : Nat)) {t : Nat} (ht : 1 < ns.getD t 0) : ∀ F, F ≤ ns.length → t < F → F + 1 ≤ (ns.take F).count 0 + sumC A F + sumC B F
  | 0, _, h0 => absurd h0 (Nat.not_lt_zero _)
  | F + 1, hF, h1 => by
    rw [List.take_add_one, getT' (show F < ns.length by omega)]
    show F + 1 + 1 ≤ ((ns.take F) ++ [ns.getD F 0]).count 0 + sumC A (F + 1) + sumC B (F + 1)
    rw [List.count_append, sumC, sumC]
    have hf := h F
    by_cases hF2 : t = F
    · subst hF2
      have ih := free_many h t (by omega)
      have : 2 ≤ A.count (some t) + B.count (some t) := by omega
      omega
    · have ih := free_more h ht F (by omega) (by omega)
      by_cases z : ns.getD F 0 = 0
      · rw [z]
        simp
        omega
      · have : 1 ≤ A.count (some F) + B.count (some F) := by omega
        omega
theorem free_at {ns : List Int} {A B : Gs} (h : ∀ f, ns.getD f 0 = (A.count (some f) : Nat) + (B.count (some f) : Nat)) : ns.length ≤ ns.count 0 + A.countP Option.isSome + B.countP Option.isSome := by
  have h1 := free_many h ns.length (Nat.le_refl _)
  rw [List.take_length] at h1
  have h2 := sumC_le A ns.length
  have h3 := sumC_le B ns.length
  omega
theorem free_at2 {ns : List Int} {A B : Gs} (h : ∀ f, ns.getD f 0 = (A.count (some f) : Nat) + (B.count (some f) : Nat)) {t : Nat} (ht : 1 < ns.getD t 0) (tl : t < ns.length) : ns.length + 1 ≤ ns.count 0 + A.countP Option.isSome + B.countP Option.isSome := by
  have h1 := free_more h ht ns.length (Nat.le_refl _) tl
  rw [List.take_length] at h1
  have h2 := sumC_le A ns.length
  have h3 := sumC_le B ns.length
  omega
theorem somes_le (G : Gs) : G.countP Option.isSome ≤ G.length := List.countP_le_length
theorem somes_lt {G : Gs} {i : Nat} (h : G[i]? = some none) : G.countP Option.isSome < G.length := by
  rcases Nat.lt_or_ge (G.countP Option.isSome) G.length with z | z
  · exact z
  · have e : G.countP Option.isSome = G.length := Nat.le_antisymm List.countP_le_length z
    have := List.countP_eq_length.mp e none (List.mem_of_getElem? h)
    cases this
theorem count_setG {G : Gs} {i : Nat} {o x y : Option Nat} (h : G[i]? = some o) : (G.set i x).count y = G.count y - (if o = y then 1 else 0) + (if x = y then 1 else 0) := by
  obtain ⟨hi, he⟩ := List.getElem?_eq_some_iff.mp h
  rw [List.count_set hi, he]
  simp only [beq_iff_eq]
theorem count_pos {G : Gs} {i : Nat} {o : Option Nat} (h : G[i]? = some o) : 0 < G.count o := List.count_pos_iff.mpr (List.mem_of_getElem? h)
structure Rw (H : Hp) (rl r0 r1 : Addr) (A B : Gs) : Prop where
  b : H rl = some (.lst [.ref r0, .ref r1])
  a0 : H r0 = some (.lst (A.map goV))
  a1 : H r1 = some (.lst (B.map goV))
theorem Rw.same {H H' : Hp} {rl r0 r1 : Addr} {A B : Gs} (r : Rw H rl r0 r1 A B) (s : Same H H') : Rw H' rl r0 r1 A B := ⟨s _ _ r.b, s _ _ r.a0, s _ _ r.a1⟩
theorem flatG : ∀ G : Gs, (G.map goV).all flatV = true
  | [] => rfl
  | none :: r => by rw [List.map_cons, List.all_cons, flatG r]; rfl
  | some f :: r => by rw [List.map_cons, List.all_cons, flatG r]; rfl
theorem eqV_go (o : Option Nat) (f : Nat) : eqV (goV o) (.int (f : Nat)) = (o == some f) := by
  cases o with
  | none => rfl
  | some t =>
    show ((t : Int) == (f : Int)) = (some t == some f)
    rw [Bool.eq_iff_iff]
    simp
    omega
theorem inV_go : ∀ (G : Gs) (f : Nat), inV (.int (f : Nat)) (G.map goV) = decide (some f ∈ G)
  | [], f => by simp [inV]
  | o :: r, f => by
    have ih := inV_go r f
    unfold inV at ih ⊢
    rw [List.map_cons, List.any_cons, ih, eqV_go, Bool.eq_iff_iff]
    simp only [Bool.or_eq_true, beq_iff_eq, decide_eq_true_eq, List.mem_cons]
    constructor
    · rintro (h | h)
      · exact .inl h.symm
      · exact .inr h
    · rintro (h | h)
      · exact .inl h.symm
      · exact .inr h
theorem countP_go : ∀ (G : Gs) (f : Nat) {us : List Value}, Vals (G.map goV) us → us.countP (eqU (.int (f : Nat))) = G.count (some f)
  | [], f, us, h => by cases h; rfl
  | o :: r, f, us, h => by
    cases h with
    | cons q t =>
      rw [List.countP_cons, List.count_cons, countP_go r f t, eqU_of q (by cases o <;> rfl), eqV_go]
section
variable {X : Cx}
def rCountG : V → List V → Hp → VK → Prop := fun x vs H Q => ∃ (l : Addr) (k : Nat) (G : Gs), x = .ref l ∧ vs = [.int (k : Nat)] ∧ H l = some (.lst (G.map goV)) ∧ Q (.int (G.count (some k) : Nat)) H
theorem mt_countG : MtM X "list.count" rCountG := by
  intro pins s σ H x vs v us Q I rx rv h
  obtain ⟨l, k, G, rfl, rfl, hH, q⟩ := h
  cases rx
  obtain ⟨u, rfl, ru⟩ := rv.one
  obtain ⟨z, its, n, r, hl, e⟩ := I.lstM hH
  have m := mem_eqAt (A := X.A.in1) (s := s) ru rfl r (flatG G)
  have cp := countP_go G k r
  refine call_meets PySem.F.slot_list_count ⟨_, e, rfl⟩ PySem.F.entry_list_count (PySem.F.args_list_count_2 _ _)
    (SeqAt.list_countAt l its.toArray n none #[] u (eqU (.int (k : Nat)))) ⟨e, fun y hy => m y (by simpa using hy), ?_⟩
  have e2 : its.toArray.toList = its := by simp
  rw [e2, cp]
  exact ⟨.int _, H, I.tok _, ⟨_, rfl⟩, q⟩
end
def spImg : Sp := fun vs H Q _ => ∃ (c : Int) (n : Nat), vs = [.int c, .int n] ∧ n ≤ 24 ∧ ∀ D H' qs, Same H H' → Pg H' D qs → Good qs → qs.length = n → (∀ b, At D qs b → H b = none) → Q (.ref D) H'
def spLeast : Sp := fun vs H Q _ => ∃ (rl r0 r1 : Addr) (A B : Gs), vs = [.ref rl] ∧ Rw H rl r0 r1 A B ∧ ∀ j : Nat, some j ∉ A → some j ∉ B → (∀ i, i < j → some i ∈ A ∨ some i ∈ B) → Q (.int j) H
def spCount : Sp := fun vs H Q _ => ∃ (rl r0 r1 : Addr) (A B : Gs) (f : Nat), vs = [.ref rl, .int f] ∧ Rw H rl r0 r1 A B ∧ Q (.int ((A.count (some f) : Nat) + (B.count (some f) : Nat))) H
def spLFree : Sp := fun vs H Q _ => ∃ (rl r0 r1 : Addr) (A B : Gs) (ns : List Int), vs = [.ref rl, .int ns.length] ∧ ns.length ≤ 200 ∧ Rw H rl r0 r1 A B ∧ (∀ f, ns.getD f 0 = (A.count (some f) : Nat) + (B.count (some f) : Nat)) ∧ ∀ H', Same H H' → Q (.int (ns.count 0 : Nat)) H'
def spSome : Sp := fun vs H Q _ => ∃ (rl r0 r1 : Addr) (A B : Gs) (c : Int), vs = [.ref rl, .int c] ∧ Rw H rl r0 r1 A B ∧ A.length ≤ 1000 ∧ B.length ≤ 1000 ∧ ∀ o H', Same H H' → (∀ t : Nat, o = some t → some t ∈ A ∨ some t ∈ B) → Q (goV o) H'
def spLFrame : Sp := fun vs H Q _ => ∃ o : Option Nat, vs = [goV o, goV o] ∧ Q (.bl true) H
theorem far_le {A B : Gs} : ∀ f : Nat, (∀ i, i < f → some i ∈ A ∨ some i ∈ B) → f ≤ sumC A f + sumC B f
  | 0, _ => Nat.zero_le _
  | f + 1, h => by
    have ih := far_le f fun i hi => h i (by omega)
    rw [sumC, sumC]
    have h1 : 1 ≤ A.count (some f) + B.count (some f) := by
      rcases h f (by omega) with z | z
      · have := List.count_pos_iff.mpr z; omega
      · have := List.count_pos_iff.mpr z; omega
    omega
theorem far_len {A B : Gs} {f : Nat} (h : ∀ i, i < f → some i ∈ A ∨ some i ∈ B) : f ≤ A.length + B.length := by
  have h1 := far_le f h
  have h2 := sumC_le A f
  have h3 := sumC_le B f
  have h4 := somes_le A
  have h5 := somes_le B
  omega
theorem zero_take {ns : List Int} (p : Nat → Bool) (h : ∀ f, p f = decide (ns.getD f 0 = 0)) : ∀ k, k ≤ ns.length → (ns.take k).count 0 = ((List.range k).filter p).length
  | 0, _ => rfl
  | k + 1, hk => by
    rw [List.take_add_one, getT' (show k < ns.length by omega)]
    show ((ns.take k) ++ [ns.getD k 0]).count 0 = _
    rw [List.count_append, zero_take p h k (by omega), List.range_succ, List.filter_append, List.length_append]
    congr 1
    have hp := h k
    by_cases z : ns.getD k 0 = 0
    · rw [z, List.filter_cons, if_pos (by rw [hp, decide_eq_true z])]
      rfl
    · rw [List.filter_cons, if_neg (by rw [hp, decide_eq_false z]; exact Bool.false_ne_true)]
      rw [List.count_singleton, if_neg (by simpa using z)]
      rfl
section
variable {P : Program} {w : World} {K : PySem.W.Frag} {mg : Str → Option Value} {base : Heap} {C CP NF NP NL NW NI : Addr}
theorem scLs : FnScope ["_law_rows", "_law_frame_here"] ["_law_rows"] (defScope sLeast) := ⟨rfl, rfl, rfl, by decide +kernel, rfl, by decide +kernel, by decide +kernel⟩
theorem ok_least {f : Addr} {fd : FuncData} (F : Fun K "_law_least" "_law_least" sLeast f fd) : FnOk P w K mg base CX0 1 f fd ["_law_rows"] spLeast := by
  refine F.ok scLs (fun vs H Q E h' => ?_) (fun cdv A' outer s H vs Q E hr h' => ?_)
  · obtain ⟨rl, r0, r1, A, B, rfl, _⟩ := h'
    rfl
  · obtain ⟨rl, r0, r1, A, B, rfl, rw, q⟩ := h'
    refine ⟨_, (pss_cons (ps_set (i := 1) scLs.nd rfl (Or.inl rfl) pe_int) (pss_cons (ps_while PassesOwn.never (PW.pt (pw_or (pt_cmpR op_in_seq (pv 1) (pe_ix ix_list (pv 0) pe_int (fun _ _ => rfl)) (by rfl)) (pw_or1 (pt_cmpR op_in_seq (pv 1) (pe_ix ix_list (pv 0) pe_int (fun _ _ => rfl)) (by rfl))))) (pss_one (ps_set (i := 1) scLs.nd rfl (Or.inl rfl) (pe_op op_add (pv 1) pe_int)))) (pss_one (ps_ret (pv 1))))), ?_⟩
    refine ⟨fun m σ H' => H' = H ∧ ∃ f : Nat, σ = [some (.ref rl), some (.int f)] ∧ m = A.length + B.length - f ∧ ∀ i, i < f → some i ∈ A ∨ some i ∈ B, ⟨_, rfl, 0, rfl, rfl, fun i hi => absurd hi (Nat.not_lt_zero _)⟩, ?_⟩
    rintro m σ H' ⟨rfl, f, rfl, rfl, hf⟩
    have step : (some f ∈ A ∨ some f ∈ B) → ∃ N : St → Hp → Prop, (∀ σ' H2, N σ' H2 → ∃ m', m' < A.length + B.length - f ∧ H2 = H' ∧ ∃ f : Nat, σ' = [some (.ref rl), some (.int f)] ∧ m' = A.length + B.length - f ∧ ∀ i, i < f → some i ∈ A ∨ some i ∈ B) ∧ N [some (.ref rl), some (.int ((f : Int) + 1))] H' := fun hin => by
      have hf2 : ∀ i, i < f + 1 → some i ∈ A ∨ some i ∈ B := fun i hi => by
        rcases Nat.lt_or_ge i f with z | z
        · exact hf i z
        · obtain rfl : i = f := by omega
          exact hin
      have hl := far_len hf2
      exact ⟨fun σ' H2 => H2 = H' ∧ σ' = [some (.ref rl), some (.int ((f + 1 : Nat) : Int))], fun σ' H2 ⟨z1, z2⟩ => ⟨A.length + B.length - (f + 1), by omega, z1, f + 1, z2, rfl, hf2⟩, rfl, rfl⟩
    refine ⟨_, rfl, _, rfl, rl, _, _, _, rfl, rfl, SqL.of rw.b, rfl, r0, _, rfl, .inl (SqL.of rw.a0), rfl, flatG A, _, rfl, ?_⟩
    by_cases hA : some f ∈ A
    · refine iteTS (by show inV (.int (f : Nat)) (A.map goV) = true; rw [inV_go, decide_eq_true hA]) (iteT ?_)
      obtain ⟨N, h1, h2⟩ := step (.inl hA)
      exact ⟨N, h1, _, rfl, _, 1, rfl, rfl, h2⟩
    · refine iteFS (by show inV (.int (f : Nat)) (A.map goV) = false; rw [inV_go, decide_eq_false hA]) ?_
      refine ⟨_, rfl, _, rfl, rl, _, _, _, rfl, rfl, SqL.of rw.b, rfl, r1, _, rfl, .inl (SqL.of rw.a1), rfl, flatG B, _, rfl, ?_⟩
      by_cases hB : some f ∈ B
      · refine iteTS (by show inV (.int (f : Nat)) (B.map goV) = true; rw [inV_go, decide_eq_true hB]) ?_
        obtain ⟨N, h1, h2⟩ := step (.inr hB)
        exact ⟨N, h1, _, rfl, _, 1, rfl, rfl, h2⟩
      · exact iteFS (by show inV (.int (f : Nat)) (B.map goV) = false; rw [inV_go, decide_eq_false hB]) ⟨_, rfl, q f hA hB hf⟩
theorem scCn : FnScope ["_law_rows", "_law_frame_here"] ["_law_rows", "_law_frame_here"] (defScope sCount) := ⟨rfl, rfl, rfl, by decide +kernel, rfl, by decide +kernel, by decide +kernel⟩
theorem ok_count {f : Addr} {fd : FuncData} (F : Fun K "_law_count" "_law_count" sCount f fd) : FnOk P w K mg base CX0 1 f fd ["_law_rows", "_law_frame_here"] spCount := by
  refine F.ok scCn (fun vs H Q E h' => ?_) (fun cdv A' outer s H vs Q E hr h' => ?_)
  · obtain ⟨rl, r0, r1, A, B, f, rfl, _⟩ := h'
    rfl
  · obtain ⟨rl, r0, r1, A, B, f, rfl, rw, q⟩ := h'
    refine ⟨_, (pss_one (ps_ret (pe_op op_add (pe_bm PySem.F.plainAttrs_list PySem.F.slot_list_count PySem.F.type_list_count mt_countG (pe_ix ix_list (pv 0) pe_int (fun _ _ => rfl)) (pa_cons (pv 1) pa_nil)) (pe_bm PySem.F.plainAttrs_list PySem.F.slot_list_count PySem.F.type_list_count mt_countG (pe_ix ix_list (pv 0) pe_int (fun _ _ => rfl)) (pa_cons (pv 1) pa_nil))))), ?_⟩
    exact ⟨_, rfl, rl, _, _, _, rfl, rfl, SqL.of rw.b, rfl, .inl ⟨rfl, _, SqL.of rw.a0⟩, _, rfl, r0, f, A, rfl, rfl, rw.a0, _, rfl, rl, _, _, _, rfl, rfl, SqL.of rw.b, rfl, .inl ⟨rfl, _, SqL.of rw.a1⟩, _, rfl, r1, f, B, rfl, rfl, rw.a1, _, _, rfl, rfl, q⟩
theorem scFr : FnScope ["_law_rows", "_law_many"] ["_law_rows", "_law_many"] (defScope sLFree) := ⟨rfl, rfl, rfl, by decide +kernel, rfl, by decide +kernel, by decide +kernel⟩
theorem ndFr : (compN "_law_frame_here" ["_law_rows", "_law_many"]).Nodup := by decide +kernel
theorem dotFr : (".0" : Str) ∉ (["_law_rows", "_law_many"] : List Str) := by decide +kernel
theorem ok_lfree {f f1 : Addr} {fd fd1 : FuncData} (F : Fun K "_law_free" "_law_free" sLFree f fd) (D1 : Dn K mg "_law_count" sCount ["_law_rows", "_law_frame_here"] f1 fd1) (G1 : FnOk P w K mg base CX0 1 f1 fd1 ["_law_rows", "_law_frame_here"] spCount) (T : Txt K mg) : FnOk P w K mg base CX0 2 f fd ["_law_rows", "_law_many"] spLFree := by
  refine F.ok scFr (fun vs H Q E h' => ?_) (fun cdv A' outer s H vs Q E hr h' => ?_)
  · obtain ⟨rl, r0, r1, A, B, ns, rfl, _⟩ := h'
    rfl
  · obtain ⟨rl, r0, r1, A, B, ns, rfl, h200, rw, hc, q⟩ := h'
    refine ⟨_, (pss_one (ps_ret (pe_callB call_len_seq (by rfl) T.len PySem.boot_len (pa_cons (pe_comp (cl := [("_law_rows", s.heap.objs.size + 1)]) (tc := tTest (tOp rEq (tCall spCount [] E0 (tCons (tVar 1) (tCons (tVar 0) tNil))) (tC (.int 0)))) (te := tVar 0) rfl (pi_range1 (by rfl) T.rng (pa_cons (pv 1) pa_nil)) rfl (by repeat' (first | exact trivial | refine ⟨.inl ⟨.inr rfl, rfl⟩, ?_⟩ | refine ⟨.inl ⟨.inl rfl, rfl⟩, ?_⟩ | refine ⟨.inr (.inl ⟨by decide, by decide, by decide⟩), ?_⟩ | refine ⟨.inr (.inr ⟨rfl, by decide +kernel, by decide +kernel, rfl, rfl⟩), ?_⟩)) (show ClOk _ _ from ⟨rfl, trivial⟩) (fun C s₂ H₂ fp => .one (pt_cmpR op_eq (pe_call G1 hr (by rfl) D1.m D1.F.kp D1.b .nil pass0 (pa_cons (pv 1) (pa_cons (pv 0) pa_nil))) pe_int (nomark _))) (fun C s₂ H₂ fp => (pv 0)) ndFr (hdot := dotFr)) pa_nil)))), ?_⟩
    refine ⟨_, rfl, (ns.length : Int), rfl, by omega, by omega, ?_⟩
    rw [Int.toNat_natCast]
    refine comp_range (lo := 0) (n := ns.length) (fun D i ys H' => H D = none ∧ Same H H' ∧ ys = ((List.range i).filter fun f => decide (ns.getD f 0 = 0)).map (fun f => V.int (f : Nat)) ∧ H' D = some (.lst ys)) ?_ ?_ ?_ ?_
    · exact fun D hD => ⟨hD, same_new hD, rfl, upd_same⟩
    · rintro D i ys H' _ ⟨_, _, _, e⟩
      exact e
    · rintro D i ys H' hi ⟨hD, ss, rfl, e⟩
      have ei : (0 : Int) + (i : Int) = (i : Int) := by omega
      rw [ei]
      refine ⟨_, rfl, _, rfl, rl, r0, r1, A, B, i, rfl, rw.same ss, rfl, _, rfl, ?_⟩
      rw [← hc i]
      have rs : (List.range (i + 1)).filter (fun f => decide (ns.getD f 0 = 0)) = (List.range i).filter (fun f => decide (ns.getD f 0 = 0)) ++ (if ns.getD i 0 = 0 then [i] else []) := by
        rw [List.range_succ, List.filter_append, List.filter_cons]
        by_cases z : ns.getD i 0 = 0
        · rw [if_pos (decide_eq_true z), if_pos z]; rfl
        · rw [if_neg (by rw [decide_eq_false z]; exact Bool.false_ne_true), if_neg z]; rfl
      by_cases z : ns.getD i 0 = 0
      · refine iteTS (by rw [z]; rfl) ⟨_, rfl, e, ?_, hD, ss.set hD, ?_, upd_same⟩
        · rw [List.length_map]
          have := List.length_filter_le (fun f => decide (ns.getD f 0 = 0)) (List.range i)
          rw [List.length_range] at this
          exact Nat.lt_of_le_of_lt this (Nat.lt_of_lt_of_le (show i < 201 by omega) (by decide))
        · rw [rs, if_pos z, List.map_append]
          rfl
      · refine iteFS (decide_eq_false fun y => z (V.int.inj y)) ⟨hD, ss, ?_, e⟩
        rw [rs, if_neg z, List.append_nil]
    · rintro D ys H' ⟨hD, ss, rfl, e⟩
      refine ⟨D, _, rfl, .inl (SqL.of e), ?_⟩
      rw [List.length_map, ← zero_take (fun f => decide (ns.getD f 0 = 0)) (fun _ => rfl) ns.length (Nat.le_refl _), List.take_length]
      exact q H' ss
theorem scSm : FnScope ["_law_rows", "_law_cell", "_law_row"] ["_law_rows", "_law_cell"] (defScope sSome) := ⟨rfl, rfl, rfl, by decide +kernel, rfl, by decide +kernel, by decide +kernel⟩
theorem ndSm : (compN "_law_frame_here" ["_law_rows", "_law_cell", "_law_row"]).Nodup := by decide +kernel
theorem dotSm : (".0" : Str) ∉ (["_law_rows", "_law_cell", "_law_row"] : List Str) := by decide +kernel
theorem somes_ints : ∀ G : Gs, ∃ fs : List Nat, (G.filter Option.isSome).map goV = fs.map (fun f => V.int (f : Nat)) ∧ ∀ f ∈ fs, some f ∈ G
  | [] => ⟨[], rfl, fun f h => (by cases h)⟩
  | none :: r => by
    obtain ⟨fs, h1, h2⟩ := somes_ints r
    exact ⟨fs, h1, fun f hf => List.mem_cons_of_mem _ (h2 f hf)⟩
  | some t :: r => by
    obtain ⟨fs, h1, h2⟩ := somes_ints r
    refine ⟨t :: fs, ?_, fun f hf => ?_⟩
    · rw [List.filter_cons_of_pos (by rfl), List.map_cons, h1]
      rfl
    · rcases List.mem_cons.mp hf with z | z
      · rw [z]; exact List.mem_cons_self ..
      · exact List.mem_cons_of_mem _ (h2 f z)
theorem ok_some {f : Addr} {fd : FuncData} (F : Fun K "_law_some" "_law_some" sSome f fd) (T : Txt K mg) : FnOk P w K mg base CX0 1 f fd ["_law_rows", "_law_cell"] spSome := by
  refine F.ok scSm (fun vs H Q E h' => ?_) (fun cdv A' outer s H vs Q E hr h' => ?_)
  · obtain ⟨rl, r0, r1, A, B, c, rfl, _⟩ := h'
    rfl
  · obtain ⟨rl, r0, r1, A, B, c, rfl, rw, lA, lB, q⟩ := h'
    refine ⟨_, (pss_cons (ps_setC (i := 2) scSm.nd rfl rfl rfl (cl := []) (tc := tTest (tOp (fun x y H Q => y = .non ∧ Q (.bl (!decide (x = .non))) H) (tVar 0) (tC .non))) (te := tVar 0) rfl (pi_list (pe_ix ix_list (pv 0) (pe_op op_mod (pv 1) pe_int) (fun _ _ => rfl))) (closureFor_none (by decide +kernel)) (by repeat' (first | exact trivial | refine ⟨.inl ⟨.inr rfl, rfl⟩, ?_⟩ | refine ⟨.inl ⟨.inl rfl, rfl⟩, ?_⟩ | refine ⟨.inr (.inl ⟨by decide, by decide, by decide⟩), ?_⟩ | refine ⟨.inr (.inr ⟨rfl, by decide +kernel, by decide +kernel, rfl, rfl⟩), ?_⟩)) trivial (fun C s₂ H₂ fp => .one (pt_cmpR op_notN (pv 0) pe_non (nomark _))) (fun C s₂ H₂ fp => (pv 0)) ndSm (hdot := dotSm)) (pss_cons (ps_if (pt_cmpR (op_eqD hr.units) (pv 2) (pe_lst pa_nil) (nomark _)) (pss_one (ps_ret pe_non)) pss_nil) (pss_one (ps_ret (pe_ix ix_list (pv 2) (pe_op op_mod (pe_op op_fdiv (pv 1) pe_int) (pe_callB call_len_seq (by rfl) T.len PySem.boot_len (pa_cons (pv 2) pa_nil))) (fun _ _ => rfl)))))), ?_⟩
    obtain ⟨r, G, hat, hrG, hG, lG⟩ : ∃ (r : Addr) (G : Gs), atI [V.ref r0, V.ref r1] (c % 2) = some (.ref r) ∧ H r = some (.lst (G.map goV)) ∧ (∀ t : Nat, some t ∈ G → some t ∈ A ∨ some t ∈ B) ∧ G.length ≤ 1000 := by
      rcases (show c % 2 = 0 ∨ c % 2 = 1 by omega) with e | e <;> rw [e]
      · exact ⟨r0, A, rfl, rw.a0, fun t h => .inl h, lA⟩
      · exact ⟨r1, B, rfl, rw.a1, fun t h => .inr h, lB⟩
    refine ⟨_, rfl, _, rfl, c, 2, rfl, rfl, (by show (0 : Int) < 2; decide), rl, _, _, _, rfl, rfl, SqL.of rw.b, hat, r, rfl, ⟨_, SqL.of hrG⟩, comp_list (xs := G.map goV) (fun D i ys H' => H D = none ∧ Same H H' ∧ ys = ((G.take i).filter Option.isSome).map goV ∧ H' D = some (.lst ys)) ?_ ?_ ?_ ?_⟩
    · exact fun D hD => ⟨hD, same_new hD, rfl, upd_same⟩
    · rintro D i ys H' _ ⟨_, ss, _, e⟩
      exact ⟨SqL.of (ss _ _ hrG), e⟩
    · rintro D i x ys H' hi ⟨hD, ss, rfl, e⟩
      rw [List.getElem?_map] at hi
      cases eo : G[i]? with
      | none => rw [eo] at hi; cases hi
      | some o =>
      rw [eo] at hi
      have hi' : goV o = x := Option.some.inj hi
      subst hi'
      have hil : i < G.length := (List.getElem?_eq_some_iff.mp eo).1
      have tk : G.take (i + 1) = G.take i ++ [o] := by rw [List.take_add_one, eo]; rfl
      cases o with
      | none =>
        refine ⟨_, rfl, rfl, _, rfl, iteFS rfl ⟨hD, ss, ?_, e⟩⟩
        rw [tk, List.filter_append]
        show _ = (_ ++ []).map goV
        rw [List.append_nil]
      | some t =>
        refine ⟨_, rfl, rfl, _, rfl, iteTS (by show (!decide (V.int (t : Int) = V.non)) = true; rw [decide_eq_false nofun]; rfl) ⟨_, rfl, e, ?_, hD, ss.set hD, ?_, upd_same⟩⟩
        · rw [List.length_map]
          have := List.length_filter_le Option.isSome (G.take i)
          rw [List.length_take] at this
          exact Nat.lt_of_le_of_lt (Nat.le_trans this (Nat.min_le_left _ _)) (Nat.lt_of_lt_of_le (show i < 1001 by omega) (by decide))
        · rw [tk, List.filter_append, List.map_append]
          rfl
    · rintro D ys H' ⟨hD, ss, rfl, e⟩
      rw [List.length_map, List.take_length] at e
      obtain ⟨fs, h1, h2⟩ := somes_ints G
      rw [h1] at e
      have em : fs.map (fun f => V.int (f : Nat)) = (fs.map (fun f => ((f : Nat) : Int))).map V.int := by rw [List.map_map]; rfl
      refine ⟨_, rfl, by show 0 ≤ sizeLine; decide, fun l2 hl2 => ?_⟩
      have s2 := same_new (o := .lst []) hl2
      refine ⟨_, _, .lst (xs := (fs.map (fun f => ((f : Nat) : Int))).map V.int) (SqL.of (by rw [← em]; exact s2 _ _ e)) (datsI _), .lst (xs := ([] : List Int).map V.int) (SqL.of upd_same) (datsI []), shapedI _, shapedI [], _, rfl, ?_⟩
      cases fs with
      | nil => exact iteTS rfl (q none _ (ss.trans s2) fun t h => by cases h)
      | cons t r2 =>
        refine iteFS rfl ?_
        have hl : (0 : Int) < (((t :: r2).map (fun f => V.int (f : Nat))).length : Nat) := by rw [List.length_map]; simp
        have y0 : 0 ≤ c / 2 % ((((t :: r2).map (fun f => V.int (f : Nat))).length : Nat) : Int) := Int.emod_nonneg _ (by omega)
        have y1 : c / 2 % ((((t :: r2).map (fun f => V.int (f : Nat))).length : Nat) : Int) < ((((t :: r2).map (fun f => V.int (f : Nat))).length : Nat) : Int) := Int.emod_lt_of_pos _ hl
        obtain ⟨j, hj⟩ : ∃ j : Nat, c / 2 % ((((t :: r2).map (fun f => V.int (f : Nat))).length : Nat) : Int) = (j : Int) := ⟨(c / 2 % ((((t :: r2).map (fun f => V.int (f : Nat))).length : Nat) : Int)).toNat, by omega⟩
        have hjl : j < (t :: r2).length := by rw [List.length_map] at y1 hj; omega
        refine ⟨_, rfl, _, rfl, c, 2, rfl, rfl, ⟨by decide, by decide⟩, _, rfl, D, _, rfl, .inl (SqL.of (s2 _ _ e)), _, _, rfl, rfl, hl, D, _, _, _, rfl, rfl, SqL.of (s2 _ _ e), (by rw [hj]; exact atI_nat (by rw [List.getElem?_map, List.getElem?_eq_getElem hjl]; rfl)), q (some (t :: r2)[j]) _ (ss.trans s2) fun u hu => ?_⟩
        cases hu
        exact hG _ (h2 _ (List.getElem_mem hjl))
theorem scLf : FnScope ["_law_found", "_law_due"] ["_law_found", "_law_due"] (defScope sLFrame) := ⟨rfl, rfl, rfl, by decide +kernel, rfl, by decide +kernel, by decide +kernel⟩
theorem ok_lframe {f f1 : Addr} {fd fd1 : FuncData} (F : Fun K "_law_frame" "_law_frame" sLFrame f fd) (D1 : Dn K mg "_law_whole" sLWhole ["_law_found"] f1 fd1) (G1 : FnOk P w K mg base CX0 1 f1 fd1 ["_law_found"] spWhole) : FnOk P w K mg base CX0 2 f fd ["_law_found", "_law_due"] spLFrame := by
  refine F.ok scLf (fun vs H Q E h' => ?_) (fun cdv A' outer s H vs Q E hr h' => ?_)
  · obtain ⟨o, rfl, _⟩ := h'
    rfl
  · obtain ⟨o, rfl, q⟩ := h'
    refine ⟨_, (pss_cons (ps_if (pt_cmpR op_isN (pv 1) pe_non (nomark _)) (pss_one (ps_ret (pe_cmpR op_isN (pv 0) pe_non (nomark _)))) pss_nil) (pss_one (ps_ret (pe_and (pe_call G1 hr (by rfl) D1.m D1.F.kp D1.b .nil pass0 (pa_cons (pv 0) pa_nil)) (pe_one (pe_cmpR op_eq (pv 0) (pv 1) (nomark _))))))), ?_⟩
    cases o with
    | none => exact ⟨_, rfl, rfl, _, rfl, iteTS (decide_eq_true rfl) ⟨_, rfl, rfl, q⟩⟩
    | some t =>
      refine ⟨_, rfl, rfl, _, rfl, iteFS (decide_eq_false nofun) ⟨_, rfl, _, rfl, .int _, _, rfl, iteT ⟨_, rfl, _, rfl, rfl, ?_⟩⟩⟩
      rw [show decide (goV (some t) = goV (some t)) = true from decide_eq_true rfl]
      exact q
end
end K44

end
section
set_option Elab.async false
set_option linter.all false
set_option maxRecDepth 100000
set_option maxHeartbeats 4000000
namespace K44
open PySem L2
theorem own_cnt {ns : List Int} {A B : Gs} (h : ∀ f, ns.getD f 0 = (A.count (some f) : Nat) + (B.count (some f) : Nat)) (f : Nat) : own ns (.int (f : Nat)) = (A.count (some f) : Nat) + (B.count (some f) : Nat) := by
  rcases Nat.lt_or_ge f ns.length with z | z
  · rw [own_nat z]
    exact h f
  · rw [own_below (below_far (by omega)), ← h f, List.getD_eq_getElem?_getD, List.getElem?_eq_none z]
    rfl
theorem least_first {ns : List Int} {A B : Gs} (h : ∀ f, ns.getD f 0 = (A.count (some f) : Nat) + (B.count (some f) : Nat)) (hz : (0 : Int) ∈ ns) {j : Nat} (h1 : some j ∉ A) (h2 : some j ∉ B) (h3 : ∀ i, i < j → some i ∈ A ∨ some i ∈ B) : j < ns.length ∧ ns[j]? = some 0 ∧ ∀ i, i < j → ns[i]? ≠ some 0 := by
  have pos : ∀ i, i < j → ns.getD i 0 ≠ 0 := fun i hi z => by
    have h4 := h i
    rcases h3 i hi with y | y
    · have := List.count_pos_iff.mpr y; omega
    · have := List.count_pos_iff.mpr y; omega
  have zj : ns.getD j 0 = 0 := by
    rw [h j, List.count_eq_zero.mpr h1, List.count_eq_zero.mpr h2]
    rfl
  obtain ⟨i, hi⟩ := List.getElem?_of_mem hz
  have hil := (List.getElem?_eq_some_iff.mp hi).1
  have zi : ns.getD i 0 = 0 := by rw [List.getD_eq_getElem?_getD, hi]; rfl
  have ji : j ≤ i := by
    rcases Nat.lt_or_ge i j with z | z
    · exact absurd zi (pos i z)
    · exact z
  have jl : j < ns.length := by omega
  refine ⟨jl, by rw [getT' jl, zj], fun k hk z => pos k hk ?_⟩
  rw [List.getD_eq_getElem?_getD, z]
  rfl
def spShows (C CP : Addr) : Sp := fun vs H Q _ => ∃ (m h g a e rl r0 r1 sn : Addr) (ns : List Int) (ps : Pgs) (A B G S : Gs) (k i : Nat), vs = [.ref m, .ref a, .ref rl, .int k, .int i, .ref sn] ∧ Fr C H m h g ns ps ∧ Pt CP H a e m G ∧ Rw H rl r0 r1 A B ∧ ((k = 0 ∧ G = A) ∨ (k = 1 ∧ G = B)) ∧ (∀ f, ns.getD f 0 = (A.count (some f) : Nat) + (B.count (some f) : Nat)) ∧ G.length ≤ 24 ∧ i < G.length ∧ H sn = some (.lst (S.map goV)) ∧ S.length ≤ 10 ∧ ∀ H', Same H H' → Q (.bl true) H'
def spNone (C CP : Addr) : Sp := fun vs H Q _ => ∃ (a e m h g : Addr) (ns : List Int) (ps : Pgs) (G : Gs) (c : Int), vs = [.ref a, .int c, .int G.length] ∧ Fr C H m h g ns ps ∧ Pt CP H a e m G ∧ ¬ Ow m h g ps e ∧ ∀ H', Same H H' → Q (.bl true) H'
theorem p60 : (0 : Int) < 10 ^ (60 : Int).toNat := by decide
section
variable {P : Program} {w : World} {K : PySem.W.Frag} {mg : Str → Option Value} {base : Heap} {C CP NF NP NL NW NI : Addr}
theorem scIg : FnScope ["_law_cell", "_law_size", "_law_pages", "_law_k", "_law_number"] ["_law_cell", "_law_size"] (defScope sImg) := ⟨rfl, rfl, rfl, by decide +kernel, rfl, by decide +kernel, by decide +kernel⟩
theorem ok_img {f : Addr} {fd : FuncData} (F : Fun K "_law_image" "_law_image" sImg f fd) (T : Txt K mg) : FnOk P w K mg base CX0 1 f fd ["_law_cell", "_law_size"] spImg := by
  refine F.ok scIg (fun vs H Q E h => ?_) (fun cdv A outer s H vs Q E hr h => ?_)
  · obtain ⟨c, n, rfl, _⟩ := h
    rfl
  · obtain ⟨c, n, rfl, hn, q⟩ := h
    refine ⟨_, (pss_cons (ps_set (i := 2) scIg.nd rfl (Or.inl rfl) (pe_lst pa_nil)) (pss_cons (ps_for PassesOwn.never rfl (pi_range1 (by rfl) T.rng (pa_cons (pv 1) pa_nil)) (pg_name (i := 3) scIg.nd rfl (Or.inl rfl)) (pss_cons (ps_set (i := 4) scIg.nd rfl (Or.inl rfl) (pe_op op_mod (pe_op op_mul (pe_op op_add (pe_op op_add (pe_op op_mod (pv 0) pe_int) (pe_op op_mul (pe_op op_mul pe_int (pv 3)) (pv 3))) (pv 3)) pe_int) pe_int)) (pss_one (ps_if (pt_cmpR op_eq (pe_op op_mod (pe_op op_fdiv (pv 4) pe_int) pe_int) pe_int (nomark _)) (pss_one (ps_expr (pe_bm PySem.F.plainAttrs_list PySem.F.slot_list_append PySem.F.type_list_append mt_append (pv 2) (pa_cons pe_non pa_nil)))) (pss_one (ps_expr (pe_bm PySem.F.plainAttrs_list PySem.F.slot_list_append PySem.F.type_list_append mt_append (pv 2) (pa_cons (pe_op op_cat (pe_op op_rep (pe_lst (pa_cons (pe_op op_mod (pe_op op_fdiv (pv 4) pe_int) pe_int) pa_nil)) pe_int) (pe_lst (pa_cons (pv 4) pa_nil))) pa_nil)))))))) (pss_one (ps_ret (pv 2))))), ?_⟩
    refine ⟨by show 0 ≤ sizeLine; decide, fun D hD => ?_⟩
    refine ⟨_, rfl, (n : Int), rfl, by omega, by omega, ?_⟩
    rw [Int.toNat_natCast]
    refine for_range (lo := 0) (n := n) (fun i σ H' => (∃ v1 v2, σ = [some (.int c), some (.int n), some (.ref D), v1, v2]) ∧ ∃ qs : Pgs, Same H H' ∧ Pg H' D qs ∧ Good qs ∧ qs.length = i ∧ (∀ b, At D qs b → H b = none)) ?_ ?_ ?_
    · refine ⟨⟨_, _, rfl⟩, [], same_new hD, ⟨upd_same, fun i p ws e => by simp at e, fun i j p ws ws' e => by simp at e⟩, fun i p ws e => by simp at e, rfl, fun b hb => ?_⟩
      rcases hb with rfl | ⟨i, ws, e⟩
      · exact hD
      · simp at e
    · rintro i σ H' hi ⟨⟨v1, v2, rfl⟩, qs, ss, gq, hg, hql, hf⟩
      have ei : (0 : Int) + (i : Int) = (i : Int) := by omega
      rw [ei]
      refine ⟨_, rfl, c, 1000003, rfl, rfl, (by show (0 : Int) < 1000003; decide), _, rfl, 7, (i : Int), rfl, rfl, .inl ⟨by decide, by decide⟩, _, rfl, _, (i : Int), rfl, rfl, .inr ⟨by omega, by omega⟩, _, _, rfl, rfl, _, rfl, _, (i : Int), rfl, rfl, _, 48271, rfl, rfl, .inr ⟨by decide, by decide⟩, _, 2147483629, rfl, rfl, (by show (0 : Int) < 2147483629; decide), ?_⟩
      have r0 : 0 ≤ (c % 1000003 + 7 * (i : Int) * (i : Int) + (i : Int)) * 48271 % 2147483629 := Int.emod_nonneg _ (by decide)
      have r1 : (c % 1000003 + 7 * (i : Int) * (i : Int) + (i : Int)) * 48271 % 2147483629 < 2147483629 := Int.emod_lt_of_pos _ (by decide)
      dsimp only
      generalize (c % 1000003 + 7 * (i : Int) * (i : Int) + (i : Int)) * 48271 % 2147483629 = r at r0 r1 ⊢
      have sl : i < sizeLine := Nat.lt_of_lt_of_le (show i < 25 by omega) (by decide)
      have sz : (qs.map pgV).length < sizeLine := by rw [List.length_map, hql]; exact sl
      refine ⟨_, rfl, _, 64, rfl, rfl, ⟨by decide, by decide⟩, _, 4, rfl, rfl, (by show (0 : Int) < 4; decide), rfl, _, rfl, ite2 (fun _ => ?_) (fun _ => ?_)⟩
      · refine ⟨_, rfl, .inl ⟨rfl, _, SqL.of gq.top⟩, D, _, _, rfl, rfl, gq.top, sz, ⟨_, _, rfl⟩, qs ++ [none], ss.set hD, gq.app (o := none) (Same.refl _) (fun q ws e => by cases e), hg.app (o := none) (fun q ws e => by cases e), by rw [List.length_append, hql]; rfl, fun b hb => ?_⟩
        rcases hb.app with z | ⟨ws, z⟩
        · exact hf b z
        · cases z
      refine ⟨_, rfl, .inl ⟨rfl, _, SqL.of gq.top⟩, _, rfl, _, 7, rfl, rfl, ⟨by decide, by decide⟩, _, 3, rfl, rfl, (by show (0 : Int) < 3; decide), by show 1 ≤ sizeLine; decide, fun l1 hl1 => ?_⟩
      have b0 : 0 ≤ r / 7 % 3 := Int.emod_nonneg _ (by decide)
      have b1 : r / 7 % 3 < 3 := Int.emod_lt_of_pos _ (by decide)
      dsimp only
      generalize r / 7 % 3 = u at b0 b1 ⊢
      have u1 := same_new (o := .lst [V.int u]) hl1
      refine ⟨l1, 7, _, rfl, rfl, upd_same, by decide, by decide, (by show 1 * (7 : Nat) ≤ sizeLine; decide), fun p hp => ?_⟩
      have u2 := same_new (o := .lst (List.replicate (7 : Int).toNat [V.int u]).flatten) hp
      have zp : upd (upd H' l1 (.lst [V.int u])) p (.lst (List.replicate (7 : Int).toNat [V.int u]).flatten) p = some (.lst [V.int u, V.int u, V.int u, V.int u, V.int u, V.int u, V.int u]) := upd_same.trans rfl
      have us := u1.trans u2
      generalize upd (upd H' l1 (.lst [V.int u])) p (.lst (List.replicate (7 : Int).toNat [V.int u]).flatten) = H2 at *
      refine ⟨_, rfl, by show 1 ≤ sizeLine; decide, fun p2 hp2 => ?_⟩
      have u3 := same_new (o := .lst [V.int r]) hp2
      refine ⟨p, p2, _, _, rfl, rfl, u3 _ _ zp, upd_same, by show 8 ≤ sizeLine; decide, fun p3 hp3 => ?_⟩
      have u4 := same_new (o := .lst ([V.int u, V.int u, V.int u, V.int u, V.int u, V.int u, V.int u] ++ [V.int r])) hp3
      have ut := (us.trans u3).trans u4
      have f3 : H' p3 = none := (us.trans u3).free hp3
      have hn2 : ∀ (q : Addr) (ws : List Int), some (p3, [u, u, u, u, u, u, u, r]) = some (q, ws) → upd (upd H2 p2 (.lst [V.int r])) p3 (.lst ([V.int u, V.int u, V.int u, V.int u, V.int u, V.int u, V.int u] ++ [V.int r])) q = some (.lst (ws.map V.int)) ∧ H' q = none := fun q ws e => by
        cases e
        exact ⟨upd_same.trans rfl, f3⟩
      refine ⟨D, _, _, rfl, rfl, ut _ _ gq.top, sz, ⟨_, _, rfl⟩, qs ++ [some (p3, [u, u, u, u, u, u, u, r])], (ss.trans ut).set hD, gq.app ut hn2, hg.app fun q ws e => ?_, by rw [List.length_append, hql]; rfl, fun b hb => ?_⟩
      · cases e
        refine ⟨rfl, fun w hw => ?_⟩
        simp at hw
        omega
      · rcases hb.app with z | ⟨ws, z⟩
        · exact hf b z
        · cases z
          exact ss.free f3
    · rintro σ H' ⟨⟨v1, v2, rfl⟩, qs, ss, gq, hg, hql, hf⟩
      exact ⟨_, rfl, q D H' qs ss gq hg hql hf⟩
theorem scSh : FnScope ["_law_frames", "_law_part", "_law_rows", "_law_which", "_law_page", "_law_seen", "_law_told", "_law_row", "_law_k", "_law_frame_here"] ["_law_frames", "_law_part", "_law_rows", "_law_which", "_law_page", "_law_seen"] (defScope sShows) := ⟨rfl, rfl, rfl, by decide +kernel, rfl, by decide +kernel, by decide +kernel⟩
theorem ok_shows {f f1 f2 f3 f4 f5 f6 f7 f8 f9 : Addr} {fd fd1 fd2 fd3 fd4 fd5 fd6 fd7 fd8 fd9 : FuncData} (F : Fun K "_law_shows" "_law_shows" sShows f fd) (D1 : Dn K mg "_law_frame" sLFrame ["_law_found", "_law_due"] f1 fd1) (G1 : FnOk P w K mg base CX0 2 f1 fd1 ["_law_found", "_law_due"] spLFrame)
    (D2 : Dn K mg "_law_count" sCount ["_law_rows", "_law_frame_here"] f2 fd2) (G2 : FnOk P w K mg base CX0 1 f2 fd2 ["_law_rows", "_law_frame_here"] spCount) (D3 : Dn K mg "_law_free" sLFree ["_law_rows", "_law_many"] f3 fd3) (G3 : FnOk P w K mg base CX0 2 f3 fd3 ["_law_rows", "_law_many"] spLFree)
    (M1 : Me K CP "told" "Parts.told" sPTold ["self"] f4 fd4) (GM1 : FnOk P w K mg base CX0 1 f4 fd4 ["self"] (spPTold CP)) (M2 : Me K CP "size" "Parts.size" sPSize ["self"] f5 fd5) (GM2 : FnOk P w K mg base CX0 1 f5 fd5 ["self"] (spPSize CP)) (M3 : Me K C "owners" "Frames.owners" sOwn ["self", "frame"] f6 fd6) (GM3 : FnOk P w K mg base CX0 4 f6 fd6 ["self", "frame"] (spOwn C))
    (M4 : Me K CP "frame" "Parts.frame" sFrame ["self", "page"] f7 fd7) (GM4 : FnOk P w K mg base CX0 3 f7 fd7 ["self", "page"] (spFrame CP)) (M5 : Me K C "free" "Frames.free" sFree ["self"] f8 fd8) (GM5 : FnOk P w K mg base CX0 1 f8 fd8 ["self"] (spFree C)) (M6 : Me K C "size" "Frames.size" sSize ["self"] f9 fd9) (GM6 : FnOk P w K mg base CX0 1 f9 fd9 ["self"] (spSize C)) (S : Shf K mg C NF) (SP : Shp K CP) (T : Txt K mg) (I : Im K mg NI) : FnOk P w K mg base CX0 5 f fd ["_law_frames", "_law_part", "_law_rows", "_law_which", "_law_page", "_law_seen"] (spShows C CP) := by
  refine F.ok scSh (fun vs H Q E h' => ?_) (fun cdv A' outer s H vs Q E hr h' => ?_)
  · obtain ⟨m, h, g, a, e, rl, r0, r1, sn, ns, ps, A, B, G, S', k, i, rfl, _⟩ := h'
    rfl
  · obtain ⟨m, h, g, a, e, rl, r0, r1, sn, ns, ps, A, B, G, S', k, i, rfl, W, p, rw, hkG, hc, lG, hi, hsn, lS, q⟩ := h'
    have hr1 : Room 1 _ := hr.mono (by decide)
    have hr2 : Room 2 _ := hr.mono (by decide)
    have hr3 : Room 3 _ := hr.mono (by decide)
    obtain ⟨dx, fs, ha, pfl, pgo, pno⟩ := p.ob
    obtain ⟨r, hat, hrG⟩ : ∃ r, atI [V.ref r0, V.ref r1] (k : Int) = some (.ref r) ∧ H r = some (.lst (G.map goV)) := by
      rcases hkG with ⟨rfl, rfl⟩ | ⟨rfl, rfl⟩
      · exact ⟨r0, rfl, rw.a0⟩
      · exact ⟨r1, rfl, rw.a1⟩
    have egi : G[i]? = some G[i] := List.getElem?_eq_getElem hi
    refine ⟨_, (pss_cons (ps_set (i := 6) scSh.nd rfl (Or.inl rfl) (pe_meth0 (pv 1) SP.cl M1.m GM1 hr1 M1.b .nil pass0)) (pss_cons (ps_set (i := 7) scSh.nd rfl (Or.inl rfl) (pe_ix ix_list (pv 2) (pv 3) (fun _ _ => rfl))) (pss_cons (ps_if (PW.pt (pw_or (pt_not (pt_val (pe_callB call_islist (by rfl) T.isi PyProof.Rows.boot_isinstance (pa_cons (pv 6) (pa_cons (pe_bltn (by rfl) I.lst PyProof.Rows.boot_list (show RelV (.ty "list") (.type "list") from rfl)) pa_nil))))) (pw_or (pt_cmpR op_ne (pe_callB call_len_seq (by rfl) T.len PySem.boot_len (pa_cons (pv 6) pa_nil)) (pe_callB call_len_seq (by rfl) T.len PySem.boot_len (pa_cons (pv 7) pa_nil)) (nomark _)) (pw_or1 (pt_cmpR op_ne (pe_meth0 (pv 1) SP.cl M2.m GM2 hr1 M2.b .nil pass0) (pe_callB call_len_seq (by rfl) T.len PySem.boot_len (pa_cons (pv 7) pa_nil)) (nomark _)))))) (pss_one (ps_ret pe_bl)) pss_nil) (pss_cons (ps_for PassesOwn.never rfl (pi_range1 (by rfl) T.rng (pa_cons (pe_callB call_len_seq (by rfl) T.len PySem.boot_len (pa_cons (pv 7) pa_nil)) pa_nil)) (pg_name (i := 8) scSh.nd rfl (Or.inl rfl)) (pss_one (ps_if (pt_not (pt_val (pe_call G1 hr2 (by rfl) D1.m D1.F.kp D1.b .nil pass0 (pa_cons (pe_ix ix_list (pv 6) (pv 8) (fun _ _ => rfl)) (pa_cons (pe_ix ix_list (pv 7) (pv 8) (fun _ _ => rfl)) pa_nil))))) (pss_one (ps_ret pe_bl)) pss_nil))) (pss_cons (ps_expr (pe_bm PySem.F.plainAttrs_list PySem.F.slot_list_append PySem.F.type_list_append mt_append (pv 6) (pa_cons pe_non pa_nil))) (pss_cons (ps_for PassesOwn.never rfl (pi_list (pe_op op_cat (pv 5) (pe_lst (pa_cons (pe_ix ix_list (pv 7) (pv 4) (fun _ _ => rfl)) pa_nil)))) (pg_name (i := 9) scSh.nd rfl (Or.inl rfl)) (pss_one (ps_if (PW.pt (pw_and (pt_cmpR op_notN (pv 9) pe_non (nomark _)) (pw_and1 (pt_cmpR op_ne (pe_meth (pv 0) S.cl M3.m GM3 hr M3.b .nil pass0 (pa_cons (pv 9) pa_nil)) (pe_call G2 hr1 (by rfl) D2.m D2.F.kp D2.b .nil pass0 (pa_cons (pv 2) (pa_cons (pv 9) pa_nil))) (nomark _))))) (pss_one (ps_ret pe_bl)) pss_nil))) (pss_one (ps_ret (pe_and (pe_call G1 hr2 (by rfl) D1.m D1.F.kp D1.b .nil pass0 (pa_cons (pe_meth (pv 1) SP.cl M4.m GM4 hr3 M4.b .nil pass0 (pa_cons (pv 4) pa_nil)) (pa_cons (pe_ix ix_list (pv 7) (pv 4) (fun _ _ => rfl)) pa_nil))) (pe_one (pe_cmpR op_eq (pe_meth0 (pv 0) S.cl M5.m GM5 hr1 M5.b .nil pass0) (pe_call G3 hr2 (by rfl) D3.m D3.F.kp D3.b .nil pass0 (pa_cons (pv 2) (pa_cons (pe_meth0 (pv 0) S.cl M6.m GM6 hr1 M6.b .nil pass0) pa_nil))) (nomark _)))))))))))), ?_⟩
    refine ⟨_, rfl, a, dx, fs, rfl, ha, pno _ (by decide +kernel) (by decide +kernel), a, e, m, G, rfl, p, fun l1 H1 s1 fl1 z1 => ?_⟩
    refine ⟨_, rfl, _, rfl, rl, _, _, _, rfl, rfl, SqL.of (s1 _ _ rw.b), hat, ?_⟩
    have hr1G := s1 _ _ hrG
    refine ⟨_, rfl, _, rfl, .lst z1, _, rfl, iteFS (by show (!isLst H1 (.ref l1)) = false; rw [isLst_of z1]; rfl) ?_⟩
    refine ⟨_, rfl, l1, _, rfl, .inl (SqL.of z1), _, rfl, r, _, rfl, .inl (SqL.of hr1G), rfl, _, rfl, iteFS (by show (!decide (V.int (((G.map goV).length : Nat) : Int) = V.int (((G.map goV).length : Nat) : Int))) = false; rw [decide_eq_true rfl]; rfl) ?_⟩
    refine ⟨_, rfl, a, dx, fs, rfl, s1 _ _ ha, pno _ (by decide +kernel) (by decide +kernel), a, e, m, G, rfl, p.same s1, _, rfl, r, _, rfl, .inl (SqL.of hr1G), rfl, _, rfl, iteFS (by show (!decide (V.int ((G.length : Nat) : Int) = V.int (((G.map goV).length : Nat) : Int))) = false; rw [List.length_map, decide_eq_true rfl]; rfl) ?_⟩
    refine ⟨_, rfl, r, _, rfl, .inl (SqL.of hr1G), (((G.map goV).length : Nat) : Int), rfl, by omega, by rw [List.length_map]; omega, ?_⟩
    rw [Int.toNat_natCast, List.length_map]
    refine for_range (lo := 0) (n := G.length) (fun j σ H2 => H2 = H1 ∧ ∃ v1 v2, σ = [some (.ref m), some (.ref a), some (.ref rl), some (.int k), some (.int i), some (.ref sn), some (.ref l1), some (.ref r), v1, v2]) ?_ ?_ ?_
    · exact ⟨rfl, _, _, rfl⟩
    · rintro j σ H2 hj ⟨rfl, v1, v2, rfl⟩
      have ei : (0 : Int) + (j : Int) = (j : Int) := by omega
      rw [ei]
      have eg : G[j]? = some G[j] := List.getElem?_eq_getElem hj
      exact ⟨_, rfl, _, rfl, l1, _, _, _, rfl, rfl, SqL.of z1, atI_go eg, _, rfl, _, rfl, r, _, _, _, rfl, rfl, SqL.of hr1G, atI_go eg, G[j], rfl, _, rfl, iteF ⟨rfl, _, _, rfl⟩⟩
    · rintro σ H2 ⟨rfl, v1, v2, rfl⟩
      refine ⟨_, rfl, .inl ⟨rfl, _, SqL.of z1⟩, l1, _, _, rfl, rfl, z1, (by rw [List.length_map]; exact Nat.lt_of_lt_of_le (show G.length < 25 by omega) (by decide)), ?_⟩
      have s3 : Same H (upd H2 l1 (.lst (G.map goV ++ [V.non]))) := s1.set fl1
      generalize upd H2 l1 (.lst (G.map goV ++ [V.non])) = H3 at *
      have rw3 := rw.same s3
      have hrG3 := s3 _ _ hrG
      refine ⟨_, rfl, _, rfl, _, rfl, r, _, _, _, rfl, rfl, SqL.of hrG3, atI_go egi, by show 1 ≤ sizeLine; decide, fun l2 hl2 => ?_⟩
      have s4 := same_new (o := .lst [goV G[i]]) hl2
      have z4 : upd H3 l2 (.lst [goV G[i]]) l2 = some (.lst [goV G[i]]) := upd_same
      generalize upd H3 l2 (.lst [goV G[i]]) = H4 at *
      refine ⟨sn, l2, _, _, rfl, rfl, s4 _ _ (s3 _ _ hsn), z4, ?_, fun l5 hl5 => ?_⟩
      · rw [List.length_map]
        exact Nat.le_trans (show S'.length + 1 ≤ 11 by omega) (by decide)
      have s5 := same_new (o := .lst (S'.map goV ++ [goV G[i]])) hl5
      have z5 : upd H4 l5 (.lst (S'.map goV ++ [goV G[i]])) l5 = some (.lst ((S' ++ [G[i]]).map goV)) := by rw [upd_same, List.map_append]; rfl
      generalize upd H4 l5 (.lst (S'.map goV ++ [goV G[i]])) = H5 at *
      have s35 := (s3.trans s4).trans s5
      have W5 := W.same s35
      have rw5 := rw.same s35
      obtain ⟨dm5, fm5, hm5, fo⟩ := W5.ob
      refine ⟨l5, rfl, ⟨_, SqL.of z5⟩, for_list (K := K) (a := l5) (xs := (S' ++ [G[i]]).map goV) (fun j σ H6 => H6 = H5 ∧ ∃ v2, σ = [some (.ref m), some (.ref a), some (.ref rl), some (.int k), some (.int i), some (.ref sn), some (.ref l1), some (.ref r), v1, v2]) ?_ ?_ ?_ ?_⟩
      · exact ⟨rfl, _, rfl⟩
      · rintro j σ H6 _ ⟨rfl, _⟩
        exact SqL.of z5
      · rintro j y σ H6 hj ⟨rfl, v2, rfl⟩
        rw [List.getElem?_map] at hj
        cases eo : (S' ++ [G[i]])[j]? with
        | none => rw [eo] at hj; cases hj
        | some o =>
        rw [eo] at hj
        have hj' : goV o = y := Option.some.inj hj
        subst hj'
        cases o with
        | none => exact ⟨_, rfl, rfl, _, rfl, iteFS rfl (iteF ⟨rfl, _, rfl⟩)⟩
        | some t =>
          refine ⟨_, rfl, rfl, _, rfl, iteTS (by show (!decide (V.int (t : Int) = V.non)) = true; rw [decide_eq_false nofun]; rfl) ?_⟩
          refine ⟨_, rfl, m, dm5, fm5, rfl, hm5, fo.no _ (by decide +kernel) (by decide +kernel) (by decide +kernel), _, rfl, m, h, g, ns, ps, _, rfl, W5, .int _, _, rfl, _, rfl, rl, r0, r1, A, B, t, rfl, rw5, rfl, _, rfl, iteFS ?_ ⟨rfl, _, rfl⟩⟩
          show (!decide (V.int (own ns (.int (t : Nat))) = V.int ((A.count (some t) : Nat) + (B.count (some t) : Nat)))) = false
          rw [own_cnt hc t, decide_eq_true rfl]
          rfl
      · rintro σ H6 ⟨rfl, v2, rfl⟩
        refine ⟨_, rfl, a, dx, fs, rfl, s35 _ _ ha, pno _ (by decide +kernel) (by decide +kernel), _, rfl, a, e, m, G, _, rfl, p.same s35, .int _, ?_⟩
        rw [frV_at egi]
        refine ⟨_, rfl, _, rfl, r, _, _, _, rfl, rfl, SqL.of (s35 _ _ hrG), atI_go egi, G[i], rfl, _, rfl, iteT ?_⟩
        refine ⟨_, rfl, m, dm5, fm5, rfl, hm5, fo.no _ (by decide +kernel) (by decide +kernel) (by decide +kernel), m, h, g, ns, ps, rfl, W5, _, rfl, _, rfl, m, dm5, fm5, rfl, hm5, fo.no _ (by decide +kernel) (by decide +kernel) (by decide +kernel), m, h, g, ns, ps, rfl, W5, rl, r0, r1, A, B, ns, rfl, W.hm, rw5, hc, fun H7 s7 => ⟨rfl, ?_⟩⟩
        rw [decide_eq_true rfl]
        exact q H7 (s35.trans s7)
theorem scNo : FnScope ["_law_part", "_law_cell", "_law_size", "_law_thing", "_law_word"] ["_law_part", "_law_cell", "_law_size"] (defScope sNone) := ⟨rfl, rfl, rfl, by decide +kernel, rfl, by decide +kernel, by decide +kernel⟩
theorem ok_none {f f1 f2 : Addr} {fd fd1 fd2 : FuncData} (F : Fun K "_law_none" "_law_none" sNone f fd) (D1 : Dn K mg "_law_refused" sRef ["_law_part", "_law_word", "_law_page", "_law_frame_here", "_law_due"] f1 fd1) (G1 : FnOk P w K mg base CX0 10 f1 fd1 ["_law_part", "_law_word", "_law_page", "_law_frame_here", "_law_due"] (spRef C CP))
    (M1 : Me K CP "frame" "Parts.frame" sFrame ["self", "page"] f2 fd2) (GM1 : FnOk P w K mg base CX0 3 f2 fd2 ["self", "page"] (spFrame CP)) (SP : Shp K CP) : FnOk P w K mg base CX0 11 f fd ["_law_part", "_law_cell", "_law_size"] (spNone C CP) := by
  refine F.ok scNo (fun vs H Q E h' => ?_) (fun cdv A' outer s H vs Q E hr h' => ?_)
  · obtain ⟨a, e, m, h, g, ns, ps, G, c, rfl, _⟩ := h'
    rfl
  · obtain ⟨a, e, m, h, g, ns, ps, G, c, rfl, W, p, ne, q⟩ := h'
    have hr3 : Room 3 _ := hr.mono (by decide)
    refine ⟨_, (pss_cons (ps_set (i := 3) scNo.nd rfl (Or.inl rfl) (pe_ix ix_list (pe_lst (pa_cons (pe_un un_neg pe_int) (pa_cons (pv 2) (pa_cons (pe_op op_add (pv 2) (pe_op op_mod (pe_op op_fdiv (pv 1) pe_int) (pe_op op_pow pe_int pe_int))) (pa_cons pe_bl (pa_cons pe_non (pa_cons pe_str (pa_cons (pe_lst (pa_cons pe_int pa_nil)) (pa_cons (pe_tup (pa_cons pe_int pa_nil)) pa_nil))))))))) (pe_op op_mod (pe_op op_fdiv (pv 1) pe_int) pe_int) (fun _ _ => rfl))) (pss_cons (ps_set (i := 4) scNo.nd rfl (Or.inl rfl) (pe_ix ix_list (pe_lst (pa_cons pe_str (pa_cons pe_str (pa_cons pe_str (pa_cons pe_str pa_nil))))) (pe_op op_mod (pv 1) pe_int) (fun _ _ => rfl))) (pss_one (ps_ret (pe_and (pe_call G1 hr (by rfl) D1.m D1.F.kp D1.b .nil pass0 (pa_cons (pv 0) (pa_cons (pv 4) (pa_cons (pv 3) (pa_cons (pe_ix ix_list (pe_lst (pa_cons pe_int (pa_cons (pe_un un_neg pe_int) pa_nil))) (pe_op op_mod (pe_op op_fdiv (pv 1) pe_int) pe_int) (fun _ _ => rfl)) (pa_cons pe_str pa_nil)))))) (pe_one (pe_cmpR op_isN (pe_meth (pv 0) SP.cl M1.m GM1 hr3 M1.b .nil pass0 (pa_cons (pv 3) pa_nil)) pe_non (nomark _)))))))), ?_⟩
    refine ⟨1, rfl, _, rfl, _, rfl, _, rfl, c, 32, rfl, rfl, ⟨by decide, by decide⟩, 10, 60, rfl, rfl, ⟨by decide, by decide, by decide⟩, _, _, rfl, rfl, p60, _, _, rfl, rfl, by show 1 ≤ sizeLine; decide, fun p1 hp1 => ?_⟩
    have f0 : 0 ≤ c / 32 % 10 ^ (60 : Int).toNat := Int.emod_nonneg _ (Int.ne_of_gt p60)
    have s1 := same_new (o := .lst [V.int 0]) hp1
    have z1 : upd H p1 (.lst [V.int 0]) p1 = some (.lst [V.int 0]) := upd_same
    generalize upd H p1 (.lst [V.int 0]) = H1 at *
    refine ⟨by show 1 ≤ sizeLine; decide, fun p2 hp2 => ?_⟩
    have s2 := same_new (o := .tup [V.int 0]) hp2
    have z2 : upd H1 p2 (.tup [V.int 0]) p2 = some (.tup [V.int 0]) := upd_same
    generalize upd H1 p2 (.tup [V.int 0]) = H2 at *
    refine ⟨by show 8 ≤ sizeLine; decide, fun p3 hp3 => ?_⟩
    dsimp only
    have s3 := same_new (o := .lst [V.int (-1), V.int (G.length : Nat), V.int ((G.length : Nat) + c / 32 % 10 ^ (60 : Int).toNat), V.bl true, V.non, V.str "0", V.ref p1, V.ref p2]) hp3
    have z3 : upd H2 p3 (.lst [V.int (-1), V.int (G.length : Nat), V.int ((G.length : Nat) + c / 32 % 10 ^ (60 : Int).toNat), V.bl true, V.non, V.str "0", V.ref p1, V.ref p2]) p3 = some (.lst [V.int (-1), V.int (G.length : Nat), V.int ((G.length : Nat) + c / 32 % 10 ^ (60 : Int).toNat), V.bl true, V.non, V.str "0", V.ref p1, V.ref p2]) := upd_same
    generalize upd H2 p3 (.lst [V.int (-1), V.int (G.length : Nat), V.int ((G.length : Nat) + c / 32 % 10 ^ (60 : Int).toNat), V.bl true, V.non, V.str "0", V.ref p1, V.ref p2]) = H3 at *
    obtain ⟨x, hat, tx, hx⟩ : ∃ x, atI [V.int (-1), V.int (G.length : Nat), V.int ((G.length : Nat) + c / 32 % 10 ^ (60 : Int).toNat), V.bl true, V.non, V.str "0", V.ref p1, V.ref p2] (c / 4 % 8) = some x ∧ Th H3 x ∧ below x G.length = false := by
      have h8 : c / 4 % 8 = 0 ∨ c / 4 % 8 = 1 ∨ c / 4 % 8 = 2 ∨ c / 4 % 8 = 3 ∨ c / 4 % 8 = 4 ∨ c / 4 % 8 = 5 ∨ c / 4 % 8 = 6 ∨ c / 4 % 8 = 7 := by omega
      rcases h8 with e | e | e | e | e | e | e | e <;> rw [e]
      · exact ⟨_, rfl, .int _, below_neg (by decide)⟩
      · exact ⟨_, rfl, .int _, below_far (Int.le_refl _)⟩
      · exact ⟨_, rfl, .int _, below_far (by omega)⟩
      · exact ⟨_, rfl, .bl _, rfl⟩
      · exact ⟨_, rfl, .non, rfl⟩
      · exact ⟨_, rfl, .str _, rfl⟩
      · exact ⟨_, rfl, .lst (s3 _ _ (s2 _ _ z1)), rfl⟩
      · exact ⟨_, rfl, .tup (s3 _ _ z2), rfl⟩
    refine ⟨_, rfl, c, 4, rfl, rfl, ⟨by decide, by decide⟩, _, 8, rfl, rfl, (by show (0 : Int) < 8; decide), p3, _, _, _, rfl, rfl, SqL.of z3, hat, ?_⟩
    have s13 := (s1.trans s2).trans s3
    refine ⟨by show 4 ≤ sizeLine; decide, fun p4 hp4 => ?_⟩
    have s4 := same_new (o := .lst [V.str "alone", V.str "lead", V.str "give", V.str "fresh"]) hp4
    have z4 : upd H3 p4 (.lst [V.str "alone", V.str "lead", V.str "give", V.str "fresh"]) p4 = some (.lst [V.str "alone", V.str "lead", V.str "give", V.str "fresh"]) := upd_same
    generalize upd H3 p4 (.lst [V.str "alone", V.str "lead", V.str "give", V.str "fresh"]) = H4 at *
    obtain ⟨wd, hatw, hwd⟩ : ∃ wd : Str, atI [V.str "alone", V.str "lead", V.str "give", V.str "fresh"] (c % 4) = some (V.str wd) ∧ BadP G wd x := by
      have h4 : c % 4 = 0 ∨ c % 4 = 1 ∨ c % 4 = 2 ∨ c % 4 = 3 := by omega
      rcases h4 with e | e | e | e <;> rw [e]
      · exact ⟨"alone", rfl, .inl ⟨.inl rfl, frV_below hx⟩⟩
      · exact ⟨"lead", rfl, .inl ⟨.inr (.inl rfl), frV_below hx⟩⟩
      · exact ⟨"give", rfl, .inl ⟨.inr (.inr rfl), frV_below hx⟩⟩
      · exact ⟨"fresh", rfl, .inr ⟨rfl, .inl hx⟩⟩
    refine ⟨_, rfl, c, 4, rfl, rfl, (by show (0 : Int) < 4; decide), p4, _, _, _, rfl, rfl, SqL.of z4, hatw, ?_⟩
    refine ⟨_, rfl, _, rfl, _, rfl, 1, rfl, by show 2 ≤ sizeLine; decide, fun p5 hp5 => ?_⟩
    have s5 := same_new (o := .lst [V.int 0, V.int (-1)]) hp5
    have z5 : upd H4 p5 (.lst [V.int 0, V.int (-1)]) p5 = some (.lst [V.int 0, V.int (-1)]) := upd_same
    generalize upd H4 p5 (.lst [V.int 0, V.int (-1)]) = H5 at *
    obtain ⟨y, haty⟩ : ∃ y : Int, atI [V.int 0, V.int (-1)] (c / 3 % 2) = some (.int y) := by
      have h2 : c / 3 % 2 = 0 ∨ c / 3 % 2 = 1 := by omega
      rcases h2 with e | e <;> rw [e]
      · exact ⟨_, rfl⟩
      · exact ⟨_, rfl⟩
    have s15 := (s13.trans s4).trans s5
    refine ⟨_, rfl, c, 3, rfl, rfl, ⟨by decide, by decide⟩, _, 2, rfl, rfl, (by show (0 : Int) < 2; decide), p5, _, _, _, rfl, rfl, SqL.of z5, haty, a, e, m, h, g, ns, ps, G, wd, x, _, "page", rfl, W.same s15, p.same s15, ne, tx.same (s4.trans s5), .int _, .inl ⟨hwd, rfl⟩, fun H6 s6 => ⟨_, rfl, iteT ?_⟩⟩
    have s16 := s15.trans s6
    have P6 := p.same s16
    obtain ⟨dx, fs, ha, pfl, pgo, pno⟩ := P6.ob
    refine ⟨_, rfl, a, dx, fs, rfl, ha, pno _ (by decide +kernel) (by decide +kernel), _, rfl, a, e, m, G, x, rfl, P6, tx.same ((s4.trans s5).trans s6), rfl, ?_⟩
    rw [frV_below hx, decide_eq_true rfl]
    exact q H6 s16
end
end K44

end
section
set_option Elab.async false
set_option linter.all false
set_option maxRecDepth 100000
set_option maxHeartbeats 4000000
namespace K44
open PySem L2
def put {α : Type} (G : Nat → α) (k : Nat) (x : α) : Nat → α := fun i => if i = k then x else G i
theorem put_self {α : Type} (G : Nat → α) (k : Nat) (x : α) : put G k x k = x := if_pos rfl
theorem put_ne {α : Type} (G : Nat → α) {k i : Nat} (x : α) (h : i ≠ k) : put G k x i = G i := if_neg h
structure Nx (H H' : Hp) (τ τ' : Addr → Nat) : Prop where
  kp : ∀ b u, H b = some u → τ b ≠ 1 → ¬ (20 ≤ τ b ∧ τ b < 40) → H' b = some u
  tg : ∀ b, H b ≠ none → τ' b = τ b
  dm : ∀ b, H b ≠ none → H' b ≠ none
theorem Nx.refl (H : Hp) (τ : Addr → Nat) : Nx H H τ τ := ⟨fun _ _ e _ _ => e, fun _ _ => rfl, fun _ x => x⟩
theorem Nx.same {H H' : Hp} {τ : Addr → Nat} (s : Same H H') : Nx H H' τ τ := ⟨fun _ _ e _ _ => s _ _ e, fun _ _ => rfl, fun b x y => x (s.free y)⟩
theorem Nx.trans {H H1 H2 : Hp} {τ τ1 τ2 : Addr → Nat} (x : Nx H H1 τ τ1) (y : Nx H1 H2 τ1 τ2) : Nx H H2 τ τ2 :=
  ⟨fun b u e h1 h2 => by
    have e0 : H b ≠ none := by rw [e]; exact nofun
    exact y.kp b u (x.kp b u e h1 h2) (by rw [x.tg b e0]; exact h1) (by rw [x.tg b e0]; exact h2), fun b e => (y.tg b (x.dm b e)).trans (x.tg b e), fun b e => y.dm b (x.dm b e)⟩
structure Ls (C CP : Addr) (H : Hp) (τ : Addr → Nat) (m h g rl : Addr) (a e r : Nat → Addr) (ns : List Int) (ps : Pgs) (G : Nat → Gs) : Prop where
  W : Fr C H m h g ns ps
  pt : ∀ i, i < 2 → Pt CP H (a i) (e i) m (G i)
  ro : ∀ i, i < 2 → H (r i) = some (.lst ((G i).map goV))
  b : H rl = some (.lst [.ref (r 0), .ref (r 1)])
  rg : ∀ i, i < 2 → ∀ f, some f ∈ G i → f < ns.length
  cn : ∀ f, ns.getD f 0 = ((G 0).count (some f) : Nat) + ((G 1).count (some f) : Nat)
  t1 : ∀ b, Ow m h g ps b → τ b = 1
  ta : ∀ i, i < 2 → τ (a i) = 10 + i
  te : ∀ i, i < 2 → τ (e i) = 20 + i
  tr : ∀ i, i < 2 → τ (r i) = 30 + i
  tb : τ rl = 2
section
variable {C CP : Addr} {H H' : Hp} {τ : Addr → Nat} {m h g rl : Addr} {a e r : Nat → Addr} {ns : List Int} {ps : Pgs} {G : Nat → Gs}
theorem Ls.same (Z : Ls C CP H τ m h g rl a e r ns ps G) (s : Same H H') : Ls C CP H' τ m h g rl a e r ns ps G :=
  ⟨Z.W.same s, fun i x => (Z.pt i x).same s, fun i x => s _ _ (Z.ro i x), s _ _ Z.b, Z.rg, Z.cn, Z.t1, Z.ta, Z.te, Z.tr, Z.tb⟩
theorem Ls.rw (Z : Ls C CP H τ m h g rl a e r ns ps G) : Rw H rl (r 0) (r 1) (G 0) (G 1) := ⟨Z.b, Z.ro 0 (by decide), Z.ro 1 (by decide)⟩
theorem Ls.cnk (Z : Ls C CP H τ m h g rl a e r ns ps G) {k : Nat} (hk : k < 2) (f : Nat) : ns.getD f 0 = ((G k).count (some f) : Nat) + ((G (1 - k)).count (some f) : Nat) := by
  have := Z.cn f
  rcases (show k = 0 ∨ k = 1 by omega) with rfl | rfl
  · exact this
  · show _ = ((G 1).count (some f) : Int) + ((G 0).count (some f) : Int)
    omega
theorem Ls.pos (Z : Ls C CP H τ m h g rl a e r ns ps G) {k t : Nat} (hk : k < 2) (h : some t ∈ G k) : t < ns.length ∧ 0 < ns.getD t 0 := by
  refine ⟨Z.rg k hk t h, ?_⟩
  have h1 := Z.cnk hk t
  have h2 := List.count_pos_iff.mpr h
  omega
theorem Ls.eOw (Z : Ls C CP H τ m h g rl a e r ns ps G) {k : Nat} (hk : k < 2) : ¬ Ow m h g ps (e k) := fun x => by
  have h1 := Z.t1 _ x
  have h2 := Z.te k hk
  omega
theorem two_k {k : Nat} (hk : k < 2) : (G 0).length + (G 1).length = (G k).length + (G (1 - k)).length := by
  rcases (show k = 0 ∨ k = 1 by omega) with rfl | rfl
  · rfl
  · exact Nat.add_comm ..
theorem two_atR {f : Nat → Addr} {k : Nat} (hk : k < 2) : atI [V.ref (f 0), V.ref (f 1)] (k : Int) = some (.ref (f k)) := by
  rcases (show k = 0 ∨ k = 1 by omega) with rfl | rfl
  · rfl
  · rfl
theorem Ls.step {H2 : Hp} {ns2 : List Int} {ps2 : Pgs} {k i : Nat} {o : Option Nat} (Z : Ls C CP H τ m h g rl a e r ns ps G) (hk : k < 2) (W2 : Fr C H2 m h g ns2 ps2) (P2 : Pt CP H2 (a k) (e k) m ((G k).set i o))
    (kp : ∀ b u, b ≠ h → b ≠ g → b ≠ e k → upd H (r k) (.lst (((G k).set i o).map goV)) b = some u → H2 b = some u) (n1 : ∀ b, Ow m h g ps2 b → Ow m h g ps b ∨ H b = none)
    (cn : ∀ f, ns2.getD f 0 = (((G k).set i o).count (some f) : Nat) + ((G (1 - k)).count (some f) : Nat)) (rg : ∀ f, some f ∈ (G k).set i o → f < ns2.length) (hl : ns2.length = ns.length) :
    ∃ τ', Nx H H2 τ τ' ∧ Ls C CP H2 τ' m h g rl a e r ns2 ps2 (put G k ((G k).set i o)) := by
  have th : τ h = 1 := Z.t1 h (.inr (.inl rfl))
  have tg : τ g = 1 := Z.t1 g (.inr (.inr (.inl rfl)))
  have te := Z.te k hk
  have tr := Z.tr k hk
  have kp' : ∀ b u, H b = some u → τ b ≠ 1 → τ b ≠ 20 + k → τ b ≠ 30 + k → H2 b = some u := fun b u x y z w => kp b u (fun q => y (q ▸ th)) (fun q => y (q ▸ tg)) (fun q => z (q ▸ te)) (by rw [upd_ne (show b ≠ r k from fun q => w (by rw [q]; exact tr))]; exact x)
  have rk : H2 (r k) = some (.lst (((G k).set i o).map goV)) := kp _ _ (fun q => by rw [q] at tr; omega) (fun q => by rw [q] at tr; omega) (fun q => by rw [q] at tr; omega) upd_same
  have dm : ∀ b, H b ≠ none → H2 b ≠ none := fun b x y => by
    cases hb : H b with
    | none => exact x hb
    | some u =>
      by_cases z1 : b = h
      · rw [z1, W2.ho] at y; cases y
      · by_cases z2 : b = g
        · rw [z2, W2.sh.top] at y; cases y
        · by_cases z3 : b = e k
          · rw [z3, P2.go] at y; cases y
          · by_cases z4 : b = r k
            · rw [z4, rk] at y; cases y
            · rw [kp b u z1 z2 z3 (by rw [upd_ne z4]; exact hb)] at y; cases y
  have ex : ∀ b, H b ≠ none → (if H b = none then 1 else τ b) = τ b := fun b x => if_neg x
  have exs : ∀ b u, H b = some u → (if H b = none then 1 else τ b) = τ b := fun b u x => ex b (by rw [x]; exact nofun)
  refine ⟨fun b => if H b = none then 1 else τ b, ⟨fun b u x y z => kp' b u x y (fun w => z ⟨by omega, by omega⟩) (fun w => z ⟨by omega, by omega⟩), ex, dm⟩, W2, fun j hj => ?_, fun j hj => ?_, kp' _ _ Z.b (by rw [Z.tb]; decide) (by rw [Z.tb]; omega) (by rw [Z.tb]; omega), fun j hj f hf => ?_, fun f => ?_, fun b hb => ?_, fun j hj => ?_, fun j hj => (exs _ _ (Z.pt j hj).go).trans (Z.te j hj), fun j hj => (exs _ _ (Z.ro j hj)).trans (Z.tr j hj), (exs _ _ Z.b).trans Z.tb⟩
  · by_cases z : j = k
    · subst z
      rw [put_self]
      exact P2
    · rw [put_ne _ _ z]
      refine (Z.pt j hj).kept fun b u hb x => ?_
      rcases hb with rfl | rfl
      · exact kp' _ u x (by rw [Z.ta j hj]; omega) (by rw [Z.ta j hj]; omega) (by rw [Z.ta j hj]; omega)
      · exact kp' _ u x (by rw [Z.te j hj]; omega) (by rw [Z.te j hj]; omega) (by rw [Z.te j hj]; omega)
  · by_cases z : j = k
    · subst z
      rw [put_self]
      exact rk
    · rw [put_ne _ _ z]
      exact kp' _ _ (Z.ro j hj) (by rw [Z.tr j hj]; omega) (by rw [Z.tr j hj]; omega) (by rw [Z.tr j hj]; omega)
  · by_cases z : j = k
    · subst z
      rw [put_self] at hf
      exact rg f hf
    · rw [put_ne _ _ z] at hf
      rw [hl]
      exact Z.rg j hj f hf
  · have := cn f
    rcases (show k = 0 ∨ k = 1 by omega) with rfl | rfl
    · rw [put_self, put_ne _ _ (by decide)]
      exact this
    · rw [put_self, put_ne _ _ (by decide)]
      have this2 : ns2.getD f 0 = (((G 1).set i o).count (some f) : Nat) + ((G 0).count (some f) : Nat) := this
      omega
  · show (if H b = none then 1 else τ b) = 1
    by_cases x : H b = none
    · rw [if_pos x]
    · rw [if_neg x]
      exact Z.t1 b ((n1 b hb).resolve_right x)
  · obtain ⟨dx, fs, x, _⟩ := (Z.pt j hj).ob
    exact (exs _ _ x).trans (Z.ta j hj)
theorem n1_set {p : Addr} {j : Nat} {ws : List Int} (fp : H p = none) : ∀ b, Ow m h g (ps.set j (some (p, ws))) b → Ow m h g ps b ∨ H b = none := fun b hb => by
  rcases hb with z | z | z
  · exact .inl (.inl z)
  · exact .inl (.inr (.inl z))
  · rcases z.put with y | ⟨us, y⟩
    · exact .inl (.inr (.inr y))
    · cases y
      exact .inr fp
theorem put_len {k i : Nat} {x : Option Nat} (j : Nat) : (put G k ((G k).set i x) j).length = (G j).length := by
  by_cases z : j = k
  · subst z
    rw [put_self, List.length_set]
  · rw [put_ne _ _ z]
end
def Post (C CP : Addr) (H : Hp) (τ : Addr → Nat) (m h g rl : Addr) (a e r : Nat → Addr) (ns : List Int) (G : Nat → Gs) (R : Hp → Prop) : Prop :=
  ∀ (H' : Hp) (τ' : Addr → Nat) (ns' : List Int) (ps' : Pgs) (G' : Nat → Gs), Nx H H' τ τ' → Ls C CP H' τ' m h g rl a e r ns' ps' G' → (∀ j, (G' j).length = (G j).length) → ns'.length = ns.length → R H'
def spLAlone (C CP : Addr) : Sp := fun vs H Q _ => ∃ (τ : Addr → Nat) (m h g rl : Addr) (a e r : Nat → Addr) (ns : List Int) (ps : Pgs) (G : Nat → Gs) (k i t : Nat), vs = [.ref (a k), .ref rl, .int k, .int i] ∧ Ls C CP H τ m h g rl a e r ns ps G ∧ k < 2 ∧ (G 0).length + (G 1).length ≤ ns.length ∧ (G k)[i]? = some (some t) ∧ Post C CP H τ m h g rl a e r ns G (Q (.bl true))
def spDeed (C CP : Addr) : Sp := fun vs H Q _ => ∃ (τ : Addr → Nat) (m h g rl : Addr) (a e r : Nat → Addr) (ns : List Int) (ps : Pgs) (G : Nat → Gs) (k i : Nat) (c : Int), vs = [.ref (a k), .ref rl, .int k, .int i, .int c] ∧ Ls C CP H τ m h g rl a e r ns ps G ∧ k < 2 ∧ (G 0).length + (G 1).length ≤ ns.length ∧ ns.length < 200 ∧ (∀ j, j < 2 → (G j).length ≤ 24) ∧ i < (G k).length ∧ Post C CP H τ m h g rl a e r ns G (Q (.bl true))
section
variable {P : Program} {w : World} {K : PySem.W.Frag} {mg : Str → Option Value} {base : Heap} {C CP NF NP NL NW NI : Addr}
theorem scLn : FnScope ["_law_part", "_law_rows", "_law_which", "_law_page", "_law_due", "_law_found"] ["_law_part", "_law_rows", "_law_which", "_law_page"] (defScope sLAlone) := ⟨rfl, rfl, rfl, by decide +kernel, rfl, by decide +kernel, by decide +kernel⟩
theorem ok_lalone {f f1 f2 f3 : Addr} {fd fd1 fd2 fd3 : FuncData} (F : Fun K "_law_alone" "_law_alone" sLAlone f fd) (D1 : Dn K mg "_law_count" sCount ["_law_rows", "_law_frame_here"] f1 fd1) (G1 : FnOk P w K mg base CX0 1 f1 fd1 ["_law_rows", "_law_frame_here"] spCount) (D2 : Dn K mg "_law_least" sLeast ["_law_rows"] f2 fd2) (G2 : FnOk P w K mg base CX0 1 f2 fd2 ["_law_rows"] spLeast)
    (M1 : Me K CP "alone" "Parts.alone" sAlone ["self", "page"] f3 fd3) (GM1 : FnOk P w K mg base (CXr P w) 8 f3 fd3 ["self", "page"] (spAlone C CP NP NF)) (SP : Shp K CP) (T : Txt K mg) : FnOk P w K mg base CX0 9 f fd ["_law_part", "_law_rows", "_law_which", "_law_page"] (spLAlone C CP) := by
  refine F.ok scLn (fun vs H Q E h' => ?_) (fun cdv A' outer s H vs Q E hr h' => ?_)
  · obtain ⟨τ, m, h, g, rl, a, e, r, ns, ps, G, k, i, t, rfl, _⟩ := h'
    rfl
  · obtain ⟨τ, m, h, g, rl, a, e, r, ns, ps, G, k, i, t, rfl, Z, hk, sz, hi, post⟩ := h'
    have hr1 : Room 1 _ := hr.mono (by decide)
    have il := (List.getElem?_eq_some_iff.mp hi).1
    obtain ⟨tl, t0⟩ := Z.pos hk (List.mem_of_getElem? hi)
    have ct := Z.cn t
    have ck := Z.cnk hk t
    refine ⟨_, (pss_cons (ps_set (i := 4) scLn.nd rfl (Or.inl rfl) (pe_cmpR op_gt (pe_call G1 hr1 (by rfl) D1.m D1.F.kp D1.b .nil pass0 (pa_cons (pv 1) (pa_cons (pe_ix ix_list (pe_ix ix_list (pv 1) (pv 2) (fun _ _ => rfl)) (pv 3) (fun _ _ => rfl)) pa_nil))) pe_int (nomark _))) (pss_cons (ps_if (pt_val (pv 4)) (pss_one (ps_asg (pe_call G2 hr1 (by rfl) D2.m D2.F.kp D2.b .nil pass0 (pa_cons (pv 1) pa_nil)) (pg_sub (pe_ix ix_list (pv 1) (pv 2) (fun _ _ => rfl)) (pv 3) set_list))) pss_nil) (pss_cons (ps_set (i := 5) scLn.nd rfl (Or.inl rfl) (pe_meth (pv 0) SP.cl M1.m GM1 hr M1.b .nil passX0 (pa_cons (pv 3) pa_nil))) (pss_one (ps_ret (pe_and (pe_callB call_isbool (by rfl) T.isi PyProof.Rows.boot_isinstance (pa_cons (pv 5) (pa_cons (pe_bltn (by rfl) T.boo PyProof.Rows.boot_bool (show RelV (.ty "bool") (.type "bool") from rfl)) pa_nil))) (pe_one (pe_cmpR op_eq (pv 5) (pv 4) (nomark _))))))))), ?_⟩
    refine ⟨_, rfl, _, rfl, _, rfl, rl, _, _, _, rfl, rfl, SqL.of Z.b, two_atR hk, _, rfl, r k, _, _, _, rfl, rfl, SqL.of (Z.ro k hk), atI_go hi, rl, r 0, r 1, G 0, G 1, t, rfl, Z.rw, _, 1, rfl, rfl, ?_⟩
    dsimp only
    rw [← ct]
    refine ⟨_, rfl, _, rfl, ?_⟩
    by_cases h1 : 1 < ns.getD t 0
    · refine iteTS (decide_eq_true h1) ?_
      have hz : (0 : Int) ∈ ns := by
        have h2 := free_at2 (fun f => Z.cnk hk f) h1 tl
        have l1 := somes_le (G k)
        have l2 := somes_le (G (1 - k))
        have l3 := two_k (G := G) hk
        exact List.count_pos_iff.mp (by omega)
      refine ⟨_, rfl, rl, r 0, r 1, G 0, G 1, rfl, Z.rw, fun j j1 j2 j3 => ?_⟩
      obtain ⟨jl, jz, jf⟩ := least_first Z.cn hz j1 j2 j3
      refine ⟨_, rfl, _, rfl, rl, _, _, _, rfl, rfl, SqL.of Z.b, two_atR hk, _, rfl, r k, _, _, i, rfl, rfl, Z.ro k hk, (by rw [List.length_map]; exact ixN_nat il), ?_⟩
      rw [show ((G k).map goV).set i (V.int (j : Int)) = ((G k).set i (some j)).map goV by rw [List.map_set]; rfl]
      have tr := Z.tr k hk
      have nr : ∀ b, τ b ≠ 30 + k → b ≠ r k := fun b x y => x (y ▸ tr)
      have W1 : Fr C (upd H (r k) (.lst (((G k).set i (some j)).map goV))) m h g ns ps := Z.W.keep fun b hb => upd_ne (nr b (by rw [Z.t1 b hb]; omega))
      have P1 : Pt CP (upd H (r k) (.lst (((G k).set i (some j)).map goV))) (a k) (e k) m (G k) := (Z.pt k hk).kept fun b u hb x => by
        rw [upd_ne]
        · exact x
        · rcases hb with z | z
          · rw [z]; exact nr _ (by rw [Z.ta k hk]; omega)
          · rw [z]; exact nr _ (by rw [Z.te k hk]; omega)
      obtain ⟨dx, fs, ha, pfl, pgo, pno⟩ := P1.ob
      refine ⟨_, rfl, a k, dx, fs, rfl, ha, pno _ (by decide +kernel) (by decide +kernel), _, rfl, a k, e k, m, h, g, ns, ps, G k, _, rfl, W1, P1, Z.eOw hk, .int _, (fun hv => by rw [frV_at hi] at hv; cases hv), fun i' f' ex hi' => ?_⟩
      have e1 : i = i' := (by { have := V.int.inj ex; omega })
      subst e1
      obtain rfl : t = f' := Option.some.inj (Option.some.inj (hi.symm.trans hi'))
      refine ⟨⟨tl, t0⟩, fun z => by omega, fun _ z => absurd hz z, fun _ j' pj H2 hj' hno' fp kp W2 P2 => ?_⟩
      obtain rfl : j = j' := first_unique jz jf hj' hno'
      have fpH : H pj = none := by
        by_cases z : pj = r k
        · rw [z, upd_same] at fp; cases fp
        · rw [upd_ne z] at fp; exact fp
      have hj0 : ns.getD j 0 = 0 := by rw [List.getD_eq_getElem?_getD, jz]; rfl
      have cj := Z.cnk hk j
      have jt : j ≠ t := fun z => by rw [z] at hj0; omega
      obtain ⟨τ', nx, Z'⟩ := Ls.step Z hk W2 P2 kp (n1_set fpH) (fun x => by
          rw [getD_set1 (by rw [List.length_set]; exact tl), getD_set1 jl, count_setG hi]
          have cf := Z.cnk hk x
          have c1 := count_pos hi
          simp only [Option.some.injEq]
          by_cases z : t = x
          · rw [if_pos z, if_pos z, if_neg (fun y => jt (y.trans z.symm))]
            subst z
            omega
          · rw [if_neg z, if_neg z]
            by_cases z2 : j = x
            · rw [if_pos z2, if_pos z2]
              subst z2
              omega
            · rw [if_neg z2, if_neg z2]
              omega) (fun x hx => by
          rw [List.length_set, List.length_set]
          rcases List.mem_or_eq_of_mem_set hx with z | z
          · exact Z.rg k hk x z
          · cases z
            exact jl) (by rw [List.length_set, List.length_set])
      refine ⟨_, rfl, _, rfl, .bl _, _, rfl, iteT ⟨_, rfl, _, rfl, rfl, ?_⟩⟩
      rw [show decide (V.bl true = V.bl (decide (ns.getD t 0 > 1))) = true from by rw [decide_eq_true h1]; rfl]
      exact post H2 τ' _ _ _ nx Z' put_len (by rw [List.length_set, List.length_set])
    · refine iteFS (decide_eq_false h1) ?_
      obtain ⟨dx, fs, ha, pfl, pgo, pno⟩ := (Z.pt k hk).ob
      refine ⟨_, rfl, a k, dx, fs, rfl, ha, pno _ (by decide +kernel) (by decide +kernel), _, rfl, a k, e k, m, h, g, ns, ps, G k, _, rfl, Z.W, Z.pt k hk, Z.eOw hk, .int _, (fun hv => by rw [frV_at hi] at hv; cases hv), fun i' f' ex hi' => ?_⟩
      have e1 : i = i' := (by { have := V.int.inj ex; omega })
      subst e1
      obtain rfl : t = f' := Option.some.inj (Option.some.inj (hi.symm.trans hi'))
      refine ⟨⟨tl, t0⟩, fun _ => ?_, fun z => by omega, fun z => by omega⟩
      refine ⟨_, rfl, _, rfl, .bl _, _, rfl, iteT ⟨_, rfl, _, rfl, rfl, ?_⟩⟩
      rw [show decide (V.bl false = V.bl (decide (ns.getD t 0 > 1))) = true from by rw [decide_eq_false h1]; rfl]
      exact post H τ ns ps G (Nx.refl _ _) Z (fun _ => rfl) rfl
theorem scDe : FnScope ["_law_part", "_law_rows", "_law_which", "_law_page", "_law_cell", "_law_word", "_law_here", "_law_some_here", "_law_thing", "_law_frame_here"] ["_law_part", "_law_rows", "_law_which", "_law_page", "_law_cell"] (defScope sDeed) := ⟨rfl, rfl, rfl, by decide +kernel, rfl, by decide +kernel, by decide +kernel⟩
theorem ok_deed {f f1 f2 f3 f4 f5 f6 f7 f8 : Addr} {fd fd1 fd2 fd3 fd4 fd5 fd6 fd7 fd8 : FuncData} (F : Fun K "_law_deed" "_law_deed" sDeed f fd) (D1 : Dn K mg "_law_none" sNone ["_law_part", "_law_cell", "_law_size"] f1 fd1) (G1 : FnOk P w K mg base CX0 11 f1 fd1 ["_law_part", "_law_cell", "_law_size"] (spNone C CP)) (D2 : Dn K mg "_law_least" sLeast ["_law_rows"] f2 fd2) (G2 : FnOk P w K mg base CX0 1 f2 fd2 ["_law_rows"] spLeast)
    (D3 : Dn K mg "_law_refused" sRef ["_law_part", "_law_word", "_law_page", "_law_frame_here", "_law_due"] f3 fd3) (G3 : FnOk P w K mg base CX0 10 f3 fd3 ["_law_part", "_law_word", "_law_page", "_law_frame_here", "_law_due"] (spRef C CP)) (D4 : Dn K mg "_law_alone" sLAlone ["_law_part", "_law_rows", "_law_which", "_law_page"] f4 fd4) (G4 : FnOk P w K mg base CX0 9 f4 fd4 ["_law_part", "_law_rows", "_law_which", "_law_page"] (spLAlone C CP))
    (D5 : Dn K mg "_law_some" sSome ["_law_rows", "_law_cell"] f5 fd5) (G5 : FnOk P w K mg base CX0 1 f5 fd5 ["_law_rows", "_law_cell"] spSome) (M1 : Me K CP "fresh" "Parts.fresh" sFresh ["self", "page"] f6 fd6) (GM1 : FnOk P w K mg base (CXr P w) 3 f6 fd6 ["self", "page"] (spFresh C CP NP NF))
    (M2 : Me K CP "give" "Parts.give" sGive ["self", "page"] f7 fd7) (GM2 : FnOk P w K mg base (CXr P w) 6 f7 fd7 ["self", "page"] (spGive C CP NP)) (M3 : Me K CP "lead" "Parts.lead" sLead ["self", "page", "frame"] f8 fd8) (GM3 : FnOk P w K mg base (CXr P w) 6 f8 fd8 ["self", "page", "frame"] (spLead C CP NP NF)) (SP : Shp K CP) (T : Txt K mg) : FnOk P w K mg base CX0 12 f fd ["_law_part", "_law_rows", "_law_which", "_law_page", "_law_cell"] (spDeed C CP) := by
  refine F.ok scDe (fun vs H Q E h' => ?_) (fun cdv A1 outer s H vs Q E hr h' => ?_)
  · obtain ⟨τ, m, h, g, rl, a, e, r, ns, ps, G, k, i, c, rfl, _⟩ := h'
    rfl
  · obtain ⟨τ, m, h, g, rl, a, e, r, ns, ps, G, k, i, c, rfl, Z, hk, sz, h200, l24, il, post⟩ := h'
    have hr1 : Room 1 _ := hr.mono (by decide)
    have hr3 : Room 3 _ := hr.mono (by decide)
    have hr6 : Room 6 _ := hr.mono (by decide)
    have hr9 : Room 9 _ := hr.mono (by decide)
    have hr10 : Room 10 _ := hr.mono (by decide)
    have post0 : ∀ H', Same H H' → Q (.bl true) H' := fun H' ss => post H' τ ns ps G (Nx.same ss) (Z.same ss) (fun _ => rfl) rfl
    have tr := Z.tr k hk
    have nr : ∀ b, τ b ≠ 30 + k → b ≠ r k := fun b x y => x (y ▸ tr)
    have keepW : ∀ o : HO, Fr C (upd H (r k) o) m h g ns ps := fun o => Z.W.keep fun b hb => upd_ne (nr b (by rw [Z.t1 b hb]; omega))
    have keepP : ∀ o : HO, Pt CP (upd H (r k) o) (a k) (e k) m (G k) := fun o => (Z.pt k hk).kept fun b u hb x => by
      rw [upd_ne]
      · exact x
      · rcases hb with z | z
        · rw [z]; exact nr _ (by rw [Z.ta k hk]; omega)
        · rw [z]; exact nr _ (by rw [Z.te k hk]; omega)
    have egi : (G k)[i]? = some (G k)[i] := List.getElem?_eq_getElem il
    obtain ⟨t11, R11, hR11⟩ : ∃ tr, PSs (cxOf CX0 P w K mg base ["_law_part", "_law_rows", "_law_which", "_law_page", "_law_cell", "_law_word", "_law_here", "_law_some_here", "_law_thing", "_law_frame_here"] "_law_deed" (defScope sDeed) f cdv A1 outer s H E).nox ((defBody sDeed).drop 11) tr ∧ ∀ (H1 : Hp) (t u : Nat) (wd : Str) (sh : Int), Same H H1 → (G k)[i]? = some (some t) → (some u ∈ G 0 ∨ some u ∈ G 1) → tr { nx := fun _ H' => Q .non H', rt := Q } [some (.ref (a k)), some (.ref rl), some (.int k), some (.int i), some (.int c), some (.str wd), some (goV (some t)), some (.int sh), none, some (.int u)] H1 := by
      refine ⟨_, (pss_cons (ps_asg (pv 9) (pg_sub (pe_ix ix_list (pv 1) (pv 2) (fun _ _ => rfl)) (pv 3) set_list)) (pss_one (ps_ret (pe_cmpR op_isN (pe_meth (pv 0) SP.cl M3.m GM3 hr6 M3.b .nil passX0 (pa_cons (pv 3) (pa_cons (pv 9) pa_nil))) pe_non (nomark _))))), fun H1 t u wd sh ss hi hu => ?_⟩
      have Z1 := Z.same ss
      obtain ⟨tl, t0⟩ := Z.pos hk (List.mem_of_getElem? hi)
      obtain ⟨ul, u0⟩ : u < ns.length ∧ 0 < ns.getD u 0 := by
        rcases hu with y | y
        · exact Z.pos (by decide) y
        · exact Z.pos (by decide) y
      refine ⟨_, rfl, _, rfl, _, rfl, rl, _, _, _, rfl, rfl, SqL.of Z1.b, two_atR hk, _, rfl, r k, _, _, i, rfl, rfl, Z1.ro k hk, (by rw [List.length_map]; exact ixN_nat il), ?_⟩
      rw [show ((G k).map goV).set i (V.int (u : Int)) = ((G k).set i (some u)).map goV by rw [List.map_set]; rfl]
      have W1 : Fr C (upd H1 (r k) (.lst (((G k).set i (some u)).map goV))) m h g ns ps := Z1.W.keep fun b hb => upd_ne (nr b (by rw [Z.t1 b hb]; omega))
      have P1 : Pt CP (upd H1 (r k) (.lst (((G k).set i (some u)).map goV))) (a k) (e k) m (G k) := (Z1.pt k hk).kept fun b v hb x => by
        rw [upd_ne]
        · exact x
        · rcases hb with z | z
          · rw [z]; exact nr _ (by rw [Z.ta k hk]; omega)
          · rw [z]; exact nr _ (by rw [Z.te k hk]; omega)
      obtain ⟨dx, fs, ha, pfl, pgo, pno⟩ := P1.ob
      have hfu : hasF ns (.int u) = true := by rw [hasF_of ul, decide_eq_true u0]
      refine ⟨_, rfl, a k, dx, fs, rfl, ha, pno _ (by decide +kernel) (by decide +kernel), _, rfl, _, rfl, a k, e k, m, h, g, ns, ps, G k, _, _, rfl, W1, P1, Z.eOw hk, .int _, .int _, (fun hv => by rw [frV_at hi] at hv; cases hv), (fun _ hv => by rw [hfu] at hv; cases hv), fun i' f' t' ex hi' et _ => ?_⟩
      have e1 : i = i' := (by { have := V.int.inj ex; omega })
      have e2 : u = t' := (by { have := V.int.inj et; omega })
      subst e1 e2
      obtain rfl : t = f' := Option.some.inj (Option.some.inj (hi.symm.trans hi'))
      have nxs : Nx H H1 τ τ := Nx.same ss
      refine ⟨⟨tl, t0⟩, fun htu => ?_, fun htu H2 kp W2 P2 => ?_⟩
      · subst htu
        have eid : (G k).set i (some t) = G k := by
          refine List.ext_getElem? fun q => ?_
          by_cases z : i = q
          · subst z
            rw [List.getElem?_set_self il, hi]
          · rw [List.getElem?_set_ne z]
        have hX : ∀ X : Gs, X = G k → Pt CP (upd H1 (r k) (.lst (((G k).set i (some t)).map goV))) (a k) (e k) m X := fun X hX => by rw [hX]; exact P1
        obtain ⟨τ', nx, Z'⟩ := Ls.step (o := some t) (i := i) Z1 hk W1 (hX _ eid) (fun b v _ _ _ y => y) (fun b hb => .inl hb) (by rw [eid]; exact fun x => Z.cnk hk x) (by rw [eid]; exact fun x hx => Z.rg k hk x hx) rfl
        exact ⟨rfl, post _ τ' _ _ _ (nxs.trans nx) Z' put_len rfl⟩
      · obtain ⟨τ', nx, Z'⟩ := Ls.step Z1 hk W2 P2 (fun b v x1 _ x3 y => kp b v x1 x3 y) (fun b hb => .inl hb) (fun x => by
            rw [getD_set1 (by rw [List.length_set]; exact tl), getD_set1 ul, count_setG hi]
            have cf := Z.cnk hk x
            have c1 := count_pos hi
            simp only [Option.some.injEq]
            by_cases z : t = x
            · rw [if_pos z, if_pos z, if_neg (fun y => htu (z.trans y.symm))]
              subst z
              omega
            · rw [if_neg z, if_neg z]
              by_cases z2 : u = x
              · rw [if_pos z2, if_pos z2]
                subst z2
                omega
              · rw [if_neg z2, if_neg z2]
                omega) (fun x hx => by
            rw [List.length_set, List.length_set]
            rcases List.mem_or_eq_of_mem_set hx with z | z
            · exact Z.rg k hk x z
            · cases z
              exact ul) (by rw [List.length_set, List.length_set])
        exact ⟨rfl, post H2 τ' _ _ _ (nxs.trans nx) Z' put_len (by rw [List.length_set, List.length_set])⟩
    obtain ⟨t3, R3, hR3⟩ : ∃ tr, PSs (cxOf CX0 P w K mg base ["_law_part", "_law_rows", "_law_which", "_law_page", "_law_cell", "_law_word", "_law_here", "_law_some_here", "_law_thing", "_law_frame_here"] "_law_deed" (defScope sDeed) f cdv A1 outer s H E).nox ((defBody sDeed).drop 3) tr ∧ ∀ (H1 : Hp) (wd : Str) (sh : Int), Same H H1 → (wd = "alone" ∨ wd = "lead" ∨ wd = "give" ∨ wd = "fresh" ∨ wd = "none" ∨ wd = "odd") → tr { nx := fun _ H' => Q .non H', rt := Q } [some (.ref (a k)), some (.ref rl), some (.int k), some (.int i), some (.int c), some (.str wd), some (goV (G k)[i]), some (.int sh), none, none] H1 := by
      refine ⟨_, (pss_cons (ps_if (pt_cmpR op_eq (pv 5) pe_str (nomark _)) (pss_one (ps_ret (pe_call G1 hr (by rfl) D1.m D1.F.kp D1.b .nil pass0 (pa_cons (pv 0) (pa_cons (pe_op op_fdiv (pv 4) pe_int) (pa_cons (pe_callB call_len_seq (by rfl) T.len PySem.boot_len (pa_cons (pe_ix ix_list (pv 1) (pv 2) (fun _ _ => rfl)) pa_nil)) pa_nil)))))) pss_nil) (pss_cons (ps_if (PW.pt (pw_and (pt_cmpR op_eq (pv 5) pe_str (nomark _)) (pw_and1 (pt_cmpR op_isN (pv 6) pe_non (nomark _))))) (pss_cons (ps_asg (pe_call G2 hr1 (by rfl) D2.m D2.F.kp D2.b .nil pass0 (pa_cons (pv 1) pa_nil)) (pg_sub (pe_ix ix_list (pv 1) (pv 2) (fun _ _ => rfl)) (pv 3) set_list)) (pss_one (ps_ret (pe_cmpR op_isN (pe_meth (pv 0) SP.cl M1.m GM1 hr3 M1.b .nil passX0 (pa_cons (pv 3) pa_nil)) pe_non (nomark _))))) pss_nil) (pss_cons (ps_if (PW.pt (pw_and (pt_cmpR op_eq (pv 5) pe_str (nomark _)) (pw_and1 (pt_cmpR op_notN (pv 6) pe_non (nomark _))))) (pss_cons (ps_set (i := 8) scDe.nd rfl (Or.inl rfl) (pe_ix ix_list (pe_lst (pa_cons (pe_un un_neg pe_int) (pa_cons (pe_call G2 hr1 (by rfl) D2.m D2.F.kp D2.b .nil pass0 (pa_cons (pv 1) pa_nil)) (pa_cons pe_int (pa_cons pe_bl (pa_cons pe_non (pa_cons pe_str (pa_cons (pe_lst (pa_cons pe_int pa_nil)) (pa_cons (pe_tup (pa_cons pe_int pa_nil)) pa_nil))))))))) (pe_op op_mod (pv 7) pe_int) (fun _ _ => rfl))) (pss_one (ps_ret (pe_call G3 hr10 (by rfl) D3.m D3.F.kp D3.b .nil pass0 (pa_cons (pv 0) (pa_cons pe_str (pa_cons (pv 3) (pa_cons (pv 8) (pa_cons pe_str pa_nil))))))))) pss_nil) (pss_cons (ps_if (PW.pt (pw_or (pt_cmpR op_eq (pv 5) pe_str (nomark _)) (pw_or1 (pt_cmpR op_isN (pv 6) pe_non (nomark _))))) (pss_one (ps_ret (pe_call G3 hr10 (by rfl) D3.m D3.F.kp D3.b .nil pass0 (pa_cons (pv 0) (pa_cons (pe_ix ix_list (pe_lst (pa_cons (pv 5) (pa_cons pe_str pa_nil))) (pe_callTy call_int1 (by rfl) T.int PyProof.Rows.boot_int (pa_cons (pe_cmpR op_eq (pv 5) pe_str (nomark _)) pa_nil)) (fun _ _ => rfl)) (pa_cons (pv 3) (pa_cons (pe_ix ix_list (pe_lst (pa_cons pe_int (pa_cons (pe_un un_neg pe_int) pa_nil))) (pe_op op_mod (pv 7) pe_int) (fun _ _ => rfl)) (pa_cons pe_str pa_nil)))))))) pss_nil) (pss_cons (ps_if (pt_cmpR op_eq (pv 5) pe_str (nomark _)) (pss_one (ps_ret (pe_call G4 hr9 (by rfl) D4.m D4.F.kp D4.b .nil pass0 (pa_cons (pv 0) (pa_cons (pv 1) (pa_cons (pv 2) (pa_cons (pv 3) pa_nil))))))) pss_nil) (pss_cons (ps_if (pt_cmpR op_eq (pv 5) pe_str (nomark _)) (pss_cons (ps_asg pe_non (pg_sub (pe_ix ix_list (pv 1) (pv 2) (fun _ _ => rfl)) (pv 3) set_list)) (pss_one (ps_ret (pe_cmpR op_isN (pe_meth (pv 0) SP.cl M2.m GM2 hr6 M2.b .nil passX0 (pa_cons (pv 3) pa_nil)) pe_non (nomark _))))) pss_nil) (pss_cons (ps_set (i := 9) scDe.nd rfl (Or.inl rfl) (pe_call G5 hr1 (by rfl) D5.m D5.F.kp D5.b .nil pass0 (pa_cons (pv 1) (pa_cons (pv 7) pa_nil)))) (pss_cons (ps_if (pt_cmpR op_isN (pv 9) pe_non (nomark _)) (pss_one (ps_set (i := 9) scDe.nd rfl (Or.inl rfl) (pv 6))) pss_nil) R11)))))))), fun H1 wd sh ss hw => ?_⟩
      have Z1 := Z.same ss
      have tr := Z.tr k hk
      have nrr : ∀ b, τ b ≠ 30 + k → b ≠ r k := fun b x y => x (y ▸ tr)
      have keepW : ∀ o : HO, Fr C (upd H1 (r k) o) m h g ns ps := fun o => Z1.W.keep fun b hb => upd_ne (nrr b (by rw [Z.t1 b hb]; omega))
      have keepP : ∀ o : HO, Pt CP (upd H1 (r k) o) (a k) (e k) m (G k) := fun o => (Z1.pt k hk).kept fun b u hb x => by
        rw [upd_ne]
        · exact x
        · rcases hb with z | z
          · rw [z]; exact nrr _ (by rw [Z.ta k hk]; omega)
          · rw [z]; exact nrr _ (by rw [Z.te k hk]; omega)
      have frf : ∀ (o : HO) (b : Addr), upd H1 (r k) o b = none → H1 b = none := fun o b y => by
        by_cases z : b = r k
        · rw [z, upd_same] at y; cases y
        · rw [upd_ne z] at y; exact y
      obtain ⟨y, haty⟩ : ∃ y : Int, atI [V.int 0, V.int (-1)] (sh % 2) = some (.int y) := by
        rcases (show sh % 2 = 0 ∨ sh % 2 = 1 by omega) with e | e <;> rw [e]
        · exact ⟨_, rfl⟩
        · exact ⟨_, rfl⟩
      have nxs : Nx H H1 τ τ := Nx.same ss
      cases ho : (G k)[i] with
      | none =>
        have hi : (G k)[i]? = some none := by rw [egi, ho]
        have fx : frV (G k) (.int i) = .non := frV_at hi
        rcases hw with rfl | rfl | rfl | rfl | rfl | rfl
        · refine ⟨_, rfl, rfl, _, rfl, iteFS (ne_str (by decide +kernel)) ?_⟩
          refine ⟨_, rfl, rfl, _, rfl, iteFS (ne_str (by decide +kernel)) (iteF ?_)⟩
          refine ⟨_, rfl, rfl, _, rfl, iteFS (ne_str (by decide +kernel)) (iteF ?_)⟩
          refine ⟨_, rfl, rfl, _, rfl, iteFS (ne_str (by decide +kernel)) ⟨_, rfl, rfl, _, rfl, iteTS (decide_eq_true rfl) ?_⟩⟩
          refine ⟨_, rfl, _, rfl, by show 2 ≤ sizeLine; decide, fun p4 hp4 => ?_⟩
          have u4 := same_new (o := .lst [V.str "alone", V.str "lead"]) hp4
          have z4 : upd H1 p4 (.lst [V.str "alone", V.str "lead"]) p4 = some (.lst [V.str "alone", V.str "lead"]) := upd_same
          generalize upd H1 p4 (.lst [V.str "alone", V.str "lead"]) = H4 at *
          refine ⟨_, rfl, rfl, .inr ⟨false, by rw [show decide (V.str "alone" = V.str "odd") = false from ne_str (by decide +kernel)], p4, _, _, _, rfl, rfl, SqL.of z4, rfl, ?_⟩⟩
          refine ⟨_, rfl, 1, rfl, by show 2 ≤ sizeLine; decide, fun p5 hp5 => ?_⟩
          have u5 := same_new (o := .lst [V.int 0, V.int (-1)]) hp5
          have z5 : upd H4 p5 (.lst [V.int 0, V.int (-1)]) p5 = some (.lst [V.int 0, V.int (-1)]) := upd_same
          generalize upd H4 p5 (.lst [V.int 0, V.int (-1)]) = H5 at *
          have u45 := u4.trans u5
          exact ⟨_, rfl, _, 2, rfl, rfl, (by show (0 : Int) < 2; decide), p5, _, _, _, rfl, rfl, SqL.of z5, haty, a k, e k, m, h, g, ns, ps, G k, _, _, _, "page", rfl, Z1.W.same u45, (Z1.pt k hk).same u45, Z.eOw hk, .int _, .int _, .inl ⟨.inl ⟨.inl rfl, fx⟩, rfl⟩, fun H' s' => post0 H' ((ss.trans u45).trans s')⟩
        · refine ⟨_, rfl, rfl, _, rfl, iteFS (ne_str (by decide +kernel)) ?_⟩
          refine ⟨_, rfl, rfl, _, rfl, iteFS (ne_str (by decide +kernel)) (iteF ?_)⟩
          refine ⟨_, rfl, rfl, _, rfl, iteFS (ne_str (by decide +kernel)) (iteF ?_)⟩
          refine ⟨_, rfl, rfl, _, rfl, iteFS (ne_str (by decide +kernel)) ⟨_, rfl, rfl, _, rfl, iteTS (decide_eq_true rfl) ?_⟩⟩
          refine ⟨_, rfl, _, rfl, by show 2 ≤ sizeLine; decide, fun p4 hp4 => ?_⟩
          have u4 := same_new (o := .lst [V.str "lead", V.str "lead"]) hp4
          have z4 : upd H1 p4 (.lst [V.str "lead", V.str "lead"]) p4 = some (.lst [V.str "lead", V.str "lead"]) := upd_same
          generalize upd H1 p4 (.lst [V.str "lead", V.str "lead"]) = H4 at *
          refine ⟨_, rfl, rfl, .inr ⟨false, by rw [show decide (V.str "lead" = V.str "odd") = false from ne_str (by decide +kernel)], p4, _, _, _, rfl, rfl, SqL.of z4, rfl, ?_⟩⟩
          refine ⟨_, rfl, 1, rfl, by show 2 ≤ sizeLine; decide, fun p5 hp5 => ?_⟩
          have u5 := same_new (o := .lst [V.int 0, V.int (-1)]) hp5
          have z5 : upd H4 p5 (.lst [V.int 0, V.int (-1)]) p5 = some (.lst [V.int 0, V.int (-1)]) := upd_same
          generalize upd H4 p5 (.lst [V.int 0, V.int (-1)]) = H5 at *
          have u45 := u4.trans u5
          exact ⟨_, rfl, _, 2, rfl, rfl, (by show (0 : Int) < 2; decide), p5, _, _, _, rfl, rfl, SqL.of z5, haty, a k, e k, m, h, g, ns, ps, G k, _, _, _, "page", rfl, Z1.W.same u45, (Z1.pt k hk).same u45, Z.eOw hk, .int _, .int _, .inl ⟨.inl ⟨.inr (.inl rfl), fx⟩, rfl⟩, fun H' s' => post0 H' ((ss.trans u45).trans s')⟩
        · refine ⟨_, rfl, rfl, _, rfl, iteFS (ne_str (by decide +kernel)) ?_⟩
          refine ⟨_, rfl, rfl, _, rfl, iteFS (ne_str (by decide +kernel)) (iteF ?_)⟩
          refine ⟨_, rfl, rfl, _, rfl, iteFS (ne_str (by decide +kernel)) (iteF ?_)⟩
          refine ⟨_, rfl, rfl, _, rfl, iteFS (ne_str (by decide +kernel)) ⟨_, rfl, rfl, _, rfl, iteTS (decide_eq_true rfl) ?_⟩⟩
          refine ⟨_, rfl, _, rfl, by show 2 ≤ sizeLine; decide, fun p4 hp4 => ?_⟩
          have u4 := same_new (o := .lst [V.str "give", V.str "lead"]) hp4
          have z4 : upd H1 p4 (.lst [V.str "give", V.str "lead"]) p4 = some (.lst [V.str "give", V.str "lead"]) := upd_same
          generalize upd H1 p4 (.lst [V.str "give", V.str "lead"]) = H4 at *
          refine ⟨_, rfl, rfl, .inr ⟨false, by rw [show decide (V.str "give" = V.str "odd") = false from ne_str (by decide +kernel)], p4, _, _, _, rfl, rfl, SqL.of z4, rfl, ?_⟩⟩
          refine ⟨_, rfl, 1, rfl, by show 2 ≤ sizeLine; decide, fun p5 hp5 => ?_⟩
          have u5 := same_new (o := .lst [V.int 0, V.int (-1)]) hp5
          have z5 : upd H4 p5 (.lst [V.int 0, V.int (-1)]) p5 = some (.lst [V.int 0, V.int (-1)]) := upd_same
          generalize upd H4 p5 (.lst [V.int 0, V.int (-1)]) = H5 at *
          have u45 := u4.trans u5
          exact ⟨_, rfl, _, 2, rfl, rfl, (by show (0 : Int) < 2; decide), p5, _, _, _, rfl, rfl, SqL.of z5, haty, a k, e k, m, h, g, ns, ps, G k, _, _, _, "page", rfl, Z1.W.same u45, (Z1.pt k hk).same u45, Z.eOw hk, .int _, .int _, .inl ⟨.inl ⟨.inr (.inr rfl), fx⟩, rfl⟩, fun H' s' => post0 H' ((ss.trans u45).trans s')⟩
        · refine ⟨_, rfl, rfl, _, rfl, iteFS (ne_str (by decide +kernel)) ?_⟩
          refine ⟨_, rfl, rfl, _, rfl, iteTS eq_str ⟨_, rfl, rfl, _, rfl, iteTS (decide_eq_true rfl) ?_⟩⟩
          have hz : (0 : Int) ∈ ns := by
            have h1 := free_at (fun f => Z.cnk hk f)
            have h2 := somes_lt hi
            have h3 := somes_le (G (1 - k))
            have h4 := two_k (G := G) hk
            exact List.count_pos_iff.mp (by omega)
          refine ⟨_, rfl, rl, r 0, r 1, G 0, G 1, rfl, Z1.rw, fun j j1 j2 j3 => ?_⟩
          obtain ⟨jl, jz, jf⟩ := least_first Z.cn hz j1 j2 j3
          refine ⟨_, rfl, _, rfl, rl, _, _, _, rfl, rfl, SqL.of Z1.b, two_atR hk, _, rfl, r k, _, _, i, rfl, rfl, Z1.ro k hk, (by rw [List.length_map]; exact ixN_nat il), ?_⟩
          rw [show ((G k).map goV).set i (V.int (j : Int)) = ((G k).set i (some j)).map goV by rw [List.map_set]; rfl]
          obtain ⟨dx, fs, ha, pfl, pgo, pno⟩ := (keepP (.lst (((G k).set i (some j)).map goV))).ob
          refine ⟨_, rfl, a k, dx, fs, rfl, ha, pno _ (by decide +kernel) (by decide +kernel), _, rfl, a k, e k, m, h, g, ns, ps, G k, _, rfl, keepW _, keepP _, Z.eOw hk, .int _, (fun hv => ?_), fun i' ex hi' => ?_⟩
          · rcases hv with x | x
            · rw [below_of (by omega) (by omega)] at x; cases x
            · exact x fx
          have e1 : i = i' := (by { have := V.int.inj ex; omega })
          subst e1
          refine ⟨fun z => z hz, fun j' pj H2 hj' hno' fp kp W2 P2 => ?_⟩
          obtain rfl : j = j' := first_unique jz jf hj' hno'
          have hj0 : ns.getD j 0 = 0 := by rw [List.getD_eq_getElem?_getD, jz]; rfl
          have cj := Z.cnk hk j
          obtain ⟨τ', nx, Z'⟩ := Ls.step Z1 hk W2 P2 kp (n1_set (frf _ _ fp)) (fun x => by
              rw [getD_set1 jl, count_setG hi]
              have cf := Z.cnk hk x
              simp only [Option.some.injEq]
              rw [if_neg (show ¬ ((none : Option Nat) = some x) from nofun)]
              by_cases z2 : j = x
              · rw [if_pos z2, if_pos z2]
                subst z2
                omega
              · rw [if_neg z2, if_neg z2]
                omega) (fun x hx => by
              rw [List.length_set]
              rcases List.mem_or_eq_of_mem_set hx with z | z
              · exact Z.rg k hk x z
              · cases z
                exact jl) (List.length_set ..)
          exact ⟨rfl, post H2 τ' _ _ _ (nxs.trans nx) Z' put_len (List.length_set ..)⟩
        · refine ⟨_, rfl, rfl, _, rfl, iteTS eq_str ?_⟩
          exact ⟨_, rfl, _, rfl, c, 8, rfl, rfl, ⟨by decide, by decide⟩, _, rfl, _, rfl, rl, _, _, _, rfl, rfl, SqL.of Z1.b, two_atR hk, r k, _, rfl, .inl (SqL.of (Z1.ro k hk)), a k, e k, m, h, g, ns, ps, G k, _, (by rw [List.length_map]; rfl), Z1.W, Z1.pt k hk, Z.eOw hk, fun H' s' => post0 H' (ss.trans s')⟩
        · refine ⟨_, rfl, rfl, _, rfl, iteFS (ne_str (by decide +kernel)) ?_⟩
          refine ⟨_, rfl, rfl, _, rfl, iteFS (ne_str (by decide +kernel)) (iteF ?_)⟩
          refine ⟨_, rfl, rfl, _, rfl, iteTS eq_str ⟨_, rfl, rfl, _, rfl, iteFS rfl ?_⟩⟩
          refine ⟨_, rfl, rfl, _, rfl, iteFS (ne_str (by decide +kernel)) ⟨_, rfl, rfl, _, rfl, iteTS (decide_eq_true rfl) ?_⟩⟩
          refine ⟨_, rfl, _, rfl, by show 2 ≤ sizeLine; decide, fun p4 hp4 => ?_⟩
          have u4 := same_new (o := .lst [V.str "odd", V.str "lead"]) hp4
          have z4 : upd H1 p4 (.lst [V.str "odd", V.str "lead"]) p4 = some (.lst [V.str "odd", V.str "lead"]) := upd_same
          generalize upd H1 p4 (.lst [V.str "odd", V.str "lead"]) = H4 at *
          refine ⟨_, rfl, rfl, .inr ⟨true, by rw [show decide (V.str "odd" = V.str "odd") = true from eq_str], p4, _, _, _, rfl, rfl, SqL.of z4, rfl, ?_⟩⟩
          refine ⟨_, rfl, 1, rfl, by show 2 ≤ sizeLine; decide, fun p5 hp5 => ?_⟩
          have u5 := same_new (o := .lst [V.int 0, V.int (-1)]) hp5
          have z5 : upd H4 p5 (.lst [V.int 0, V.int (-1)]) p5 = some (.lst [V.int 0, V.int (-1)]) := upd_same
          generalize upd H4 p5 (.lst [V.int 0, V.int (-1)]) = H5 at *
          have u45 := u4.trans u5
          exact ⟨_, rfl, _, 2, rfl, rfl, (by show (0 : Int) < 2; decide), p5, _, _, _, rfl, rfl, SqL.of z5, haty, a k, e k, m, h, g, ns, ps, G k, _, _, _, "page", rfl, Z1.W.same u45, (Z1.pt k hk).same u45, Z.eOw hk, .int _, .int _, .inl ⟨.inl ⟨.inr (.inl rfl), fx⟩, rfl⟩, fun H' s' => post0 H' ((ss.trans u45).trans s')⟩
      | some t =>
        have hi : (G k)[i]? = some (some t) := by rw [egi, ho]
        have fx : frV (G k) (.int i) ≠ .non := by rw [frV_at hi]; exact nofun
        obtain ⟨tl, t0⟩ := Z.pos hk (List.mem_of_getElem? hi)
        rcases hw with rfl | rfl | rfl | rfl | rfl | rfl
        · refine ⟨_, rfl, rfl, _, rfl, iteFS (ne_str (by decide +kernel)) ?_⟩
          refine ⟨_, rfl, rfl, _, rfl, iteFS (ne_str (by decide +kernel)) (iteF ?_)⟩
          refine ⟨_, rfl, rfl, _, rfl, iteFS (ne_str (by decide +kernel)) (iteF ?_)⟩
          refine ⟨_, rfl, rfl, _, rfl, iteFS (ne_str (by decide +kernel)) ⟨_, rfl, rfl, _, rfl, iteFS (decide_eq_false nofun) ?_⟩⟩
          refine ⟨_, rfl, rfl, _, rfl, iteTS eq_str ?_⟩
          exact ⟨_, rfl, _, rfl, _, rfl, _, rfl, τ, m, h, g, rl, a, e, r, ns, ps, G, k, i, t, rfl, Z1, hk, sz, hi, fun H' τ' ns' ps' G' nx Z' hl hn => post H' τ' ns' ps' G' (nxs.trans nx) Z' hl hn⟩
        · refine ⟨_, rfl, rfl, _, rfl, iteFS (ne_str (by decide +kernel)) ?_⟩
          refine ⟨_, rfl, rfl, _, rfl, iteFS (ne_str (by decide +kernel)) (iteF ?_)⟩
          refine ⟨_, rfl, rfl, _, rfl, iteFS (ne_str (by decide +kernel)) (iteF ?_)⟩
          refine ⟨_, rfl, rfl, _, rfl, iteFS (ne_str (by decide +kernel)) ⟨_, rfl, rfl, _, rfl, iteFS (decide_eq_false nofun) ?_⟩⟩
          refine ⟨_, rfl, rfl, _, rfl, iteFS (ne_str (by decide +kernel)) ?_⟩
          refine ⟨_, rfl, rfl, _, rfl, iteFS (ne_str (by decide +kernel)) ?_⟩
          refine ⟨_, rfl, _, rfl, rl, r 0, r 1, G 0, G 1, _, rfl, Z1.rw, by have := l24 0 (by decide); omega, by have := l24 1 (by decide); omega, fun o H2 s2 ho2 => ?_⟩
          cases o with
          | none =>
            refine ⟨_, rfl, rfl, _, rfl, iteTS (decide_eq_true rfl) ⟨_, rfl, ?_⟩⟩
            exact hR11 H2 t t _ sh (ss.trans s2) hi (by
              rcases (show k = 0 ∨ k = 1 by omega) with rfl | rfl
              · exact .inl (List.mem_of_getElem? hi)
              · exact .inr (List.mem_of_getElem? hi))
          | some u =>
            refine ⟨_, rfl, rfl, _, rfl, iteFS (decide_eq_false nofun) ?_⟩
            exact hR11 H2 t u _ sh (ss.trans s2) hi (ho2 u rfl)
        · refine ⟨_, rfl, rfl, _, rfl, iteFS (ne_str (by decide +kernel)) ?_⟩
          refine ⟨_, rfl, rfl, _, rfl, iteFS (ne_str (by decide +kernel)) (iteF ?_)⟩
          refine ⟨_, rfl, rfl, _, rfl, iteFS (ne_str (by decide +kernel)) (iteF ?_)⟩
          refine ⟨_, rfl, rfl, _, rfl, iteFS (ne_str (by decide +kernel)) ⟨_, rfl, rfl, _, rfl, iteFS (decide_eq_false nofun) ?_⟩⟩
          refine ⟨_, rfl, rfl, _, rfl, iteFS (ne_str (by decide +kernel)) ?_⟩
          refine ⟨_, rfl, rfl, _, rfl, iteTS eq_str ?_⟩
          refine ⟨_, rfl, _, rfl, rl, _, _, _, rfl, rfl, SqL.of Z1.b, two_atR hk, _, rfl, r k, _, _, i, rfl, rfl, Z1.ro k hk, (by rw [List.length_map]; exact ixN_nat il), ?_⟩
          rw [show ((G k).map goV).set i V.non = ((G k).set i none).map goV by rw [List.map_set]; rfl]
          obtain ⟨dx, fs, ha, pfl, pgo, pno⟩ := (keepP (.lst (((G k).set i none).map goV))).ob
          refine ⟨_, rfl, a k, dx, fs, rfl, ha, pno _ (by decide +kernel) (by decide +kernel), _, rfl, a k, e k, m, h, g, ns, ps, G k, _, rfl, keepW _, keepP _, Z.eOw hk, .int _, (fun hv => absurd hv fx), fun i' f' ex hi' => ?_⟩
          have e1 : i = i' := (by { have := V.int.inj ex; omega })
          subst e1
          obtain rfl : t = f' := Option.some.inj (Option.some.inj (hi.symm.trans hi'))
          refine ⟨⟨tl, t0⟩, fun H2 kp W2 P2 => ?_⟩
          obtain ⟨τ', nx, Z'⟩ := Ls.step Z1 hk W2 P2 (fun b v x1 _ x3 y => kp b v x1 x3 y) (fun b hb => .inl hb) (fun x => by
              rw [getD_set1 tl, count_setG hi]
              have cf := Z.cnk hk x
              have c1 := count_pos hi
              simp only [Option.some.injEq]
              rw [if_neg (show ¬ ((none : Option Nat) = some x) from nofun)]
              by_cases z2 : t = x
              · rw [if_pos z2, if_pos z2]
                subst z2
                omega
              · rw [if_neg z2, if_neg z2]
                omega) (fun x hx => by
              rw [List.length_set]
              rcases List.mem_or_eq_of_mem_set hx with z | z
              · exact Z.rg k hk x z
              · cases z) (List.length_set ..)
          exact ⟨rfl, post H2 τ' _ _ _ (nxs.trans nx) Z' put_len (List.length_set ..)⟩
        · refine ⟨_, rfl, rfl, _, rfl, iteFS (ne_str (by decide +kernel)) ?_⟩
          refine ⟨_, rfl, rfl, _, rfl, iteTS eq_str ⟨_, rfl, rfl, _, rfl, iteFS (decide_eq_false nofun) ?_⟩⟩
          refine ⟨_, rfl, rfl, _, rfl, iteFS (ne_str (by decide +kernel)) (iteF ?_)⟩
          refine ⟨_, rfl, rfl, _, rfl, iteTS eq_str (iteT ?_)⟩
          refine ⟨_, rfl, _, rfl, by show 2 ≤ sizeLine; decide, fun p4 hp4 => ?_⟩
          have u4 := same_new (o := .lst [V.str "fresh", V.str "lead"]) hp4
          have z4 : upd H1 p4 (.lst [V.str "fresh", V.str "lead"]) p4 = some (.lst [V.str "fresh", V.str "lead"]) := upd_same
          generalize upd H1 p4 (.lst [V.str "fresh", V.str "lead"]) = H4 at *
          refine ⟨_, rfl, rfl, .inr ⟨false, by rw [show decide (V.str "fresh" = V.str "odd") = false from ne_str (by decide +kernel)], p4, _, _, _, rfl, rfl, SqL.of z4, rfl, ?_⟩⟩
          refine ⟨_, rfl, 1, rfl, by show 2 ≤ sizeLine; decide, fun p5 hp5 => ?_⟩
          have u5 := same_new (o := .lst [V.int 0, V.int (-1)]) hp5
          have z5 : upd H4 p5 (.lst [V.int 0, V.int (-1)]) p5 = some (.lst [V.int 0, V.int (-1)]) := upd_same
          generalize upd H4 p5 (.lst [V.int 0, V.int (-1)]) = H5 at *
          have u45 := u4.trans u5
          exact ⟨_, rfl, _, 2, rfl, rfl, (by show (0 : Int) < 2; decide), p5, _, _, _, rfl, rfl, SqL.of z5, haty, a k, e k, m, h, g, ns, ps, G k, _, _, _, "page", rfl, Z1.W.same u45, (Z1.pt k hk).same u45, Z.eOw hk, .int _, .int _, .inl ⟨.inr ⟨rfl, .inr fx⟩, rfl⟩, fun H' s' => post0 H' ((ss.trans u45).trans s')⟩
        · refine ⟨_, rfl, rfl, _, rfl, iteTS eq_str ?_⟩
          exact ⟨_, rfl, _, rfl, c, 8, rfl, rfl, ⟨by decide, by decide⟩, _, rfl, _, rfl, rl, _, _, _, rfl, rfl, SqL.of Z1.b, two_atR hk, r k, _, rfl, .inl (SqL.of (Z1.ro k hk)), a k, e k, m, h, g, ns, ps, G k, _, (by rw [List.length_map]; rfl), Z1.W, Z1.pt k hk, Z.eOw hk, fun H' s' => post0 H' (ss.trans s')⟩
        · refine ⟨_, rfl, rfl, _, rfl, iteFS (ne_str (by decide +kernel)) ?_⟩
          refine ⟨_, rfl, rfl, _, rfl, iteFS (ne_str (by decide +kernel)) (iteF ?_)⟩
          refine ⟨_, rfl, rfl, _, rfl, iteTS eq_str ⟨_, rfl, rfl, _, rfl, iteTS (by show (!decide (V.int (t : Int) = V.non)) = true; rw [decide_eq_false nofun]; rfl) ?_⟩⟩
          refine ⟨1, rfl, _, rfl, rl, r 0, r 1, G 0, G 1, rfl, Z1.rw, fun j j1 j2 j3 => ?_⟩
          have hj0 : own ns (.int (j : Nat)) = 0 := by
            rw [own_cnt Z.cn j, List.count_eq_zero.mpr j1, List.count_eq_zero.mpr j2]
            rfl
          refine ⟨by show 1 ≤ sizeLine; decide, fun p1 hp1 => ?_⟩
          have u1 := same_new (o := .lst [V.int 0]) hp1
          have z1 : upd H1 p1 (.lst [V.int 0]) p1 = some (.lst [V.int 0]) := upd_same
          generalize upd H1 p1 (.lst [V.int 0]) = H2 at *
          refine ⟨by show 1 ≤ sizeLine; decide, fun p2 hp2 => ?_⟩
          have u2 := same_new (o := .tup [V.int 0]) hp2
          have z2 : upd H2 p2 (.tup [V.int 0]) p2 = some (.tup [V.int 0]) := upd_same
          generalize upd H2 p2 (.tup [V.int 0]) = H3 at *
          refine ⟨by show 8 ≤ sizeLine; decide, fun p3 hp3 => ?_⟩
          have u3 := same_new (o := .lst [V.int (-1), V.int (j : Nat), V.int 200, V.bl true, V.non, V.str "0", V.ref p1, V.ref p2]) hp3
          have z3 : upd H3 p3 (.lst [V.int (-1), V.int (j : Nat), V.int 200, V.bl true, V.non, V.str "0", V.ref p1, V.ref p2]) p3 = some (.lst [V.int (-1), V.int (j : Nat), V.int 200, V.bl true, V.non, V.str "0", V.ref p1, V.ref p2]) := upd_same
          generalize upd H3 p3 (.lst [V.int (-1), V.int (j : Nat), V.int 200, V.bl true, V.non, V.str "0", V.ref p1, V.ref p2]) = H4 at *
          have u14 := (u1.trans u2).trans u3
          obtain ⟨x, hat, tx, hx⟩ : ∃ x, atI [V.int (-1), V.int (j : Nat), V.int 200, V.bl true, V.non, V.str "0", V.ref p1, V.ref p2] (sh % 8) = some x ∧ Th H4 x ∧ hasF ns x = false := by
            have h8 : sh % 8 = 0 ∨ sh % 8 = 1 ∨ sh % 8 = 2 ∨ sh % 8 = 3 ∨ sh % 8 = 4 ∨ sh % 8 = 5 ∨ sh % 8 = 6 ∨ sh % 8 = 7 := by omega
            rcases h8 with e | e | e | e | e | e | e | e <;> rw [e]
            · exact ⟨_, rfl, .int _, hasF_below (below_neg (by decide))⟩
            · exact ⟨_, rfl, .int _, by unfold hasF; rw [hj0]; rfl⟩
            · exact ⟨_, rfl, .int _, hasF_below (below_far (by omega))⟩
            · exact ⟨_, rfl, .bl _, rfl⟩
            · exact ⟨_, rfl, .non, rfl⟩
            · exact ⟨_, rfl, .str _, rfl⟩
            · exact ⟨_, rfl, .lst (u3 _ _ (u2 _ _ z1)), rfl⟩
            · exact ⟨_, rfl, .tup (u3 _ _ z2), rfl⟩
          refine ⟨_, rfl, _, 8, rfl, rfl, (by show (0 : Int) < 8; decide), p3, _, _, _, rfl, rfl, SqL.of z3, hat, ?_⟩
          exact ⟨_, rfl, _, rfl, _, rfl, a k, e k, m, h, g, ns, ps, G k, "lead", _, x, "frame", rfl, Z1.W.same u14, (Z1.pt k hk).same u14, Z.eOw hk, .int _, tx, .inr ⟨⟨rfl, fx, hx⟩, rfl⟩, fun H' s' => post0 H' ((ss.trans u14).trans s')⟩
    refine ⟨_, (pss_cons (ps_set (i := 5) scDe.nd rfl (Or.inl rfl) (pe_ix ix_list (pe_lst (pa_cons pe_str (pa_cons pe_str (pa_cons pe_str (pa_cons pe_str (pa_cons pe_str (pa_cons pe_str (pa_cons pe_str (pa_cons pe_str pa_nil))))))))) (pe_op op_mod (pv 4) pe_int) (fun _ _ => rfl))) (pss_cons (ps_set (i := 6) scDe.nd rfl (Or.inl rfl) (pe_ix ix_list (pe_ix ix_list (pv 1) (pv 2) (fun _ _ => rfl)) (pv 3) (fun _ _ => rfl))) (pss_cons (ps_set (i := 7) scDe.nd rfl (Or.inl rfl) (pe_op op_mod (pe_op op_mul (pe_op op_fdiv (pv 4) pe_int) pe_int) pe_int)) R3))), ?_⟩
    refine ⟨by show 8 ≤ sizeLine; decide, fun pw hpw => ?_⟩
    have s1 := same_new (o := .lst [V.str "alone", V.str "alone", V.str "lead", V.str "lead", V.str "give", V.str "fresh", V.str "none", V.str "odd"]) hpw
    have zw : upd H pw (.lst [V.str "alone", V.str "alone", V.str "lead", V.str "lead", V.str "give", V.str "fresh", V.str "none", V.str "odd"]) pw = some (.lst [V.str "alone", V.str "alone", V.str "lead", V.str "lead", V.str "give", V.str "fresh", V.str "none", V.str "odd"]) := upd_same
    generalize upd H pw (.lst [V.str "alone", V.str "alone", V.str "lead", V.str "lead", V.str "give", V.str "fresh", V.str "none", V.str "odd"]) = H1 at *
    have Z1 := Z.same s1
    obtain ⟨wd, hat, hw⟩ : ∃ wd : Str, atI [V.str "alone", V.str "alone", V.str "lead", V.str "lead", V.str "give", V.str "fresh", V.str "none", V.str "odd"] (c % 8) = some (.str wd) ∧ (wd = "alone" ∨ wd = "lead" ∨ wd = "give" ∨ wd = "fresh" ∨ wd = "none" ∨ wd = "odd") := by
      have h8 : c % 8 = 0 ∨ c % 8 = 1 ∨ c % 8 = 2 ∨ c % 8 = 3 ∨ c % 8 = 4 ∨ c % 8 = 5 ∨ c % 8 = 6 ∨ c % 8 = 7 := by omega
      rcases h8 with e | e | e | e | e | e | e | e <;> rw [e]
      · exact ⟨_, rfl, .inl rfl⟩
      · exact ⟨_, rfl, .inl rfl⟩
      · exact ⟨_, rfl, .inr (.inl rfl)⟩
      · exact ⟨_, rfl, .inr (.inl rfl)⟩
      · exact ⟨_, rfl, .inr (.inr (.inl rfl))⟩
      · exact ⟨_, rfl, .inr (.inr (.inr (.inl rfl)))⟩
      · exact ⟨_, rfl, .inr (.inr (.inr (.inr (.inl rfl))))⟩
      · exact ⟨_, rfl, .inr (.inr (.inr (.inr (.inr rfl))))⟩
    refine ⟨_, rfl, c, 8, rfl, rfl, (by show (0 : Int) < 8; decide), pw, _, _, _, rfl, rfl, SqL.of zw, hat, ?_⟩
    refine ⟨_, rfl, _, rfl, rl, _, _, _, rfl, rfl, SqL.of Z1.b, two_atR hk, _, rfl, r k, _, _, _, rfl, rfl, SqL.of (Z1.ro k hk), atI_go egi, ?_⟩
    refine ⟨_, rfl, c, 8, rfl, rfl, ⟨by decide, by decide⟩, _, 40503, rfl, rfl, .inr ⟨by decide, by decide⟩, _, 65537, rfl, rfl, (by show (0 : Int) < 65537; decide), ?_⟩
    exact hR3 H1 wd _ s1 hw
end
end K44

end
section
set_option Elab.async false
set_option linter.all false
set_option maxRecDepth 100000
set_option maxHeartbeats 4000000
namespace K44
open PySem L2
def forBody : Stmt → List Stmt
  | .For _ _ b _ _ => b
  | _ => []
theorem two_atI {f : Nat → Nat} {k : Nat} (hk : k < 2) : atI [V.int (f 0 : Nat), V.int (f 1 : Nat)] (k : Int) = some (.int (f k : Nat)) := by
  rcases (show k = 0 ∨ k = 1 by omega) with rfl | rfl
  · rfl
  · rfl
theorem range_put {a : Nat → Addr} {i : Nat} {x : Addr} : (List.range (i + 1)).map (fun j => V.ref (put a i x j)) = (List.range i).map (fun j => V.ref (a j)) ++ [V.ref x] := by
  rw [List.range_succ, List.map_append]
  congr 1
  · refine List.map_congr_left fun j hj => ?_
    rw [put_ne _ _ (by have := List.mem_range.mp hj; omega)]
  · show [V.ref (put a i x i)] = _
    rw [put_self]
def spLaw (K : PySem.W.Frag) : Sp := fun vs H Q _ => ∃ (a : Addr) (ns : List Int), vs = [.ref a] ∧ SqL K H a (ns.map V.int) ∧ ns.length ≤ 63 ∧ ∀ H', Q (.bl true) H'
structure Lb (C CP : Addr) (H : Hp) (τ : Addr → Nat) (m h g rl pl szl : Addr) (a e r : Nat → Addr) (i : Nat) (ns : List Int) (ps : Pgs) (G : Nat → Gs) (nn : Nat → Nat) (F : Nat) : Prop where
  W : Fr C H m h g ns ps
  pt : ∀ j, j < i → Pt CP H (a j) (e j) m (G j)
  ro : ∀ j, j < 2 → H (r j) = some (.lst ((G j).map goV))
  b : H rl = some (.lst [.ref (r 0), .ref (r 1)])
  rg : ∀ j, j < 2 → ∀ f, some f ∈ G j → f < ns.length
  cn : ∀ f, ns.getD f 0 = ((G 0).count (some f) : Nat) + ((G 1).count (some f) : Nat)
  em : ∀ j, i ≤ j → G j = []
  t1 : ∀ b, Ow m h g ps b → τ b = 1
  ta : ∀ j, j < i → τ (a j) = 10 + j
  te : ∀ j, j < i → τ (e j) = 20 + j
  tr : ∀ j, j < 2 → τ (r j) = 30 + j
  tb : τ rl = 2
  p : H pl = some (.lst ((List.range i).map fun j => V.ref (a j)))
  tp : τ pl = 2
  s : H szl = some (.lst [V.int (nn 0 : Nat), V.int (nn 1 : Nat)])
  ts : τ szl = 2
  ln : ∀ j, j < i → (G j).length = nn j
  fr : ns.length = F
section
variable {C CP : Addr} {H H' : Hp} {τ τ' : Addr → Nat} {m h g rl pl szl : Addr} {a e r : Nat → Addr} {ns ns' : List Int} {ps ps' : Pgs} {G G' : Nat → Gs} {nn : Nat → Nat} {F : Nat}
theorem Lb.ls (L : Lb C CP H τ m h g rl pl szl a e r 2 ns ps G nn F) : Ls C CP H τ m h g rl a e r ns ps G := ⟨L.W, L.pt, L.ro, L.b, L.rg, L.cn, L.t1, L.ta, L.te, L.tr, L.tb⟩
theorem Lb.next (L : Lb C CP H τ m h g rl pl szl a e r 2 ns ps G nn F) (nx : Nx H H' τ τ') (Z : Ls C CP H' τ' m h g rl a e r ns' ps' G') (hG : ∀ j, (G' j).length = (G j).length) (hn : ns'.length = ns.length) : Lb C CP H' τ' m h g rl pl szl a e r 2 ns' ps' G' nn F := by
  have k2 : ∀ b u, τ b = 2 → H b = some u → H' b = some u := fun b u x y => nx.kp b u y (by omega) (by omega)
  have t2 : ∀ b u, τ b = 2 → H b = some u → τ' b = 2 := fun b u x y => by rw [nx.tg b (by rw [y]; exact nofun)]; exact x
  refine ⟨Z.W, Z.pt, Z.ro, Z.b, Z.rg, Z.cn, fun j hj => ?_, Z.t1, Z.ta, Z.te, Z.tr, Z.tb, k2 _ _ L.tp L.p, t2 _ _ L.tp L.p, k2 _ _ L.ts L.s, t2 _ _ L.ts L.s, fun j hj => (hG j).trans (L.ln j hj), hn.trans L.fr⟩
  have h1 := hG j
  rw [L.em j hj] at h1
  exact List.eq_nil_of_length_eq_zero h1
theorem Lb.same {i : Nat} (L : Lb C CP H τ m h g rl pl szl a e r i ns ps G nn F) (s : Same H H') (tt : ∀ b, H b ≠ none → τ' b = τ b) : Lb C CP H' τ' m h g rl pl szl a e r i ns ps G nn F := by
  have t2 : ∀ b u, H b = some u → τ' b = τ b := fun b u y => tt b (by rw [y]; exact nofun)
  refine ⟨L.W.same s, fun j x => (L.pt j x).same s, fun j x => s _ _ (L.ro j x), s _ _ L.b, L.rg, L.cn, L.em, fun b hb => ?_, fun j x => ?_, fun j x => (t2 _ _ (L.pt j x).go).trans (L.te j x), fun j x => (t2 _ _ (L.ro j x)).trans (L.tr j x), (t2 _ _ L.b).trans L.tb, s _ _ L.p, (t2 _ _ L.p).trans L.tp, s _ _ L.s, (t2 _ _ L.s).trans L.ts, L.ln, L.fr⟩
  · rw [tt b (fun z => by
      rcases hb with y | y | y
      · obtain ⟨dm, fm, hm, _⟩ := L.W.ob
        rw [y, hm] at z; cases z
      · rw [y, L.W.ho] at z; cases z
      · obtain ⟨xs, x⟩ := y.lst L.W.sh
        rw [x] at z; cases z)]
    exact L.t1 b hb
  · obtain ⟨dx, fs, y, _⟩ := (L.pt j x).ob
    exact (t2 _ _ y).trans (L.ta j x)
theorem Lb.build {i : Nat} {a' e' : Addr} {G1 : Gs} (L : Lb C CP H τ m h g rl pl szl a e r i ns ps G nn F) (hi : i < 2) (W' : Fr C H' m h g ns' ps') (P' : Pt CP H' a' e' m G1) (fa : H a' = none) (fe : H e' = none) (ae : a' ≠ e') (n1 : ∀ b, Ow m h g ps' b → Ow m h g ps b ∨ (H b = none ∧ b ≠ a' ∧ b ≠ e'))
    (kp : ∀ b u, H b = some u → τ b ≠ 1 → b ≠ pl → b ≠ r i → H' b = some u) (hp : H' pl = some (.lst ((List.range (i + 1)).map fun j => V.ref (put a i a' j)))) (hr : H' (r i) = some (.lst (G1.map goV))) (pls : pl ≠ szl) (plr : pl ≠ rl)
    (cn : ∀ f, ns'.getD f 0 = ns.getD f 0 + (G1.count (some f) : Nat)) (rg : ∀ f, some f ∈ G1 → f < ns.length) (hl : ns'.length = ns.length) (ln : G1.length = nn i) :
    ∃ τ', (∀ b, H b ≠ none → τ' b = τ b) ∧ Lb C CP H' τ' m h g rl pl szl (put a i a') (put e i e') r (i + 1) ns' ps' (put G i G1) nn F := by
  classical
  let τ' : Addr → Nat := fun b => if H b = none then (if b = a' then 10 + i else if b = e' then 20 + i else 1) else τ b
  have ex : ∀ b, H b ≠ none → τ' b = τ b := fun b x => if_neg x
  have exs : ∀ b u, H b = some u → τ' b = τ b := fun b u x => ex b (by rw [x]; exact nofun)
  have cases' : ∀ j, j < i + 1 → j ≠ i → j < i := fun j x y => by omega
  have Gi : G i = [] := L.em i (Nat.le_refl _)
  have ri := L.tr i hi
  have ti : τ pl = 2 := L.tp
  have kp' : ∀ b u, H b = some u → τ b ≠ 1 → τ b ≠ 2 → τ b ≠ 30 + i → H' b = some u := fun b u x y z w => kp b u x y (fun q => z (q ▸ ti)) (fun q => w (q ▸ ri))
  refine ⟨τ', ex, W', fun j hj => ?_, fun j hj => ?_, kp _ _ L.b (by rw [L.tb]; decide) plr.symm (fun q => by have := L.tb; rw [q] at this; omega), fun j hj f hf => ?_, fun f => ?_, fun j hj => ?_, fun b hb => ?_, fun j hj => ?_, fun j hj => ?_, fun j hj => (exs _ _ (L.ro j hj)).trans (L.tr j hj), (exs _ _ L.b).trans L.tb, hp, (exs _ _ L.p).trans L.tp, kp _ _ L.s (by rw [L.ts]; decide) pls.symm (fun q => by have := L.ts; rw [q] at this; omega), (exs _ _ L.s).trans L.ts, fun j hj => ?_, hl.trans L.fr⟩
  · by_cases z : j = i
    · subst z
      rw [put_self, put_self, put_self]
      exact P'
    · rw [put_ne _ _ z, put_ne _ _ z, put_ne _ _ z]
      have hj' := cases' j hj z
      have h1 := L.ta j hj'
      have h2 := L.te j hj'
      refine (L.pt j hj').kept fun b u hb x => ?_
      rcases hb with rfl | rfl
      · exact kp' _ u x (by omega) (by omega) (by omega)
      · exact kp' _ u x (by omega) (by omega) (by omega)
  · by_cases z : j = i
    · subst z
      rw [put_self]
      exact hr
    · rw [put_ne _ _ z]
      have h1 := L.tr j hj
      exact kp' _ _ (L.ro j hj) (by omega) (by omega) (by omega)
  · rw [hl]
    by_cases z : j = i
    · subst z
      rw [put_self] at hf
      exact rg f hf
    · rw [put_ne _ _ z] at hf
      exact L.rg j hj f hf
  · have h1 := cn f
    have h2 := L.cn f
    rcases (show i = 0 ∨ i = 1 by omega) with rfl | rfl
    · rw [put_self, put_ne _ _ (by decide)]
      rw [Gi] at h2
      have : ([] : Gs).count (some f) = 0 := rfl
      omega
    · rw [put_self, put_ne _ _ (by decide)]
      rw [Gi] at h2
      have : ([] : Gs).count (some f) = 0 := rfl
      omega
  · rw [put_ne _ _ (by omega)]
    exact L.em j (by omega)
  · rcases n1 b hb with y | ⟨y, y1, y2⟩
    · obtain ⟨u, x⟩ : ∃ u, H b = some u := by
        rcases y with rfl | rfl | y
        · obtain ⟨dm, fm, hm, _⟩ := L.W.ob
          exact ⟨_, hm⟩
        · exact ⟨_, L.W.ho⟩
        · obtain ⟨xs, x⟩ := y.lst L.W.sh
          exact ⟨_, x⟩
      rw [exs b u x]
      exact L.t1 b y
    · show (if H b = none then (if b = a' then 10 + i else if b = e' then 20 + i else 1) else τ b) = 1
      rw [if_pos y, if_neg y1, if_neg y2]
  · by_cases z : j = i
    · subst z
      rw [put_self]
      show (if H a' = none then (if a' = a' then 10 + j else if a' = e' then 20 + j else 1) else τ a') = 10 + j
      rw [if_pos fa, if_pos rfl]
    · rw [put_ne _ _ z]
      have hj' := cases' j hj z
      obtain ⟨dx, fs, x, _⟩ := (L.pt j hj').ob
      exact (exs _ _ x).trans (L.ta j hj')
  · by_cases z : j = i
    · subst z
      rw [put_self]
      show (if H e' = none then (if e' = a' then 10 + j else if e' = e' then 20 + j else 1) else τ e') = 20 + j
      rw [if_pos fe, if_neg ae.symm, if_pos rfl]
    · rw [put_ne _ _ z]
      have hj' := cases' j hj z
      exact (exs _ _ (L.pt j hj').go).trans (L.te j hj')
  · by_cases z : j = i
    · subst z
      rw [put_self]
      exact ln
    · rw [put_ne _ _ z]
      exact L.ln j (cases' j hj z)
theorem least_eq {i t t0 : Nat} {X : Gs} (cn : ∀ f, ns.getD f 0 = ((G 0).count (some f) : Nat) + ((G 1).count (some f) : Nat)) (hi : i < 2) (Gi : G i = []) (g0 : ns.getD t0 0 + (X.count (some t0) : Nat) = 0) (g1 : ∀ t', t' < t0 → 0 < ns.getD t' 0 + (X.count (some t') : Nat))
    (h0 : some t ∉ put G i X 0) (h1 : some t ∉ put G i X 1) (h2 : ∀ u, u < t → some u ∈ put G i X 0 ∨ some u ∈ put G i X 1) : t = t0 := by
  have tot : ∀ f, ns.getD f 0 + (X.count (some f) : Nat) = ((put G i X 0).count (some f) : Nat) + ((put G i X 1).count (some f) : Nat) := fun f => by
    have hc := cn f
    have : ([] : Gs).count (some f) = 0 := rfl
    rcases (show i = 0 ∨ i = 1 by omega) with rfl | rfl
    · rw [put_self, put_ne _ _ (by decide)]
      rw [Gi] at hc
      omega
    · rw [put_self, put_ne _ _ (by decide)]
      rw [Gi] at hc
      omega
  rcases Nat.lt_trichotomy t t0 with z | z | z
  · have h3 := g1 t z
    rw [tot t, List.count_eq_zero.mpr h0, List.count_eq_zero.mpr h1] at h3
    exact absurd h3 (by decide)
  · exact z
  · rw [tot t0] at g0
    rcases h2 t0 z with y | y
    · have := List.count_pos_iff.mpr y
      omega
    · have := List.count_pos_iff.mpr y
      omega
end
section
variable {P : Program} {w : World} {K : PySem.W.Frag} {mg : Str → Option Value} {base : Heap} {C CP NF NP NL NW NI : Addr}
theorem scLa : FnScope ["_law_script", "_law_sizes", "_law_frames", "_law_parts", "_law_rows", "_law_k", "_law_image_here", "_law_words", "_law_cell", "_law_which", "_law_page", "_law_seen"] ["_law_script"] (defScope sLaw) := ⟨rfl, rfl, rfl, by decide +kernel, rfl, by decide +kernel, by decide +kernel⟩
theorem ok_law {f f0 f00 f1 f2 f3 f4 f5 : Addr} {fd fd0 fd00 fd1 fd2 fd3 fd4 fd5 : FuncData} (F : Fun K "law" "law" sLaw f fd) (D1 : Dn K mg "_law_cell_at" sCell ["_law_script", "_law_k"] f1 fd1) (G1 : FnOk P w K mg base CX0 1 f1 fd1 ["_law_script", "_law_k"] (spCell K))
    (D2 : Dn K mg "_law_image" sImg ["_law_cell", "_law_size"] f2 fd2) (G2 : FnOk P w K mg base CX0 1 f2 fd2 ["_law_cell", "_law_size"] spImg) (D3 : Dn K mg "_law_least" sLeast ["_law_rows"] f3 fd3) (G3 : FnOk P w K mg base CX0 1 f3 fd3 ["_law_rows"] spLeast)
    (D4 : Dn K mg "_law_shows" sShows ["_law_frames", "_law_part", "_law_rows", "_law_which", "_law_page", "_law_seen"] f4 fd4) (G4 : FnOk P w K mg base CX0 5 f4 fd4 ["_law_frames", "_law_part", "_law_rows", "_law_which", "_law_page", "_law_seen"] (spShows C CP)) (D5 : Dn K mg "_law_deed" sDeed ["_law_part", "_law_rows", "_law_which", "_law_page", "_law_cell"] f5 fd5) (G5 : FnOk P w K mg base CX0 12 f5 fd5 ["_law_part", "_law_rows", "_law_which", "_law_page", "_law_cell"] (spDeed C CP))
    (MK : Mk K C f0) (mC : mg "Frames" = some (.ref C)) (BI : Binds K fd0 ["self", "many"] []) (GI : FnOk P w K mg base (CXr P w) 2 f0 fd0 ["self", "many"] (spInit C NF))
    (MKP : Mk K CP f00) (mCP : mg "Parts" = some (.ref CP)) (BIP : Binds K fd00 ["self", "frames", "pages"] []) (GIP : FnOk P w K mg base (CXr P w) 8 f00 fd00 ["self", "frames", "pages"] (spPInit C CP)) (T : Txt K mg) : FnOk P w K mg base CX0 13 f fd ["_law_script"] (spLaw K) := by
  refine F.ok scLa (fun vs H Q E h => ?_) (fun cdv A1 outer s H vs Q E hr h => ?_)
  · obtain ⟨x, ns, rfl, _⟩ := h
    rfl
  · obtain ⟨x, sc, rfl, hS, _, q0⟩ := h
    have hr1 : Room 1 _ := hr.mono (by decide)
    have hr3 : Room 3 _ := hr.mono (by decide)
    have hr5 : Room 5 _ := hr.mono (by decide)
    have hr9 : Room 9 _ := hr.mono (by decide)
    obtain ⟨t6, R6, hR6⟩ : ∃ tr, PSs (cxOf CX0 P w K mg base ["_law_script", "_law_sizes", "_law_frames", "_law_parts", "_law_rows", "_law_k", "_law_image_here", "_law_words", "_law_cell", "_law_which", "_law_page", "_law_seen"] "law" (defScope sLaw) f cdv A1 outer s H E).nox ((defBody sLaw).drop 6) tr ∧ ∀ (H1 : Hp) (τ : Addr → Nat) (m h g rl pl szl : Addr) (a e r : Nat → Addr) (ns : List Int) (ps : Pgs) (G : Nat → Gs) (nn : Nat → Nat) (F : Nat) (v1 v2 v3 : Option V), Lb C CP H1 τ m h g rl pl szl a e r 2 ns ps G nn F → (∀ j, j < 2 → 1 ≤ nn j ∧ nn j ≤ 24) → nn 0 + nn 1 ≤ F → F < 200 → Same H H1 → tr { nx := fun _ H' => Q .non H', rt := Q } [some (.ref x), some (.ref szl), some (.ref m), some (.ref pl), some (.ref rl), v1, v2, v3, none, none, none, none] H1 := by
      refine ⟨_, (pss_cons (ps_for PassesOwn.never rfl (pi_list (pe_slice sl_list (pv 0) (po_some pe_int) (po_some pe_int))) (pg_name (i := 8) scLa.nd rfl (Or.inl rfl)) (pss_cons (ps_set (i := 9) scLa.nd rfl (Or.inl rfl) (pe_op op_mod (pv 8) pe_int)) (pss_cons (ps_set (i := 10) scLa.nd rfl (Or.inl rfl) (pe_op op_mod (pe_op op_fdiv (pe_op op_mod (pe_op op_mul (pe_op op_add (pe_op op_mod (pv 8) pe_int) pe_int) pe_int) pe_int) pe_int) (pe_ix ix_list (pv 1) (pv 9) (fun _ _ => rfl)))) (pss_cons (ps_set (i := 11) scLa.nd rfl (Or.inl rfl) (pe_lst (pa_cons (pe_ix ix_list (pe_ix ix_list (pv 4) (pv 9) (fun _ _ => rfl)) (pv 10) (fun _ _ => rfl)) pa_nil))) (pss_cons (ps_if (pt_not (pt_val (pe_call G5 hr (by rfl) D5.m D5.F.kp D5.b .nil pass0 (pa_cons (pe_ix ix_list (pv 3) (pv 9) (fun _ _ => rfl)) (pa_cons (pv 4) (pa_cons (pv 9) (pa_cons (pv 10) (pa_cons (pe_op op_fdiv (pv 8) pe_int) pa_nil)))))))) (pss_one (ps_ret pe_bl)) pss_nil) (pss_cons (ps_if (pt_not (pt_val (pe_call G4 hr5 (by rfl) D4.m D4.F.kp D4.b .nil pass0 (pa_cons (pv 2) (pa_cons (pe_ix ix_list (pv 3) (pv 9) (fun _ _ => rfl)) (pa_cons (pv 4) (pa_cons (pv 9) (pa_cons (pv 10) (pa_cons (pv 11) pa_nil))))))))) (pss_one (ps_ret pe_bl)) pss_nil) (pss_one (ps_if (pt_not (pt_val (pe_call G4 hr5 (by rfl) D4.m D4.F.kp D4.b .nil pass0 (pa_cons (pv 2) (pa_cons (pe_ix ix_list (pv 3) (pe_op op_sub pe_int (pv 9)) (fun _ _ => rfl)) (pa_cons (pv 4) (pa_cons (pe_op op_sub pe_int (pv 9)) (pa_cons pe_int (pa_cons (pv 11) pa_nil))))))))) (pss_one (ps_ret pe_bl)) pss_nil)))))))) (pss_one (ps_ret pe_bl))), fun H1 τ m h g rl pl szl a e r ns ps G nn F v1 v2 v3 L hnn hF hF2 ss => ?_⟩
      refine ⟨_, rfl, 4, rfl, 64, rfl, x, _, rfl, ss.seq hS, fun sl hsl => ?_⟩
      obtain ⟨ms, hms, hml⟩ := cut_ints sc (some 4) (some 64)
      rw [hms]
      have s2 := same_new (o := .lst (ms.map V.int)) hsl
      have zsl : upd H1 sl (.lst (ms.map V.int)) sl = some (.lst (ms.map V.int)) := upd_same
      have L2 : Lb C CP (upd H1 sl (.lst (ms.map V.int))) (fun b => if b = sl then 2 else τ b) m h g rl pl szl a e r 2 ns ps G nn F := L.same s2 fun b y => if_neg (show ¬ b = sl from fun z => y (by rw [z]; exact hsl))
      generalize upd H1 sl (.lst (ms.map V.int)) = H2 at *
      have tsl : (fun b => if b = sl then 2 else τ b) sl = 2 := if_pos rfl
      generalize (fun b => if b = sl then 2 else τ b) = τ2 at *
      refine ⟨sl, rfl, ⟨_, SqL.of zsl⟩, for_list (K := K) (a := sl) (xs := ms.map V.int) (fun i σ H' => ∃ (τ' : Addr → Nat) (ns' : List Int) (ps' : Pgs) (G' : Nat → Gs) (w1 w2 w3 w4 : Option V), σ = [some (.ref x), some (.ref szl), some (.ref m), some (.ref pl), some (.ref rl), v1, v2, v3, w1, w2, w3, w4] ∧ Lb C CP H' τ' m h g rl pl szl a e r 2 ns' ps' G' nn F ∧ H' sl = some (.lst (ms.map V.int)) ∧ τ' sl = 2) ?_ ?_ ?_ ?_⟩
      · exact ⟨_, _, _, _, _, _, _, _, rfl, L2, zsl, tsl⟩
      · rintro i σ H' _ ⟨_, _, _, _, _, _, _, _, _, _, e, _⟩
        exact SqL.of e
      · rintro i vv σ H' hi ⟨τ', ns', ps', G', w1, w2, w3, w4, rfl, L, esl, tsl⟩
        rw [List.getElem?_map] at hi
        cases ec : ms[i]? with
        | none => rw [ec] at hi; cases hi
        | some c =>
        rw [ec] at hi
        have hi' : V.int c = vv := Option.some.inj hi
        subst hi'
        refine ⟨_, rfl, c, 2, rfl, rfl, (by show (0 : Int) < 2; decide), ?_⟩
        obtain ⟨k, hk0⟩ : ∃ k : Nat, c % 2 = (k : Int) := ⟨(c % 2).toNat, by omega⟩
        have hk : k < 2 := by omega
        dsimp only
        rw [hk0]
        have hnk := hnn k hk
        refine ⟨_, rfl, c, 1000003, rfl, rfl, (by show (0 : Int) < 1000003; decide), _, 5, rfl, rfl, _, 48271, rfl, rfl, .inr ⟨by decide, by decide⟩, _, 2147483629, rfl, rfl, (by show (0 : Int) < 2147483629; decide), _, 1024, rfl, rfl, ⟨by decide, by decide⟩, _, rfl, _, rfl, szl, _, _, _, rfl, rfl, SqL.of L.s, two_atI hk, _, _, rfl, rfl, (by show (0 : Int) < (nn k : Int); omega), ?_⟩
        have y0 : 0 ≤ (c % 1000003 + 5) * 48271 % 2147483629 / 1024 % (nn k : Int) := Int.emod_nonneg _ (by omega)
        have y1 : (c % 1000003 + 5) * 48271 % 2147483629 / 1024 % (nn k : Int) < (nn k : Int) := Int.emod_lt_of_pos _ (by omega)
        dsimp only
        generalize (c % 1000003 + 5) * 48271 % 2147483629 / 1024 % (nn k : Int) = jj at y0 y1 ⊢
        obtain ⟨j, rfl⟩ : ∃ j : Nat, jj = (j : Int) := ⟨jj.toNat, by omega⟩
        have hlk := L.ln k hk
        have jl : j < (G' k).length := by omega
        have egj : (G' k)[j]? = some (G' k)[j] := List.getElem?_eq_getElem jl
        refine ⟨_, rfl, _, rfl, rl, _, _, _, rfl, rfl, SqL.of L.b, two_atR hk, _, rfl, r k, _, _, _, rfl, rfl, SqL.of (L.ro k hk), atI_go egj, by show 1 ≤ sizeLine; decide, fun sn hsn => ?_⟩
        have s3 := same_new (o := .lst [goV (G' k)[j]]) hsn
        have zsn : upd H' sn (.lst [goV (G' k)[j]]) sn = some (.lst ([(G' k)[j]].map goV)) := upd_same
        have L3 : Lb C CP (upd H' sn (.lst [goV (G' k)[j]])) (fun b => if b = sn then 2 else τ' b) m h g rl pl szl a e r 2 ns' ps' G' nn F := L.same s3 fun b y => if_neg (show ¬ b = sn from fun z => y (by rw [z]; exact hsn))
        have tsn : (fun b => if b = sn then 2 else τ' b) sn = 2 := if_pos rfl
        have tsl3 : (fun b => if b = sn then 2 else τ' b) sl = 2 := (if_neg (show ¬ sl = sn from ne_of_none esl hsn)).trans tsl
        have esl3 := s3 _ _ esl
        generalize upd H' sn (.lst [goV (G' k)[j]]) = H3 at *
        generalize (fun b => if b = sn then 2 else τ' b) = τ3 at *
        refine ⟨_, rfl, _, rfl, pl, _, _, _, rfl, rfl, SqL.of L3.p, two_atR hk, _, rfl, _, rfl, _, rfl, _, rfl, c, 2, rfl, rfl, ⟨by decide, by decide⟩, τ3, m, h, g, rl, a, e, r, ns', ps', G', k, j, _, rfl, L3.ls, hk, (by rw [L3.ln 0 (by decide), L3.ln 1 (by decide), L3.fr]; exact hF), (by rw [L3.fr]; exact hF2), (fun q hq => by rw [L3.ln q hq]; exact (hnn q hq).2), jl, fun H4 τ4 ns4 ps4 G4 nx Z4 hg4 hn4 => ⟨_, rfl, iteF ?_⟩⟩
        have L4 := L3.next nx Z4 hg4 hn4
        have esl4 := nx.kp sl _ esl3 (by omega) (by omega)
        have tsl4 : τ4 sl = 2 := by rw [nx.tg sl (by rw [esl3]; exact nofun)]; exact tsl3
        have zsn4 := nx.kp sn _ zsn (by omega) (by omega)
        have sh : ∀ (k2 : Nat), k2 < 2 → (k2 = 0 ∧ G4 k2 = G4 0) ∨ (k2 = 1 ∧ G4 k2 = G4 1) := fun k2 h2 => by
          rcases (show k2 = 0 ∨ k2 = 1 by omega) with rfl | rfl
          · exact .inl ⟨rfl, rfl⟩
          · exact .inr ⟨rfl, rfl⟩
        refine ⟨_, rfl, _, rfl, _, rfl, pl, _, _, _, rfl, rfl, SqL.of L4.p, two_atR hk, _, rfl, _, rfl, _, rfl, _, rfl, m, h, g, a k, e k, rl, r 0, r 1, sn, ns4, ps4, G4 0, G4 1, G4 k, [(G' k)[j]], k, j, rfl, L4.W, L4.pt k hk, L4.ls.rw, sh k hk, L4.cn, by rw [L4.ln k hk]; exact hnk.2, by rw [hg4 k]; exact jl, zsn4, by show 1 ≤ 10; decide, fun H5 s5 => ⟨_, rfl, iteF ?_⟩⟩
        have hk1 : 1 - k < 2 := by omega
        have e1k : (1 : Int) - (k : Int) = ((1 - k : Nat) : Int) := by omega
        refine ⟨_, rfl, _, rfl, _, rfl, 1, (k : Int), rfl, rfl, pl, _, _, _, rfl, rfl, SqL.of (s5 _ _ L4.p), (by show atI [V.ref (a 0), V.ref (a 1)] ((1 : Int) - (k : Int)) = _; rw [e1k]; exact two_atR hk1), _, rfl, _, rfl, 1, (k : Int), rfl, rfl, _, rfl, m, h, g, a (1 - k), e (1 - k), rl, r 0, r 1, sn, ns4, ps4, G4 0, G4 1, G4 (1 - k), [(G' k)[j]], 1 - k, 0, (by dsimp only; rw [e1k]; rfl), L4.W.same s5, (L4.pt _ hk1).same s5, L4.ls.rw.same s5, sh _ hk1, L4.cn, by rw [L4.ln _ hk1]; exact (hnn _ hk1).2, by rw [L4.ln _ hk1]; exact (hnn _ hk1).1, s5 _ _ zsn4, by show 1 ≤ 10; decide, fun H6 s6 => ⟨_, rfl, iteF ?_⟩⟩
        have s56 := s5.trans s6
        exact ⟨τ4, ns4, ps4, G4, _, _, _, _, rfl, L4.same s56 fun _ _ => rfl, s56 _ _ esl4, tsl4⟩
      · rintro σ H9 ⟨τ', ns', ps', G', w1, w2, w3, w4, rfl, L, _, _⟩
        exact q0 H9
    obtain ⟨t2, R2, hR2⟩ : ∃ tr, PSs (cxOf CX0 P w K mg base ["_law_script", "_law_sizes", "_law_frames", "_law_parts", "_law_rows", "_law_k", "_law_image_here", "_law_words", "_law_cell", "_law_which", "_law_page", "_law_seen"] "law" (defScope sLaw) f cdv A1 outer s H E).nox ((defBody sLaw).drop 2) tr ∧ ∀ (H1 : Hp) (szl : Addr) (nn : Nat → Nat), H1 szl = some (.lst [V.int (nn 0 : Nat), V.int (nn 1 : Nat)]) → (∀ j, j < 2 → 1 ≤ nn j ∧ nn j ≤ 24) → nn 1 ≤ 6 → Same H H1 → H szl = none → tr { nx := fun _ H' => Q .non H', rt := Q } [some (.ref x), some (.ref szl), none, none, none, none, none, none, none, none, none, none] H1 := by
      refine ⟨_, pss_cons (ps_set (i := 2) scLa.nd rfl (Or.inl rfl) (pe_make MK GI hr3 (by rfl) mC BI .nil passX0 (pa_cons (pe_op op_add (pe_op op_add (pe_ix ix_list (pv 1) pe_int (fun _ _ => rfl)) (pe_ix ix_list (pv 1) pe_int (fun _ _ => rfl))) (pe_op op_mod (pe_op op_fdiv (pe_call G1 hr1 (by rfl) D1.m D1.F.kp D1.b .nil pass0 (pa_cons (pv 0) (pa_cons pe_int pa_nil))) pe_int) pe_int)) pa_nil))) (pss_cons (ps_set (i := 3) scLa.nd rfl (Or.inl rfl) (pe_lst pa_nil)) (pss_cons (ps_set (i := 4) scLa.nd rfl (Or.inl rfl) (pe_lst (pa_cons (pe_lst pa_nil) (pa_cons (pe_lst pa_nil) pa_nil)))) (pss_cons (ps_for PassesOwn.never rfl (pi_range1 (by rfl) T.rng (pa_cons pe_int pa_nil)) (pg_name (i := 5) scLa.nd rfl (Or.inl rfl)) (pss_cons (ps_set (i := 6) scLa.nd rfl (Or.inl rfl) (pe_call G2 hr1 (by rfl) D2.m D2.F.kp D2.b .nil pass0 (pa_cons (pe_call G1 hr1 (by rfl) D1.m D1.F.kp D1.b .nil pass0 (pa_cons (pv 0) (pa_cons (pe_op op_add pe_int (pv 5)) pa_nil))) (pa_cons (pe_ix ix_list (pv 1) (pv 5) (fun _ _ => rfl)) pa_nil)))) (pss_cons (ps_expr (pe_bm PySem.F.plainAttrs_list PySem.F.slot_list_append PySem.F.type_list_append mt_append (pv 3) (pa_cons (pe_make MKP GIP hr9 (by rfl) mCP BIP .nil passX0 (pa_cons (pv 2) (pa_cons (pv 6) pa_nil))) pa_nil))) (pss_cons (ps_for PassesOwn.never rfl (pi_list (pv 6)) (pg_name (i := 7) scLa.nd rfl (Or.inl rfl)) (pss_one (ps_expr (pe_bm PySem.F.plainAttrs_list PySem.F.slot_list_append PySem.F.type_list_append mt_append (pe_ix ix_list (pv 4) (pv 5) (fun _ _ => rfl)) (pa_cons (pe_ifExp (pt_cmpR op_isN (pv 7) pe_non (nomark _)) pe_non (pe_call G3 hr1 (by rfl) D3.m D3.F.kp D3.b .nil pass0 (pa_cons (pv 4) pa_nil))) pa_nil))))) (pss_one (ps_if (pt_not (pt_val (pe_call G4 hr5 (by rfl) D4.m D4.F.kp D4.b .nil pass0 (pa_cons (pv 2) (pa_cons (pe_ix ix_list (pv 3) (pv 5) (fun _ _ => rfl)) (pa_cons (pv 4) (pa_cons (pv 5) (pa_cons pe_int (pa_cons (pe_lst pa_nil) pa_nil))))))))) (pss_one (ps_ret pe_bl)) pss_nil)))))) R6))), fun H1 szl nn zsz hnn hnn1 s1 hszl => ?_⟩
      obtain ⟨F, hF⟩ : ∃ F : Nat, (nn 0 : Int) + (nn 1 : Int) + sc.getD 1 0 / 6 % 7 = (F : Int) := ⟨((nn 0 : Int) + (nn 1 : Int) + sc.getD 1 0 / 6 % 7).toNat, by omega⟩
      have f0 : nn 0 + nn 1 ≤ F := by omega
      have f1 : F ≤ 36 := by have := hnn 0 (by decide); have := hnn 1 (by decide); omega
      refine ⟨_, rfl, szl, _, _, _, rfl, rfl, SqL.of zsz, rfl, _, rfl, szl, _, _, _, rfl, rfl, SqL.of zsz, rfl, _, _, rfl, rfl, _, rfl, x, sc, 1, rfl, s1.seq hS, _, 6, rfl, rfl, ⟨by decide, by decide⟩, _, 7, rfl, rfl, (by show (0 : Int) < 7; decide), _, _, rfl, rfl, fun m dx hm hdx ne => ?_⟩
      have gn : goodN (.int (F : Int)) = true := by simp only [goodN, Bool.and_eq_true, decide_eq_true_eq]; have := hnn 0 (by decide); omega
      have s0 : Same H1 (upd (upd H1 dx (.own m)) m (.ins C dx [])) := (same_new hdx).trans (same_new (by rw [upd_ne ne.symm]; exact hm))
      refine ⟨m, dx, .int F, congrArg (fun z => [V.ref m, V.int z]) hF, upd_same, .int _, fun n' en _ h g ps H2 b1 fr W => ⟨rfl, ?_⟩, fun z => absurd z (by rw [gn]; decide)⟩
      obtain rfl : F = n' := by have := V.int.inj en; omega
      have sH2 : Same H1 H2 := fun b o e => b1 b o (ne_of_none e hm) (s0 b o e)
      have frH : ∀ b, Ow m h g ps b → H1 b = none := fun b hb => by
        rcases hb with rfl | hb
        · exact hm
        · exact s0.free (fr b hb)
      -- the lists
      refine ⟨by show 0 ≤ sizeLine; decide, fun pl hpl => ?_⟩
      have s3 := same_new (o := .lst []) hpl
      have zpl : upd H2 pl (.lst []) pl = some (.lst []) := upd_same
      generalize upd H2 pl (.lst []) = H3 at *
      refine ⟨by show 0 ≤ sizeLine; decide, fun r0 hr0 => ⟨by show 0 ≤ sizeLine; decide, fun r1 hr1' => ⟨by show 2 ≤ sizeLine; decide, fun rl hrl => ?_⟩⟩⟩
      have s4 := same_new (o := .lst []) hr0
      have zr0 : upd H3 r0 (.lst []) r0 = some (.lst []) := upd_same
      generalize upd H3 r0 (.lst []) = H4 at *
      have s5 := same_new (o := .lst []) hr1'
      have zr1 : upd H4 r1 (.lst []) r1 = some (.lst []) := upd_same
      generalize upd H4 r1 (.lst []) = H5 at *
      have s6 := same_new (o := .lst [.ref r0, .ref r1]) hrl
      have zrl : upd H5 rl (.lst [.ref r0, .ref r1]) rl = some (.lst [.ref r0, .ref r1]) := upd_same
      generalize upd H5 rl (.lst [.ref r0, .ref r1]) = H6 at *
      have s26 := s3.trans (s4.trans (s5.trans s6))
      have sH6 : Same H H6 := s1.trans (sH2.trans s26)
      have exW : ∀ b, Ow m h g ps b → H2 b ≠ none := fun b hb z => by
        rcases hb with y | y | y
        · obtain ⟨dm, fm, hm, _⟩ := W.ob
          rw [y, hm] at z; cases z
        · rw [y, W.ho] at z; cases z
        · obtain ⟨xs, y⟩ := y.lst W.sh
          rw [y] at z; cases z
      have hr2 : H2 r0 = none := s3.free hr0
      have hr12 : H2 r1 = none := s3.free (s4.free hr1')
      have hrl2 : H2 rl = none := s3.free (s4.free (s5.free hrl))
      have n01 : r0 ≠ r1 := ne_of_none zr0 hr1'
      have n0l : r0 ≠ rl := ne_of_none (s5 _ _ zr0) hrl
      have n1l : r1 ≠ rl := ne_of_none zr1 hrl
      have np0 : pl ≠ r0 := ne_of_none zpl hr0
      have np1 : pl ≠ r1 := ne_of_none (s4 _ _ zpl) hr1'
      have npl : pl ≠ rl := ne_of_none (s5 _ _ (s4 _ _ zpl)) hrl
      have nps : pl ≠ szl := (ne_of_none (sH2 _ _ zsz) hpl).symm
      have ns0 : szl ≠ r0 := ne_of_none (s3 _ _ (sH2 _ _ zsz)) hr0
      have ns1 : szl ≠ r1 := ne_of_none (s4 _ _ (s3 _ _ (sH2 _ _ zsz))) hr1'
      obtain ⟨r, er0, er1⟩ : ∃ r : Nat → Addr, r 0 = r0 ∧ r 1 = r1 := ⟨fun j => if j = 0 then r0 else r1, rfl, rfl⟩
      subst er0
      subst er1
      have rj : ∀ j, j < 2 → j = 0 ∨ j = 1 := fun j _ => by omega
      classical
      obtain ⟨τ0, e1, e2, e3, e4, e5⟩ : ∃ τ0 : Addr → Nat, (∀ b, b = pl ∨ b = rl ∨ b = szl → τ0 b = 2) ∧ τ0 (r 0) = 30 ∧ τ0 (r 1) = 31 ∧ (∀ b, Ow m h g ps b → τ0 b = 1) ∧ ∀ b, H b ≠ none → τ0 b = 0 := by
        refine ⟨fun b => if b = pl ∨ b = rl ∨ b = szl then 2 else if b = r 0 then 30 else if b = r 1 then 31 else if Ow m h g ps b then 1 else 0, fun b y => if_pos y, ?_, ?_, fun b hb => ?_, fun b y => ?_⟩
        · show (if r 0 = pl ∨ r 0 = rl ∨ r 0 = szl then 2 else if r 0 = r 0 then 30 else if r 0 = r 1 then 31 else if Ow m h g ps (r 0) then 1 else 0) = 30
          rw [if_neg, if_pos rfl]
          rintro (z | z | z)
          · exact np0 z.symm
          · exact n0l z
          · exact ns0 z.symm
        · show (if r 1 = pl ∨ r 1 = rl ∨ r 1 = szl then 2 else if r 1 = r 0 then 30 else if r 1 = r 1 then 31 else if Ow m h g ps (r 1) then 1 else 0) = 31
          rw [if_neg, if_neg n01.symm, if_pos rfl]
          rintro (z | z | z)
          · exact np1 z.symm
          · exact n1l z
          · exact ns1 z.symm
        · show (if b = pl ∨ b = rl ∨ b = szl then 2 else if b = r 0 then 30 else if b = r 1 then 31 else if Ow m h g ps b then 1 else 0) = 1
          have hb2 := exW b hb
          rw [if_neg, if_neg (show ¬ b = r 0 from fun z => hb2 (z ▸ hr2)), if_neg (show ¬ b = r 1 from fun z => hb2 (z ▸ hr12)), if_pos hb]
          rintro (z | z | z)
          · exact hb2 (z ▸ hpl)
          · exact hb2 (z ▸ hrl2)
          · have := frH b hb
            rw [z, zsz] at this; cases this
        · show (if b = pl ∨ b = rl ∨ b = szl then 2 else if b = r 0 then 30 else if b = r 1 then 31 else if Ow m h g ps b then 1 else 0) = 0
          have up : ∀ b, H2 b = none → H b = none := fun b z => s1.free (sH2.free z)
          rw [if_neg, if_neg (show ¬ b = r 0 from fun z => y (up b (z ▸ hr2))), if_neg (show ¬ b = r 1 from fun z => y (up b (z ▸ hr12))), if_neg (fun hb => y (s1.free (frH b hb)))]
          rintro (z | z | z)
          · exact y (up b (z ▸ hpl))
          · exact y (up b (z ▸ hrl2))
          · exact y (z ▸ hszl)
      have L0 : Lb C CP H6 τ0 m h g rl pl szl (fun _ => 0) (fun _ => 0) r 0 (List.replicate F 0) ps (fun _ => []) nn F := by
        refine ⟨W.same s26, fun i hi => absurd hi (Nat.not_lt_zero _), fun j hj => ?_, zrl, fun i hi f hf => (by cases hf), fun f => ?_, fun i _ => rfl, e4, fun i hi => absurd hi (Nat.not_lt_zero _), fun i hi => absurd hi (Nat.not_lt_zero _), fun j hj => ?_, e1 rl (.inr (.inl rfl)), s6 _ _ (s5 _ _ (s4 _ _ zpl)), e1 pl (.inl rfl), s26 _ _ (sH2 _ _ zsz), e1 szl (.inr (.inr rfl)), fun j hj => absurd hj (Nat.not_lt_zero _), List.length_replicate ..⟩
        · rcases rj j hj with rfl | rfl
          · exact s6 _ _ (s5 _ _ zr0)
          · exact s6 _ _ zr1
        · show (List.replicate F (0 : Int)).getD f 0 = 0
          rw [List.getD_eq_getElem?_getD, List.getElem?_replicate]
          split <;> rfl
        · rcases rj j hj with rfl | rfl
          · exact e2
          · exact e3
      refine ⟨2, rfl, by decide, by decide, for_range (lo := 0) (n := 2) (fun i σ H' => ∃ (τ : Addr → Nat) (a e : Nat → Addr) (ns : List Int) (ps : Pgs) (G : Nat → Gs) (v1 v2 v3 : Option V), σ = [some (.ref x), some (.ref szl), some (.ref m), some (.ref pl), some (.ref rl), v1, v2, v3, none, none, none, none] ∧ Lb C CP H' τ m h g rl pl szl a e r i ns ps G nn F ∧ Same H H' ∧ ∀ b, H b ≠ none → τ b = 0) ?_ ?_ ?_⟩
      · exact ⟨_, _, _, _, _, _, _, _, _, rfl, L0, sH6, e5⟩
      · rintro i σ HA hi ⟨τ, a, e, ns, ps, G, v1, v2, v3, rfl, L, sA, tA⟩
        have ei : (0 : Int) + (i : Int) = (i : Int) := by omega
        rw [ei]
        have hni := hnn i hi
        -- the image
        refine ⟨_, rfl, _, rfl, 2, (i : Int), rfl, rfl, x, sc, 2 + i, congrArg (fun z => [V.ref x, V.int z]) (show (2 : Int) + (i : Int) = ((2 + i : Nat) : Int) by omega), sA.seq hS, _, rfl, _, rfl, szl, _, _, _, rfl, rfl, SqL.of L.s, two_atI hi, _, nn i, rfl, by omega, fun D H1 q u1 gq gd hql fD => ?_⟩
        have hpl2 := u1 _ _ L.p
        refine ⟨_, rfl, .inl ⟨rfl, _, SqL.of hpl2⟩, _, rfl, _, rfl, fun a' dx' ha' hdx' ne' => ?_⟩
        have u3 : Same H1 (upd (upd H1 dx' (.own a')) a' (.ins CP dx' [])) := (same_new hdx').trans (same_new (by rw [upd_ne ne'.symm]; exact ha'))
        have za : upd (upd H1 dx' (.own a')) a' (.ins CP dx' []) a' = some (.ins CP dx' []) := upd_same
        generalize upd (upd H1 dx' (.own a')) a' (.ins CP dx' []) = H3 at *
        have u13 := u1.trans u3
        have exO : ∀ b, Ow m h g ps b → HA b ≠ none := fun b hb z => by
          rcases hb with y | y | y
          · obtain ⟨dm, fm, hm, _⟩ := L.W.ob
            rw [y, hm] at z; cases z
          · rw [y, L.W.ho] at z; cases z
          · obtain ⟨xs, y⟩ := y.lst L.W.sh
            rw [y] at z; cases z
        have exD : ∀ b, At D q b → H1 b ≠ none := fun b hb z => by
          obtain ⟨y, y2⟩ := gq.at hb
          rw [y2] at z; cases z
        have hsm : (G 0).length + (G 1).length + nn i ≤ F := by
          rcases (show i = 0 ∨ i = 1 by omega) with rfl | rfl
          · rw [L.em 0 (Nat.le_refl _), L.em 1 (by decide)]
            show 0 + 0 + nn 0 ≤ F
            omega
          · rw [L.ln 0 (by decide), L.em 1 (Nat.le_refl _)]
            show nn 0 + 0 + nn 1 ≤ F
            omega
        have hc0 : q.countP Option.isSome ≤ ns.count 0 := by
          have h1 := free_at L.cn
          have h2 := somes_le (G 0)
          have h3 := somes_le (G 1)
          have h4 : q.countP Option.isSome ≤ q.length := List.countP_le_length
          rw [L.fr] at h1
          omega
        refine ⟨a', dx', m, h, g, D, ns, ps, q, rfl, za, L.W.same u13, gq.same u3, gd, by omega, by omega, (fun b hb hb2 => exO b hb2 (fD b hb)), hc0, fun e' H4 ns4 ps4 G4 kp4 fe4 W4 ne4 n14 P4 ct4 hl4 cn4 rg4 wd4 c14 gr4 => ⟨rfl, ?_⟩⟩
        have fa' : HA a' = none := u1.free ha'
        have fe' : HA e' = none := u13.free fe4
        have th : τ h = 1 := L.t1 h (.inr (.inl rfl))
        have tg1 : τ g = 1 := L.t1 g (.inr (.inr (.inl rfl)))
        have kpA : ∀ b u, HA b = some u → τ b ≠ 1 → H4 b = some u := fun b u y z => kp4 b u (ne_of_none y fa') (fun w => z (w ▸ th)) (fun w => z (w ▸ tg1)) (u13 _ _ y)
        have kp2 : ∀ b u, HA b = none → H1 b = some u → H4 b = some u := fun b u y z => kp4 b u (ne_of_none z ha') (fun w => exO h (.inr (.inl rfl)) (w ▸ y)) (fun w => exO g (.inr (.inr (.inl rfl))) (w ▸ y)) (u3 _ _ z)
        have hpl4 := kpA pl _ L.p (by have := L.tp; omega)
        have hrl4 := kpA rl _ L.b (by have := L.tb; omega)
        have len1 : ((List.range i).map fun j => V.ref (a j)).length < sizeLine := by rw [List.length_map, List.length_range]; exact Nat.lt_of_lt_of_le hi (by decide)
        refine ⟨pl, _, _, rfl, rfl, hpl4, len1, ?_⟩
        rw [← range_put]
        have z6p : upd H4 pl (.lst ((List.range (i + 1)).map fun j => V.ref (put a i a' j))) pl = some (.lst ((List.range (i + 1)).map fun j => V.ref (put a i a' j))) := upd_same
        have k6 : ∀ b u, H4 b = some u → b ≠ pl → upd H4 pl (.lst ((List.range (i + 1)).map fun j => V.ref (put a i a' j))) b = some u := fun b u y z => by rw [upd_ne z]; exact y
        generalize upd H4 pl (.lst ((List.range (i + 1)).map fun j => V.ref (put a i a' j))) = H6 at *
        have np : ∀ b, HA b = none → b ≠ pl := fun b y z => by rw [z, L.p] at y; cases y
        have k6A : ∀ b u, HA b = some u → τ b ≠ 1 → b ≠ pl → H6 b = some u := fun b u y z w => k6 b u (kpA b u y z) w
        have zD6 : H6 D = some (.lst (q.map pgV)) := k6 D _ (kp2 D _ (fD D (.inl rfl)) gq.top) (np D (fD D (.inl rfl)))
        have tri := L.tr i hi
        have Gi : G i = [] := L.em i (Nat.le_refl _)
        have rpl : r i ≠ pl := fun z => by have := L.tp; rw [← z] at this; omega
        have rrl : r i ≠ rl := fun z => by have := L.tb; rw [← z] at this; omega
        have rD : D ≠ r i := fun z => by have := fD D (.inl rfl); rw [z, L.ro i hi] at this; cases this
        have zr6 : H6 (r i) = some (.lst ((G4.take 0).map goV)) := k6A (r i) _ (by rw [L.ro i hi, Gi]; rfl) (by omega) rpl
        have lq : q.length = G4.length := by
          have h1 := congrArg List.length ct4
          unfold ctF cont at h1
          rw [List.length_map, List.length_map] at h1
          exact h1.symm
        have r1i : ∀ j, j < 2 → j ≠ i → H6 (r j) = some (.lst ((G j).map goV)) ∧ r j ≠ r i := fun j hj z => by
          have h1 := L.tr j hj
          exact ⟨k6A (r j) _ (L.ro j hj) (by omega) (fun w => by have := L.tp; rw [← w] at this; omega), fun w => by rw [w] at h1; omega⟩
        refine ⟨_, rfl, D, rfl, ⟨_, SqL.of zD6⟩, for_list (K := K) (a := D) (xs := q.map pgV) (fun j σ H7 => (∃ w3, σ = [some (.ref x), some (.ref szl), some (.ref m), some (.ref pl), some (.ref rl), some (.int i), some (.ref D), w3, none, none, none, none]) ∧ H7 (r i) = some (.lst ((G4.take j).map goV)) ∧ ∀ b u, H6 b = some u → b ≠ r i → H7 b = some u) ?_ ?_ ?_ ?_⟩
        · exact ⟨⟨_, rfl⟩, zr6, fun b u y _ => y⟩
        · rintro j σ H7 _ ⟨_, _, y⟩
          exact SqL.of (y _ _ zD6 rD)
        · rintro j y σ H7 hj ⟨⟨w3, rfl⟩, e7, k7⟩
          rw [List.getElem?_map] at hj
          cases eo : q[j]? with
          | none => rw [eo] at hj; cases hj
          | some o =>
          rw [eo] at hj
          have hj' : pgV o = y := Option.some.inj hj
          subst hj'
          have hrl7 := k7 _ _ (k6 rl _ hrl4 npl.symm) rrl.symm
          have jl : j < G4.length := by
            have := (List.getElem?_eq_some_iff.mp eo).1
            omega
          have len7 : ((G4.take j).map goV).length < sizeLine := by
            rw [List.length_map, List.length_take]
            have : (25 : Nat) ≤ sizeLine := by decide
            omega
          have ro7 : ∀ k, k < 2 → H7 (r k) = some (.lst ((put G i (G4.take j) k).map goV)) := fun k hk => by
            by_cases z : k = i
            · subst z
              rw [put_self]
              exact e7
            · rw [put_ne _ _ z]
              exact k7 _ _ (r1i k hk z).1 (r1i k hk z).2
          have eG : G4[j]? = some G4[j] := List.getElem?_eq_getElem jl
          have eC : (cont q)[j]? = (ctF ps4 G4)[j]? := by rw [ct4]
          unfold ctF cont at eC
          rw [List.getElem?_map, List.getElem?_map, eo, eG] at eC
          have eC' : o.map (·.2) = (G4[j]).map (wdF ps4) := Option.some.inj eC
          have snoc : (G4.take j).map goV ++ [goV G4[j]] = (G4.take (j + 1)).map goV := by rw [List.take_succ_eq_append_getElem jl, List.map_append]; rfl
          cases o with
          | none =>
            have g0 : G4[j] = none := by
              cases eg : G4[j] with
              | none => rfl
              | some t => rw [eg] at eC'; cases eC'
            refine ⟨_, rfl, _, rfl, rl, _, _, _, rfl, rfl, SqL.of hrl7, two_atR hi, .inl ⟨rfl, _, SqL.of e7⟩, _, rfl, rfl, _, rfl, iteTS rfl ⟨r i, _, _, rfl, rfl, e7, len7, ⟨_, rfl⟩, ?_, fun b u y z => by rw [upd_ne z]; exact k7 b u y z⟩⟩
            rw [upd_same, ← snoc, g0]
            rfl
          | some z =>
            obtain ⟨t0, g0⟩ : ∃ t0, G4[j] = some t0 := by
              cases eg : G4[j] with
              | none => rw [eg] at eC'; cases eC'
              | some t => exact ⟨t, rfl⟩
            have rw7 : Rw H7 rl (r 0) (r 1) (put G i (G4.take j) 0) (put G i (G4.take j) 1) := ⟨hrl7, ro7 0 (by decide), ro7 1 (by decide)⟩
            refine ⟨_, rfl, _, rfl, rl, _, _, _, rfl, rfl, SqL.of hrl7, two_atR hi, .inl ⟨rfl, _, SqL.of e7⟩, _, rfl, rfl, _, rfl, iteFS rfl ⟨_, rfl, rl, r 0, r 1, _, _, rfl, rw7, fun t h0 h1 h2 => ⟨r i, _, _, rfl, rfl, e7, len7, ⟨_, rfl⟩, ?_, fun b u y z => by rw [upd_ne z]; exact k7 b u y z⟩⟩⟩
            obtain ⟨gg0, gg1⟩ := gr4 j t0 (by rw [eG, g0])
            obtain rfl := least_eq L.cn hi Gi gg0 gg1 h0 h1 h2
            rw [upd_same, ← snoc, g0]
            rfl
        · rintro σ H7 ⟨⟨w3, rfl⟩, e7, k7⟩
          have fl : ((q.map pgV).length : Nat) = G4.length := by rw [List.length_map]; exact lq
          rw [fl, List.take_length] at e7
          have n3 : ∀ b, H3 b = none → HA b = none ∧ b ≠ pl ∧ b ≠ r i ∧ b ≠ a' := fun b y => by
            have y0 := u13.free y
            refine ⟨y0, np b y0, fun z => ?_, fun z => ?_⟩
            · rw [z, L.ro i hi] at y0; cases y0
            · rw [z, za] at y; cases y
          obtain ⟨eA, ep, er, ea⟩ := n3 e' fe4
          have ra : a' ≠ r i := fun z => by rw [z, L.ro i hi] at fa'; cases fa'
          have k47 : ∀ b u, H4 b = some u → b ≠ pl → b ≠ r i → H7 b = some u := fun b u y z w => k7 b u (k6 b u y z) w
          have ow4 : ∀ b, Ow m h g ps4 b → b ≠ pl ∧ b ≠ r i := fun b hb => by
            rcases n14 b hb with y | y
            · have t1 := L.t1 b y
              refine ⟨fun z => ?_, fun z => ?_⟩
              · rw [z, L.tp] at t1; cases t1
              · rw [z, tri] at t1; omega
            · obtain ⟨_, y1, y2, _⟩ := n3 b y
              exact ⟨y1, y2⟩
          obtain ⟨τ', tt, L'⟩ := Lb.build (a' := a') (e' := e') L hi (H' := H7) (W4.keep fun b hb => by
              obtain ⟨u, y⟩ : ∃ u, H4 b = some u := by
                rcases hb with rfl | rfl | y
                · obtain ⟨dm, fm, hm, _⟩ := W4.ob
                  exact ⟨_, hm⟩
                · exact ⟨_, W4.ho⟩
                · obtain ⟨xs, x⟩ := y.lst W4.sh
                  exact ⟨_, x⟩
              rw [y]
              exact k47 b u y (ow4 b hb).1 (ow4 b hb).2) (P4.kept fun b u hb y => by
              rcases hb with z | z
              · rw [z] at y ⊢
                exact k47 a' u y (np a' fa') ra
              · rw [z] at y ⊢
                exact k47 e' u y ep er) fa' eA ea.symm (fun b hb => by
              rcases n14 b hb with y | y
              · exact .inl y
              · obtain ⟨y1, _, _, y5⟩ := n3 b y
                exact .inr ⟨y1, y5, fun z => ne4 (z ▸ hb)⟩) (fun b u y z1 z2 z3 => k47 b u (kpA b u y z1) z2 z3) (k7 _ _ z6p rpl.symm) e7 nps npl cn4 rg4 hl4 (by omega)
          have pp : H7 pl = some (.lst ((List.range (i + 1)).map fun j => V.ref (put a i a' j))) := L'.p
          have ix : atI ((List.range (i + 1)).map fun j => V.ref (put a i a' j)) (i : Int) = some (.ref (put a i a' i)) := by
            rcases (show i = 0 ∨ i = 1 by omega) with rfl | rfl
            · rfl
            · rfl
          refine ⟨_, rfl, _, rfl, _, rfl, pl, _, _, _, rfl, rfl, SqL.of pp, ix, _, rfl, _, rfl, by show 0 ≤ sizeLine; decide, fun sn hsn => ?_⟩
          have s8 := same_new (o := .lst []) hsn
          have zsn : upd H7 sn (.lst []) sn = some (.lst (([] : Gs).map goV)) := upd_same
          have L8 : Lb C CP (upd H7 sn (.lst [])) τ' m h g rl pl szl (put a i a') (put e i e') r (i + 1) ns4 ps4 (put G i G4) nn F := L'.same s8 fun _ _ => rfl
          generalize upd H7 sn (.lst []) = H8 at *
          have sA8 : ∀ b u, H b = some u → H7 b = some u := fun b u y => by
            have yA := sA b u y
            have tb := tA b (by rw [y]; exact nofun)
            exact k47 b u (kpA b u yA (by omega)) (fun w => by have := L.tp; rw [← w] at this; omega) (fun w => by rw [← w] at tri; omega)
          refine ⟨m, h, g, put a i a' i, put e i e' i, rl, r 0, r 1, sn, ns4, ps4, put G i G4 0, put G i G4 1, put G i G4 i, [], i, 0, rfl, L8.W, L8.pt i (Nat.lt_succ_self i), ⟨L8.b, L8.ro 0 (by decide), L8.ro 1 (by decide)⟩, ?_, L8.cn, by rw [put_self]; omega, by rw [put_self]; omega, zsn, by decide, fun H9 s9 => ⟨_, rfl, iteF ?_⟩⟩
          · rcases (show i = 0 ∨ i = 1 by omega) with rfl | rfl
            · exact .inl ⟨rfl, rfl⟩
            · exact .inr ⟨rfl, rfl⟩
          · refine ⟨τ', _, _, _, _, _, _, _, _, rfl, L8.same s9 fun _ _ => rfl, fun b u y => s9 _ _ (s8 _ _ (sA8 b u y)), fun b y => ?_⟩
            rw [tt b (fun z => y (sA.free z))]
            exact tA b y
      · rintro σ H' ⟨τ, a, e, ns, ps, G, v1, v2, v3, rfl, L, sA, _⟩
        exact hR6 H' τ m h g rl pl szl a e r ns ps G nn F v1 v2 v3 L hnn f0 (by omega) sA
    refine ⟨_, pss_cons (ps_set (i := 1) scLa.nd rfl (Or.inl rfl) (pe_lst (pa_cons (pe_op op_add pe_int (pe_op op_mod (pe_op op_fdiv (pe_call G1 hr1 (by rfl) D1.m D1.F.kp D1.b .nil pass0 (pa_cons (pv 0) (pa_cons pe_int pa_nil))) pe_int) pe_int)) (pa_cons (pe_op op_add pe_int (pe_op op_mod (pe_call G1 hr1 (by rfl) D1.m D1.F.kp D1.b .nil pass0 (pa_cons (pv 0) (pa_cons pe_int pa_nil))) pe_int)) pa_nil)))) (pss_cons (ps_if (pt_cmpR op_eq (pe_op op_mod (pe_call G1 hr1 (by rfl) D1.m D1.F.kp D1.b .nil pass0 (pa_cons (pv 0) (pa_cons pe_int pa_nil))) pe_int) pe_int (nomark _)) (pss_one (ps_asg (pe_op op_add pe_int (pe_op op_mod (pe_op op_fdiv (pe_call G1 hr1 (by rfl) D1.m D1.F.kp D1.b .nil pass0 (pa_cons (pv 0) (pa_cons pe_int pa_nil))) pe_int) pe_int)) (pg_sub (pv 1) pe_int set_list))) pss_nil) R2), ?_⟩
    refine ⟨_, rfl, x, sc, 0, rfl, hS, _, 4, rfl, rfl, ⟨by decide, by decide⟩, _, 6, rfl, rfl, (by show (0 : Int) < 6; decide), 1, _, rfl, rfl, _, rfl, x, sc, 1, rfl, hS, _, 6, rfl, rfl, (by show (0 : Int) < 6; decide), 1, _, rfl, rfl, by show 2 ≤ sizeLine; decide, fun szl hszl => ?_⟩
    obtain ⟨n0, hn0⟩ : ∃ n : Nat, 1 + sc.getD 0 0 / 4 % 6 = (n : Int) := ⟨(1 + sc.getD 0 0 / 4 % 6).toNat, by omega⟩
    obtain ⟨n1, hn1⟩ : ∃ n : Nat, 1 + sc.getD 1 0 % 6 = (n : Int) := ⟨(1 + sc.getD 1 0 % 6).toNat, by omega⟩
    obtain ⟨n2, hn2⟩ : ∃ n : Nat, 1 + sc.getD 0 0 / 24 % 24 = (n : Int) := ⟨(1 + sc.getD 0 0 / 24 % 24).toNat, by omega⟩
    dsimp only
    rw [hn0, hn1]
    have s1 := same_new (o := .lst [V.int (n0 : Nat), V.int (n1 : Nat)]) hszl
    have zsz : upd H szl (.lst [V.int (n0 : Nat), V.int (n1 : Nat)]) szl = some (.lst [V.int (n0 : Nat), V.int (n1 : Nat)]) := upd_same
    generalize upd H szl (.lst [V.int (n0 : Nat), V.int (n1 : Nat)]) = H1 at *
    refine ⟨_, rfl, x, sc, 0, rfl, s1.seq hS, _, 4, rfl, rfl, (by show (0 : Int) < 4; decide), ?_⟩
    have mk : ∀ (k0 : Nat) (H2 : Hp), 1 ≤ k0 → k0 ≤ 24 → H2 szl = some (.lst [V.int (k0 : Nat), V.int (n1 : Nat)]) → Same H H2 → t2 { nx := fun _ H' => Q .non H', rt := Q } [some (.ref x), some (.ref szl), none, none, none, none, none, none, none, none, none, none] H2 := fun k0 H2 y1 y2 y3 y4 => hR2 H2 szl (fun j => if j = 0 then k0 else n1) y3 (fun j hj => by
      rcases (show j = 0 ∨ j = 1 by omega) with rfl | rfl
      · exact ⟨y1, y2⟩
      · show 1 ≤ n1 ∧ n1 ≤ 24
        omega) (by show n1 ≤ 6; omega) y4 hszl
    refine ⟨rfl, _, rfl, ?_⟩
    by_cases c1 : sc.getD 0 0 % 4 = 1
    · refine iteTS (by show decide (V.int (sc.getD 0 0 % 4) = V.int 1) = true; rw [c1]; rfl) ?_
      refine ⟨_, rfl, x, sc, 0, rfl, s1.seq hS, _, 24, rfl, rfl, ⟨by decide, by decide⟩, _, 24, rfl, rfl, (by show (0 : Int) < 24; decide), 1, _, rfl, rfl, _, rfl, szl, _, 0, 0, rfl, rfl, zsz, rfl, ?_⟩
      dsimp only
      rw [hn2]
      exact mk n2 _ (by omega) (by omega) upd_same (fun b u y => by rw [upd_ne (ne_of_none y hszl)]; exact s1 _ _ y)
    · refine iteFS (decide_eq_false fun z => c1 (V.int.inj z)) ?_
      exact mk n0 H1 (by omega) (by omega) zsz s1
end
end K44

end
section
open PySem PySem.W PyProof.Rows
set_option Elab.async false
set_option linter.all false
set_option maxRecDepth 100000
set_option maxHeartbeats 4000000
namespace K44
open PySem L2
theorem all_mk {l : PySem.W.OpenLaw} {w : World} {K : PySem.W.Frag} {h : Heap} {mg : Str → Option Value} {fa f0 f1 f2 f3 f4 f5 f6 f7 f8 f9 f10 f11 f12 f13 f14 f15 f16 f17 f18 f19 f20 f21 f22 f23 f24 f25 f26 f27 f28 f29 f30 f31 f32 f33 f34 f35 f36 f37 f38 f39 f40 f41 f42 f43 f44 f45 f46 f47 f48 x0 x1 x2 x3 x4 x5 x6 x7 x8 x9 x10 x11 x12 x13 x14 x15 x16 xH xC xP : Addr} (X : K.In h) (G : h.Ns mainGlobals mg) (hfa : mg "law" = some (.ref fa))
    {od0 an0 od1 an1 od2 an2 od3 an3 od4 an4 od5 an5 od6 an6 od7 an7 od8 an8 od9 an9 od10 an10 od11 an11 od12 an12 od13 an13 od14 an14 od15 an15 od16 an16 od17 an17 od18 an18 od19 an19 od20 an20 od21 an21 od22 an22 od23 an23 od24 an24 od25 an25 od26 an26 od27 an27 od28 an28 od29 an29 od30 an30 od31 an31 od32 an32 od33 an33 od34 an34 od35 an35 od36 an36 od37 an37 od38 an38 od39 an39 od40 an40 od41 an41 od42 an42 od43 an43 od44 an44 od45 an45 od46 an46 od47 an47 od48 an48 : Option Addr} {sl0 sl1 sl2 sl3 sl4 sl5 sl6 sl7 sl8 sl9 sl10 sl11 sl12 sl13 sl14 sl15 sl16 sl17 sl18 sl19 sl20 sl21 sl22 sl23 sl24 sl25 sl26 sl27 sl28 sl29 sl30 sl31 sl32 sl33 sl34 sl35 sl36 sl37 sl38 sl39 sl40 sl41 sl42 sl43 sl44 sl45 sl46 sl47 sl48 : Array (Option Value)} {oc0 kV0 dc0 pm0 cd0 ct0 oc1 kV1 dc1 pm1 cd1 ct1 oc2 kV2 dc2 pm2 cd2 ct2 oc3 kV3 dc3 pm3 cd3 ct3 oc4 kV4 dc4 pm4 cd4 ct4 oc5 kV5 dc5 pm5 cd5 ct5 oc6 kV6 dc6 pm6 cd6 ct6 oc7 kV7 dc7 pm7 cd7 ct7 oc8 kV8 dc8 pm8 cd8 ct8 oc9 kV9 dc9 pm9 cd9 ct9 oc10 kV10 dc10 pm10 cd10 ct10 oc11 kV11 dc11 pm11 cd11 ct11 oc12 kV12 dc12 pm12 cd12 ct12 oc13 kV13 dc13 pm13 cd13 ct13 oc14 kV14 dc14 pm14 cd14 ct14 oc15 kV15 dc15 pm15 cd15 ct15 oc16 kV16 dc16 pm16 cd16 ct16 oc17 kV17 dc17 pm17 cd17 ct17 oc18 kV18 dc18 pm18 cd18 ct18 oc19 kV19 dc19 pm19 cd19 ct19 oc20 kV20 dc20 pm20 cd20 ct20 oc21 kV21 dc21 pm21 cd21 ct21 oc22 kV22 dc22 pm22 cd22 ct22 oc23 kV23 dc23 pm23 cd23 ct23 oc24 kV24 dc24 pm24 cd24 ct24 oc25 kV25 dc25 pm25 cd25 ct25 oc26 kV26 dc26 pm26 cd26 ct26 oc27 kV27 dc27 pm27 cd27 ct27 oc28 kV28 dc28 pm28 cd28 ct28 oc29 kV29 dc29 pm29 cd29 ct29 oc30 kV30 dc30 pm30 cd30 ct30 oc31 kV31 dc31 pm31 cd31 ct31 oc32 kV32 dc32 pm32 cd32 ct32 oc33 kV33 dc33 pm33 cd33 ct33 oc34 kV34 dc34 pm34 cd34 ct34 oc35 kV35 dc35 pm35 cd35 ct35 oc36 kV36 dc36 pm36 cd36 ct36 oc37 kV37 dc37 pm37 cd37 ct37 oc38 kV38 dc38 pm38 cd38 ct38 oc39 kV39 dc39 pm39 cd39 ct39 oc40 kV40 dc40 pm40 cd40 ct40 oc41 kV41 dc41 pm41 cd41 ct41 oc42 kV42 dc42 pm42 cd42 ct42 oc43 kV43 dc43 pm43 cd43 ct43 oc44 kV44 dc44 pm44 cd44 ct44 oc45 kV45 dc45 pm45 cd45 ct45 oc46 kV46 dc46 pm46 cd46 ct46 oc47 kV47 dc47 pm47 cd47 ct47 oc48 kV48 dc48 pm48 cd48 ct48 : Value} {tk0 tk1 tk2 tk3 : Tok}
    (nC : PySem.W.nsIn K mainGlobals "Frames" = some (some (.ref xC)))
    (nP : PySem.W.nsIn K mainGlobals "Parts" = some (some (.ref xP)))
    (n0 : PySem.W.nsIn K mainGlobals "NoPage" = some (some (.ref x0)))
    (n1 : PySem.W.nsIn K mainGlobals "NoFrame" = some (some (.ref x1)))
    (n2 : PySem.W.nsIn K mainGlobals "NoPlace" = some (some (.ref x2)))
    (n3 : PySem.W.nsIn K mainGlobals "NoRow" = some (some (.ref x3)))
    (n4 : PySem.W.nsIn K mainGlobals "NoImage" = some (some (.ref x4)))
    (n5 : PySem.W.nsIn K mainGlobals "NoShelf" = some (some (.ref x5)))
    (n6 : PySem.W.nsIn K mainGlobals "NoRoom" = some (some (.ref x6)))
    (n7 : PySem.W.nsIn K mainGlobals "NoBound" = some (some (.ref x7)))
    (n8 : PySem.W.nsIn K mainGlobals "NoName" = some (some (.ref x8)))
    (n9 : PySem.W.nsIn K mainGlobals "NoWay" = some (some (.ref x9)))
    (n10 : PySem.W.nsIn K mainGlobals "Busy" = some (some (.ref x10)))
    (n11 : PySem.W.nsIn K mainGlobals "Over" = some (some (.ref x11)))
    (n12 : PySem.W.nsIn K mainGlobals "NoOrder" = some (some (.ref x12)))
    (n13 : PySem.W.nsIn K mainGlobals "NoProgram" = some (some (.ref x13)))
    (n14 : PySem.W.nsIn K mainGlobals "NoText" = some (some (.ref x14)))
    (n15 : PySem.W.nsIn K mainGlobals "Fault" = some (some (.ref x15)))
    (n16 : PySem.W.nsIn K mainGlobals "NoWord" = some (some (.ref x16)))
    (nH : PySem.W.nsIn K mainGlobals "HouseError" = some (some (.ref xH)))
    (a0 : PySem.W.nsIn K mainGlobals "is_whole" = some (some (.ref f0)))
    (l0 : K.lookup f0 = some ⟨oc0, od0, .func (PySem.W.fnOf "is_whole" "is_whole" (defArgs sWhole) (defBody sWhole) (defScope sWhole) .none kV0 dc0 pm0 an0 cd0 ct0), sl0⟩)
    (c0 : PySem.W.codeIn K cd0 "is_whole" = true)
    (k0 : PySem.W.keepIn K (.ref f0) = true)
    (a1 : PySem.W.nsIn K mainGlobals "is_below" = some (some (.ref f1)))
    (l1 : K.lookup f1 = some ⟨oc1, od1, .func (PySem.W.fnOf "is_below" "is_below" (defArgs sBelow) (defBody sBelow) (defScope sBelow) .none kV1 dc1 pm1 an1 cd1 ct1), sl1⟩)
    (c1 : PySem.W.codeIn K cd1 "is_below" = true)
    (k1 : PySem.W.keepIn K (.ref f1) = true)
    (a2 : PySem.W.nsIn K mainGlobals "is_word" = some (some (.ref f2)))
    (l2 : K.lookup f2 = some ⟨oc2, od2, .func (PySem.W.fnOf "is_word" "is_word" (defArgs sWord) (defBody sWord) (defScope sWord) .none kV2 dc2 pm2 an2 cd2 ct2), sl2⟩)
    (c2 : PySem.W.codeIn K cd2 "is_word" = true)
    (k2 : PySem.W.keepIn K (.ref f2) = true)
    (a3 : PySem.W.nsIn K mainGlobals "is_eight_words" = some (some (.ref f3)))
    (l3 : K.lookup f3 = some ⟨oc3, od3, .func (PySem.W.fnOf "is_eight_words" "is_eight_words" (defArgs sEight) (defBody sEight) (defScope sEight) .none kV3 dc3 pm3 an3 cd3 ct3), sl3⟩)
    (c3 : PySem.W.codeIn K cd3 "is_eight_words" = true)
    (k3 : PySem.W.keepIn K (.ref f3) = true)
    (a4 : PySem.W.nsIn K mainGlobals "check_image" = some (some (.ref f4)))
    (l4 : K.lookup f4 = some ⟨oc4, od4, .func (PySem.W.fnOf "check_image" "check_image" (defArgs sImage) (defBody sImage) (defScope sImage) .none kV4 dc4 pm4 an4 cd4 ct4), sl4⟩)
    (c4 : PySem.W.codeIn K cd4 "check_image" = true)
    (k4 : PySem.W.keepIn K (.ref f4) = true)
    (a5 : PySem.W.nsIn K mainGlobals "check_word" = some (some (.ref f5)))
    (l5 : K.lookup f5 = some ⟨oc5, od5, .func (PySem.W.fnOf "check_word" "check_word" (defArgs sCWord) (defBody sCWord) (defScope sCWord) .none kV5 dc5 pm5 an5 cd5 ct5), sl5⟩)
    (c5 : PySem.W.codeIn K cd5 "check_word" = true)
    (k5 : PySem.W.keepIn K (.ref f5) = true)
    (a6 : PySem.W.nsIn K mainGlobals "_law_cell_at" = some (some (.ref f6)))
    (l6 : K.lookup f6 = some ⟨oc6, od6, .func (PySem.W.fnOf "_law_cell_at" "_law_cell_at" (defArgs sCell) (defBody sCell) (defScope sCell) .none kV6 dc6 pm6 an6 cd6 ct6), sl6⟩)
    (c6 : PySem.W.codeIn K cd6 "_law_cell_at" = true)
    (k6 : PySem.W.keepIn K (.ref f6) = true)
    (a7 : PySem.W.nsIn K mainGlobals "_law_whole" = some (some (.ref f7)))
    (l7 : K.lookup f7 = some ⟨oc7, od7, .func (PySem.W.fnOf "_law_whole" "_law_whole" (defArgs sLWhole) (defBody sLWhole) (defScope sLWhole) .none kV7 dc7 pm7 an7 cd7 ct7), sl7⟩)
    (c7 : PySem.W.codeIn K cd7 "_law_whole" = true)
    (k7 : PySem.W.keepIn K (.ref f7) = true)
    (a8 : PySem.W.nsIn K mainGlobals "_law_kinds" = some (some (.ref f8)))
    (l8 : K.lookup f8 = some ⟨oc8, od8, .func (PySem.W.fnOf "_law_kinds" "_law_kinds" (defArgs sKinds) (defBody sKinds) (defScope sKinds) .none kV8 dc8 pm8 an8 cd8 ct8), sl8⟩)
    (c8 : PySem.W.codeIn K cd8 "_law_kinds" = true)
    (k8 : PySem.W.keepIn K (.ref f8) = true)
    (a9 : PySem.W.nsIn K mainGlobals "_law_do" = some (some (.ref f9)))
    (l9 : K.lookup f9 = some ⟨oc9, od9, .func (PySem.W.fnOf "_law_do" "_law_do" (defArgs sDo) (defBody sDo) (defScope sDo) .none kV9 dc9 pm9 an9 cd9 ct9), sl9⟩)
    (c9 : PySem.W.codeIn K cd9 "_law_do" = true)
    (k9 : PySem.W.keepIn K (.ref f9) = true)
    (a10 : PySem.W.nsIn K mainGlobals "_law_refused" = some (some (.ref f10)))
    (l10 : K.lookup f10 = some ⟨oc10, od10, .func (PySem.W.fnOf "_law_refused" "_law_refused" (defArgs sRef) (defBody sRef) (defScope sRef) .none kV10 dc10 pm10 an10 cd10 ct10), sl10⟩)
    (c10 : PySem.W.codeIn K cd10 "_law_refused" = true)
    (k10 : PySem.W.keepIn K (.ref f10) = true)
    (a11 : PySem.W.nsIn K mainGlobals "_law_image" = some (some (.ref f11)))
    (l11 : K.lookup f11 = some ⟨oc11, od11, .func (PySem.W.fnOf "_law_image" "_law_image" (defArgs sImg) (defBody sImg) (defScope sImg) .none kV11 dc11 pm11 an11 cd11 ct11), sl11⟩)
    (c11 : PySem.W.codeIn K cd11 "_law_image" = true)
    (k11 : PySem.W.keepIn K (.ref f11) = true)
    (a12 : PySem.W.nsIn K mainGlobals "_law_least" = some (some (.ref f12)))
    (l12 : K.lookup f12 = some ⟨oc12, od12, .func (PySem.W.fnOf "_law_least" "_law_least" (defArgs sLeast) (defBody sLeast) (defScope sLeast) .none kV12 dc12 pm12 an12 cd12 ct12), sl12⟩)
    (c12 : PySem.W.codeIn K cd12 "_law_least" = true)
    (k12 : PySem.W.keepIn K (.ref f12) = true)
    (a13 : PySem.W.nsIn K mainGlobals "_law_count" = some (some (.ref f13)))
    (l13 : K.lookup f13 = some ⟨oc13, od13, .func (PySem.W.fnOf "_law_count" "_law_count" (defArgs sCount) (defBody sCount) (defScope sCount) .none kV13 dc13 pm13 an13 cd13 ct13), sl13⟩)
    (c13 : PySem.W.codeIn K cd13 "_law_count" = true)
    (k13 : PySem.W.keepIn K (.ref f13) = true)
    (a14 : PySem.W.nsIn K mainGlobals "_law_free" = some (some (.ref f14)))
    (l14 : K.lookup f14 = some ⟨oc14, od14, .func (PySem.W.fnOf "_law_free" "_law_free" (defArgs sLFree) (defBody sLFree) (defScope sLFree) .none kV14 dc14 pm14 an14 cd14 ct14), sl14⟩)
    (c14 : PySem.W.codeIn K cd14 "_law_free" = true)
    (k14 : PySem.W.keepIn K (.ref f14) = true)
    (a15 : PySem.W.nsIn K mainGlobals "_law_some" = some (some (.ref f15)))
    (l15 : K.lookup f15 = some ⟨oc15, od15, .func (PySem.W.fnOf "_law_some" "_law_some" (defArgs sSome) (defBody sSome) (defScope sSome) .none kV15 dc15 pm15 an15 cd15 ct15), sl15⟩)
    (c15 : PySem.W.codeIn K cd15 "_law_some" = true)
    (k15 : PySem.W.keepIn K (.ref f15) = true)
    (a16 : PySem.W.nsIn K mainGlobals "_law_frame" = some (some (.ref f16)))
    (l16 : K.lookup f16 = some ⟨oc16, od16, .func (PySem.W.fnOf "_law_frame" "_law_frame" (defArgs sLFrame) (defBody sLFrame) (defScope sLFrame) .none kV16 dc16 pm16 an16 cd16 ct16), sl16⟩)
    (c16 : PySem.W.codeIn K cd16 "_law_frame" = true)
    (k16 : PySem.W.keepIn K (.ref f16) = true)
    (a17 : PySem.W.nsIn K mainGlobals "_law_shows" = some (some (.ref f17)))
    (l17 : K.lookup f17 = some ⟨oc17, od17, .func (PySem.W.fnOf "_law_shows" "_law_shows" (defArgs sShows) (defBody sShows) (defScope sShows) .none kV17 dc17 pm17 an17 cd17 ct17), sl17⟩)
    (c17 : PySem.W.codeIn K cd17 "_law_shows" = true)
    (k17 : PySem.W.keepIn K (.ref f17) = true)
    (a18 : PySem.W.nsIn K mainGlobals "_law_none" = some (some (.ref f18)))
    (l18 : K.lookup f18 = some ⟨oc18, od18, .func (PySem.W.fnOf "_law_none" "_law_none" (defArgs sNone) (defBody sNone) (defScope sNone) .none kV18 dc18 pm18 an18 cd18 ct18), sl18⟩)
    (c18 : PySem.W.codeIn K cd18 "_law_none" = true)
    (k18 : PySem.W.keepIn K (.ref f18) = true)
    (a19 : PySem.W.nsIn K mainGlobals "_law_alone" = some (some (.ref f19)))
    (l19 : K.lookup f19 = some ⟨oc19, od19, .func (PySem.W.fnOf "_law_alone" "_law_alone" (defArgs sLAlone) (defBody sLAlone) (defScope sLAlone) .none kV19 dc19 pm19 an19 cd19 ct19), sl19⟩)
    (c19 : PySem.W.codeIn K cd19 "_law_alone" = true)
    (k19 : PySem.W.keepIn K (.ref f19) = true)
    (a20 : PySem.W.nsIn K mainGlobals "_law_deed" = some (some (.ref f20)))
    (l20 : K.lookup f20 = some ⟨oc20, od20, .func (PySem.W.fnOf "_law_deed" "_law_deed" (defArgs sDeed) (defBody sDeed) (defScope sDeed) .none kV20 dc20 pm20 an20 cd20 ct20), sl20⟩)
    (c20 : PySem.W.codeIn K cd20 "_law_deed" = true)
    (k20 : PySem.W.keepIn K (.ref f20) = true)
    (a21 : PySem.W.findIn K (.ref xC) "read" = some (some (.ref f21)))
    (l21 : K.lookup f21 = some ⟨oc21, od21, .func (PySem.W.fnOf "read" "Store.read" (defArgs sRead) (defBody sRead) (defScope sRead) .none kV21 dc21 pm21 an21 cd21 ct21), sl21⟩)
    (c21 : PySem.W.codeIn K cd21 "Store.read" = true)
    (k21 : PySem.W.keepIn K (.ref f21) = true)
    (a22 : PySem.W.findIn K (.ref xC) "write" = some (some (.ref f22)))
    (l22 : K.lookup f22 = some ⟨oc22, od22, .func (PySem.W.fnOf "write" "Store.write" (defArgs sWrite) (defBody sWrite) (defScope sWrite) .none kV22 dc22 pm22 an22 cd22 ct22), sl22⟩)
    (c22 : PySem.W.codeIn K cd22 "Store.write" = true)
    (k22 : PySem.W.keepIn K (.ref f22) = true)
    (a23 : PySem.W.findIn K (.ref xC) "words_of" = some (some (.ref f23)))
    (l23 : K.lookup f23 = some ⟨oc23, od23, .func (PySem.W.fnOf "words_of" "Store.words_of" (defArgs sWords) (defBody sWords) (defScope sWords) .none kV23 dc23 pm23 an23 cd23 ct23), sl23⟩)
    (c23 : PySem.W.codeIn K cd23 "Store.words_of" = true)
    (k23 : PySem.W.keepIn K (.ref f23) = true)
    (a24 : PySem.W.findIn K (.ref xC) "check_spot" = some (some (.ref f24)))
    (l24 : K.lookup f24 = some ⟨oc24, od24, .func (PySem.W.fnOf "check_spot" "Store.check_spot" (defArgs sSpot) (defBody sSpot) (defScope sSpot) .none kV24 dc24 pm24 an24 cd24 ct24), sl24⟩)
    (c24 : PySem.W.codeIn K cd24 "Store.check_spot" = true)
    (k24 : PySem.W.keepIn K (.ref f24) = true)
    (a25 : PySem.W.findIn K (.ref xC) "check_page" = some (some (.ref f25)))
    (l25 : K.lookup f25 = some ⟨oc25, od25, .func (PySem.W.fnOf "check_page" "Store.check_page" (defArgs sCPage) (defBody sCPage) (defScope sCPage) .none kV25 dc25 pm25 an25 cd25 ct25), sl25⟩)
    (c25 : PySem.W.codeIn K cd25 "Store.check_page" = true)
    (k25 : PySem.W.keepIn K (.ref f25) = true)
    (a26 : PySem.W.findIn K (.ref xC) "__init__" = some (some (.ref f26)))
    (l26 : K.lookup f26 = some ⟨oc26, od26, .func (PySem.W.fnOf "__init__" "Frames.__init__" (defArgs sInit) (defBody sInit) (defScope sInit) .none kV26 dc26 pm26 an26 cd26 ct26), sl26⟩)
    (c26 : PySem.W.codeIn K cd26 "Frames.__init__" = true)
    (k26 : PySem.W.keepIn K (.ref f26) = true)
    (a27 : PySem.W.findIn K (.ref xC) "size" = some (some (.ref f27)))
    (l27 : K.lookup f27 = some ⟨oc27, od27, .func (PySem.W.fnOf "size" "Frames.size" (defArgs sSize) (defBody sSize) (defScope sSize) .none kV27 dc27 pm27 an27 cd27 ct27), sl27⟩)
    (c27 : PySem.W.codeIn K cd27 "Frames.size" = true)
    (k27 : PySem.W.keepIn K (.ref f27) = true)
    (a28 : PySem.W.findIn K (.ref xC) "has" = some (some (.ref f28)))
    (l28 : K.lookup f28 = some ⟨oc28, od28, .func (PySem.W.fnOf "has" "Frames.has" (defArgs sHas) (defBody sHas) (defScope sHas) .none kV28 dc28 pm28 an28 cd28 ct28), sl28⟩)
    (c28 : PySem.W.codeIn K cd28 "Frames.has" = true)
    (k28 : PySem.W.keepIn K (.ref f28) = true)
    (a29 : PySem.W.findIn K (.ref xC) "word_at" = some (some (.ref f29)))
    (l29 : K.lookup f29 = some ⟨oc29, od29, .func (PySem.W.fnOf "word_at" "Frames.word_at" (defArgs sWordAt) (defBody sWordAt) (defScope sWordAt) .none kV29 dc29 pm29 an29 cd29 ct29), sl29⟩)
    (c29 : PySem.W.codeIn K cd29 "Frames.word_at" = true)
    (k29 : PySem.W.keepIn K (.ref f29) = true)
    (a30 : PySem.W.findIn K (.ref xC) "put_word" = some (some (.ref f30)))
    (l30 : K.lookup f30 = some ⟨oc30, od30, .func (PySem.W.fnOf "put_word" "Frames.put_word" (defArgs sPutWord) (defBody sPutWord) (defScope sPutWord) .none kV30 dc30 pm30 an30 cd30 ct30), sl30⟩)
    (c30 : PySem.W.codeIn K cd30 "Frames.put_word" = true)
    (k30 : PySem.W.keepIn K (.ref f30) = true)
    (a31 : PySem.W.findIn K (.ref xC) "take" = some (some (.ref f31)))
    (l31 : K.lookup f31 = some ⟨oc31, od31, .func (PySem.W.fnOf "take" "Frames.take" (defArgs sTake) (defBody sTake) (defScope sTake) .none kV31 dc31 pm31 an31 cd31 ct31), sl31⟩)
    (c31 : PySem.W.codeIn K cd31 "Frames.take" = true)
    (k31 : PySem.W.keepIn K (.ref f31) = true)
    (a32 : PySem.W.findIn K (.ref xC) "share" = some (some (.ref f32)))
    (l32 : K.lookup f32 = some ⟨oc32, od32, .func (PySem.W.fnOf "share" "Frames.share" (defArgs sShare) (defBody sShare) (defScope sShare) .none kV32 dc32 pm32 an32 cd32 ct32), sl32⟩)
    (c32 : PySem.W.codeIn K cd32 "Frames.share" = true)
    (k32 : PySem.W.keepIn K (.ref f32) = true)
    (a33 : PySem.W.findIn K (.ref xC) "drop" = some (some (.ref f33)))
    (l33 : K.lookup f33 = some ⟨oc33, od33, .func (PySem.W.fnOf "drop" "Frames.drop" (defArgs sDrop) (defBody sDrop) (defScope sDrop) .none kV33 dc33 pm33 an33 cd33 ct33), sl33⟩)
    (c33 : PySem.W.codeIn K cd33 "Frames.drop" = true)
    (k33 : PySem.W.keepIn K (.ref f33) = true)
    (a34 : PySem.W.findIn K (.ref xC) "check_taken" = some (some (.ref f34)))
    (l34 : K.lookup f34 = some ⟨oc34, od34, .func (PySem.W.fnOf "check_taken" "Frames.check_taken" (defArgs sChk) (defBody sChk) (defScope sChk) .none kV34 dc34 pm34 an34 cd34 ct34), sl34⟩)
    (c34 : PySem.W.codeIn K cd34 "Frames.check_taken" = true)
    (k34 : PySem.W.keepIn K (.ref f34) = true)
    (a35 : PySem.W.findIn K (.ref xC) "owners" = some (some (.ref f35)))
    (l35 : K.lookup f35 = some ⟨oc35, od35, .func (PySem.W.fnOf "owners" "Frames.owners" (defArgs sOwn) (defBody sOwn) (defScope sOwn) .none kV35 dc35 pm35 an35 cd35 ct35), sl35⟩)
    (c35 : PySem.W.codeIn K cd35 "Frames.owners" = true)
    (k35 : PySem.W.keepIn K (.ref f35) = true)
    (a36 : PySem.W.findIn K (.ref xC) "free" = some (some (.ref f36)))
    (l36 : K.lookup f36 = some ⟨oc36, od36, .func (PySem.W.fnOf "free" "Frames.free" (defArgs sFree) (defBody sFree) (defScope sFree) .none kV36 dc36 pm36 an36 cd36 ct36), sl36⟩)
    (c36 : PySem.W.codeIn K cd36 "Frames.free" = true)
    (k36 : PySem.W.keepIn K (.ref f36) = true)
    (a37 : PySem.W.findIn K (.ref xP) "__init__" = some (some (.ref f37)))
    (l37 : K.lookup f37 = some ⟨oc37, od37, .func (PySem.W.fnOf "__init__" "Parts.__init__" (defArgs sPInit) (defBody sPInit) (defScope sPInit) .none kV37 dc37 pm37 an37 cd37 ct37), sl37⟩)
    (c37 : PySem.W.codeIn K cd37 "Parts.__init__" = true)
    (k37 : PySem.W.keepIn K (.ref f37) = true)
    (a38 : PySem.W.findIn K (.ref xP) "filled" = some (some (.ref f38)))
    (l38 : K.lookup f38 = some ⟨oc38, od38, .func (PySem.W.fnOf "filled" "Parts.filled" (defArgs sFill) (defBody sFill) (defScope sFill) .none kV38 dc38 pm38 an38 cd38 ct38), sl38⟩)
    (c38 : PySem.W.codeIn K cd38 "Parts.filled" = true)
    (k38 : PySem.W.keepIn K (.ref f38) = true)
    (a39 : PySem.W.findIn K (.ref xP) "size" = some (some (.ref f39)))
    (l39 : K.lookup f39 = some ⟨oc39, od39, .func (PySem.W.fnOf "size" "Parts.size" (defArgs sPSize) (defBody sPSize) (defScope sPSize) .none kV39 dc39 pm39 an39 cd39 ct39), sl39⟩)
    (c39 : PySem.W.codeIn K cd39 "Parts.size" = true)
    (k39 : PySem.W.keepIn K (.ref f39) = true)
    (a40 : PySem.W.findIn K (.ref xP) "frame" = some (some (.ref f40)))
    (l40 : K.lookup f40 = some ⟨oc40, od40, .func (PySem.W.fnOf "frame" "Parts.frame" (defArgs sFrame) (defBody sFrame) (defScope sFrame) .none kV40 dc40 pm40 an40 cd40 ct40), sl40⟩)
    (c40 : PySem.W.codeIn K cd40 "Parts.frame" = true)
    (k40 : PySem.W.keepIn K (.ref f40) = true)
    (a41 : PySem.W.findIn K (.ref xP) "check_there" = some (some (.ref f41)))
    (l41 : K.lookup f41 = some ⟨oc41, od41, .func (PySem.W.fnOf "check_there" "Parts.check_there" (defArgs sThere) (defBody sThere) (defScope sThere) .none kV41 dc41 pm41 an41 cd41 ct41), sl41⟩)
    (c41 : PySem.W.codeIn K cd41 "Parts.check_there" = true)
    (k41 : PySem.W.keepIn K (.ref f41) = true)
    (a42 : PySem.W.findIn K (.ref xP) "alone" = some (some (.ref f42)))
    (l42 : K.lookup f42 = some ⟨oc42, od42, .func (PySem.W.fnOf "alone" "Parts.alone" (defArgs sAlone) (defBody sAlone) (defScope sAlone) .none kV42 dc42 pm42 an42 cd42 ct42), sl42⟩)
    (c42 : PySem.W.codeIn K cd42 "Parts.alone" = true)
    (k42 : PySem.W.keepIn K (.ref f42) = true)
    (a43 : PySem.W.findIn K (.ref xP) "lead" = some (some (.ref f43)))
    (l43 : K.lookup f43 = some ⟨oc43, od43, .func (PySem.W.fnOf "lead" "Parts.lead" (defArgs sLead) (defBody sLead) (defScope sLead) .none kV43 dc43 pm43 an43 cd43 ct43), sl43⟩)
    (c43 : PySem.W.codeIn K cd43 "Parts.lead" = true)
    (k43 : PySem.W.keepIn K (.ref f43) = true)
    (a44 : PySem.W.findIn K (.ref xP) "give" = some (some (.ref f44)))
    (l44 : K.lookup f44 = some ⟨oc44, od44, .func (PySem.W.fnOf "give" "Parts.give" (defArgs sGive) (defBody sGive) (defScope sGive) .none kV44 dc44 pm44 an44 cd44 ct44), sl44⟩)
    (c44 : PySem.W.codeIn K cd44 "Parts.give" = true)
    (k44 : PySem.W.keepIn K (.ref f44) = true)
    (a45 : PySem.W.findIn K (.ref xP) "fresh" = some (some (.ref f45)))
    (l45 : K.lookup f45 = some ⟨oc45, od45, .func (PySem.W.fnOf "fresh" "Parts.fresh" (defArgs sFresh) (defBody sFresh) (defScope sFresh) .none kV45 dc45 pm45 an45 cd45 ct45), sl45⟩)
    (c45 : PySem.W.codeIn K cd45 "Parts.fresh" = true)
    (k45 : PySem.W.keepIn K (.ref f45) = true)
    (a46 : PySem.W.findIn K (.ref xP) "pages" = some (some (.ref f46)))
    (l46 : K.lookup f46 = some ⟨oc46, od46, .func (PySem.W.fnOf "pages" "Parts.pages" (defArgs sPages) (defBody sPages) (defScope sPages) .none kV46 dc46 pm46 an46 cd46 ct46), sl46⟩)
    (c46 : PySem.W.codeIn K cd46 "Parts.pages" = true)
    (k46 : PySem.W.keepIn K (.ref f46) = true)
    (a47 : PySem.W.findIn K (.ref xP) "told" = some (some (.ref f47)))
    (l47 : K.lookup f47 = some ⟨oc47, od47, .func (PySem.W.fnOf "told" "Parts.told" (defArgs sPTold) (defBody sPTold) (defScope sPTold) .none kV47 dc47 pm47 an47 cd47 ct47), sl47⟩)
    (c47 : PySem.W.codeIn K cd47 "Parts.told" = true)
    (k47 : PySem.W.keepIn K (.ref f47) = true)
    (a48 : PySem.W.nsIn K mainGlobals "law" = some (some (.ref f48)))
    (l48 : K.lookup f48 = some ⟨oc48, od48, .func (PySem.W.fnOf "law" "law" (defArgs sLaw) (defBody sLaw) (defScope sLaw) .none kV48 dc48 pm48 an48 cd48 ct48), sl48⟩)
    (c48 : PySem.W.codeIn K cd48 "law" = true)
    (k48 : PySem.W.keepIn K (.ref f48) = true)
    (v0 : PySem.W.nsIn K mainGlobals "CELLS" = some (some (.int 8 tk0)))
    (v1 : PySem.W.nsIn K mainGlobals "FRAMES" = some (some (.int 200 tk1)))
    (v2 : PySem.W.nsIn K mainGlobals "WORDS" = some (some (.int 281474976710656 tk2)))
    (v3 : PySem.W.nsIn K mainGlobals "MOST_PAGES" = some (some (.int 24 tk3)))
    (z_isinstance : PySem.W.nsIn K mainGlobals "isinstance" = some none)
    (z_int : PySem.W.nsIn K mainGlobals "int" = some none)
    (z_bool : PySem.W.nsIn K mainGlobals "bool" = some none)
    (z_len : PySem.W.nsIn K mainGlobals "len" = some none)
    (z_range : PySem.W.nsIn K mainGlobals "range" = some none)
    (z_list : PySem.W.nsIn K mainGlobals "list" = some none)
    (z_all : PySem.W.nsIn K mainGlobals "all" = some none)
    (z_ValueError : PySem.W.nsIn K mainGlobals "ValueError" = some none)
    (i21 : PySem.W.isFn K (.ref f21) = true)
    (i22 : PySem.W.isFn K (.ref f22) = true)
    (i23 : PySem.W.isFn K (.ref f23) = true)
    (i24 : PySem.W.isFn K (.ref f24) = true)
    (i25 : PySem.W.isFn K (.ref f25) = true)
    (i26 : PySem.W.isFn K (.ref f26) = true)
    (i27 : PySem.W.isFn K (.ref f27) = true)
    (i28 : PySem.W.isFn K (.ref f28) = true)
    (i29 : PySem.W.isFn K (.ref f29) = true)
    (i30 : PySem.W.isFn K (.ref f30) = true)
    (i31 : PySem.W.isFn K (.ref f31) = true)
    (i32 : PySem.W.isFn K (.ref f32) = true)
    (i33 : PySem.W.isFn K (.ref f33) = true)
    (i34 : PySem.W.isFn K (.ref f34) = true)
    (i35 : PySem.W.isFn K (.ref f35) = true)
    (i36 : PySem.W.isFn K (.ref f36) = true)
    (i37 : PySem.W.isFn K (.ref f37) = true)
    (i38 : PySem.W.isFn K (.ref f38) = true)
    (i39 : PySem.W.isFn K (.ref f39) = true)
    (i40 : PySem.W.isFn K (.ref f40) = true)
    (i41 : PySem.W.isFn K (.ref f41) = true)
    (i42 : PySem.W.isFn K (.ref f42) = true)
    (i43 : PySem.W.isFn K (.ref f43) = true)
    (i44 : PySem.W.isFn K (.ref f44) = true)
    (i45 : PySem.W.isFn K (.ref f45) = true)
    (i46 : PySem.W.isFn K (.ref f46) = true)
    (i47 : PySem.W.isFn K (.ref f47) = true)
    (pg : PySem.W.plainGet K xC Str.empty = true)
    (hdi : PySem.W.hasDictIn K xC = true)
    (po : PySem.W.plainOver K xC = true)
    (sa : PySem.W.findIn K (.ref xC) "__setattr__" = some (some (.builtin "object.__setattr__")))
    (mk : PySem.W.makesIn K xC = true)
    (kc : PySem.W.keepIn K (.ref xC) = true)
    (ppg : PySem.W.plainGet K xP Str.empty = true)
    (phdi : PySem.W.hasDictIn K xP = true)
    (ppo : PySem.W.plainOver K xP = true)
    (psa : PySem.W.findIn K (.ref xP) "__setattr__" = some (some (.builtin "object.__setattr__")))
    (pmk : PySem.W.makesIn K xP = true)
    (pkc : PySem.W.keepIn K (.ref xP) = true)
    (nh : PySem.W.findIn K (.ref xC) "holders" = some none)
    (ns : PySem.W.findIn K (.ref xC) "sheets" = some none)
    (np : PySem.W.findIn K (.ref xC) "pledged" = some none)
    (nfl : PySem.W.findIn K (.ref xP) "floor" = some none)
    (ngo : PySem.W.findIn K (.ref xP) "goals" = some none)
    (d0_e1 : PySem.W.findIn K (.ref x0) "__getattribute__" = some (some (.builtin "BaseException.__getattribute__")))
    (d0_e2 : PySem.W.findIn K (.ref x0) "__getattr__" = some none)
    (d0_e3 : PySem.W.findIn K (.ref x0) "__class__" = some (some (.builtin "object.__class__")))
    (d0_e4 : PySem.W.specialIn K (.builtin "object.__class__") "__get__" = some (some (.builtin "getset_descriptor.__get__")))
    (d0_e5 : PySem.W.takesIn K (.builtin "object.__class__") = some true)
    (d0_e6 : PySem.W.mroIn K x0 (.type "object") = some true)
    (d0_e7 : PySem.W.mroIn K x0 (.type "BaseException") = some true)
    (d0_t1 : PySem.W.typeIn K (.ref x0) = some (.type "type"))
    (d0_t3 : PySem.W.subIn K (.ref x0) (.ref x0) = some true)
    (d0_t4 : PySem.W.subIn K (.ref x0) (.type "ValueError") = some true)
    (d0_ex : PySem.W.exmOne K (.ref x0) (.ref xH) = some true)
    (d0_xi : L2.excIn K x0 = true)
    (u0_1 : PySem.W.kin_not K x0 x1 = true)
    (u0_2 : PySem.W.kin_not K x0 x2 = true)
    (u0_3 : PySem.W.kin_not K x0 x3 = true)
    (u0_4 : PySem.W.kin_not K x0 x4 = true)
    (u0_5 : PySem.W.kin_not K x0 x5 = true)
    (u0_6 : PySem.W.kin_not K x0 x6 = true)
    (u0_7 : PySem.W.kin_not K x0 x7 = true)
    (u0_8 : PySem.W.kin_not K x0 x8 = true)
    (u0_9 : PySem.W.kin_not K x0 x9 = true)
    (u0_10 : PySem.W.kin_not K x0 x10 = true)
    (u0_11 : PySem.W.kin_not K x0 x11 = true)
    (u0_12 : PySem.W.kin_not K x0 x12 = true)
    (u0_13 : PySem.W.kin_not K x0 x13 = true)
    (u0_14 : PySem.W.kin_not K x0 x14 = true)
    (u0_15 : PySem.W.kin_not K x0 x15 = true)
    (u0_16 : PySem.W.kin_not K x0 x16 = true)
    (d1_e1 : PySem.W.findIn K (.ref x1) "__getattribute__" = some (some (.builtin "BaseException.__getattribute__")))
    (d1_e2 : PySem.W.findIn K (.ref x1) "__getattr__" = some none)
    (d1_e3 : PySem.W.findIn K (.ref x1) "__class__" = some (some (.builtin "object.__class__")))
    (d1_e4 : PySem.W.specialIn K (.builtin "object.__class__") "__get__" = some (some (.builtin "getset_descriptor.__get__")))
    (d1_e5 : PySem.W.takesIn K (.builtin "object.__class__") = some true)
    (d1_e6 : PySem.W.mroIn K x1 (.type "object") = some true)
    (d1_e7 : PySem.W.mroIn K x1 (.type "BaseException") = some true)
    (d1_t1 : PySem.W.typeIn K (.ref x1) = some (.type "type"))
    (d1_t3 : PySem.W.subIn K (.ref x1) (.ref x1) = some true)
    (d1_t4 : PySem.W.subIn K (.ref x1) (.type "ValueError") = some true)
    (d1_ex : PySem.W.exmOne K (.ref x1) (.ref xH) = some true)
    (d1_xi : L2.excIn K x1 = true)
    (u1_0 : PySem.W.kin_not K x1 x0 = true)
    (u1_2 : PySem.W.kin_not K x1 x2 = true)
    (u1_3 : PySem.W.kin_not K x1 x3 = true)
    (u1_4 : PySem.W.kin_not K x1 x4 = true)
    (u1_5 : PySem.W.kin_not K x1 x5 = true)
    (u1_6 : PySem.W.kin_not K x1 x6 = true)
    (u1_7 : PySem.W.kin_not K x1 x7 = true)
    (u1_8 : PySem.W.kin_not K x1 x8 = true)
    (u1_9 : PySem.W.kin_not K x1 x9 = true)
    (u1_10 : PySem.W.kin_not K x1 x10 = true)
    (u1_11 : PySem.W.kin_not K x1 x11 = true)
    (u1_12 : PySem.W.kin_not K x1 x12 = true)
    (u1_13 : PySem.W.kin_not K x1 x13 = true)
    (u1_14 : PySem.W.kin_not K x1 x14 = true)
    (u1_15 : PySem.W.kin_not K x1 x15 = true)
    (u1_16 : PySem.W.kin_not K x1 x16 = true)
    (xi2 : L2.excIn K x2 = true)
    (xi4 : L2.excIn K x4 = true)
    (xi16 : L2.excIn K x16 = true)
    : ∃ fd : FuncData, (∀ (s : Shared) (v : Value), BindsTo s fd ⟨[v], []⟩ [("_law_script", v)]) ∧ ∀ base : Heap, K.In base → base.Ns mainGlobals mg → FnOk l.prog w K mg base CX0 13 fa fd ["_law_script"] (spLaw K) := by
  have e := hfa.symm.trans (PySem.W.mg_of X G a48)
  cases e
  have F0 := fun_mk (st := sWhole) l0 c0 k0
  have D0 : Dn K mg "is_whole" sWhole ["thing"] f0 _ := ⟨F0, PySem.W.mg_of X G a0, F0.binds (ps := ["thing"]) fun _ _ _ _ _ _ us hl => match us, hl with | [_], _ => rfl⟩
  have F1 := fun_mk (st := sBelow) l1 c1 k1
  have D1 : Dn K mg "is_below" sBelow ["thing", "bound"] f1 _ := ⟨F1, PySem.W.mg_of X G a1, F1.binds (ps := ["thing", "bound"]) fun _ _ _ _ _ _ us hl => match us, hl with | [_, _], _ => rfl⟩
  have F2 := fun_mk (st := sWord) l2 c2 k2
  have D2 : Dn K mg "is_word" sWord ["thing"] f2 _ := ⟨F2, PySem.W.mg_of X G a2, F2.binds (ps := ["thing"]) fun _ _ _ _ _ _ us hl => match us, hl with | [_], _ => rfl⟩
  have F3 := fun_mk (st := sEight) l3 c3 k3
  have D3 : Dn K mg "is_eight_words" sEight ["thing"] f3 _ := ⟨F3, PySem.W.mg_of X G a3, F3.binds (ps := ["thing"]) fun _ _ _ _ _ _ us hl => match us, hl with | [_], _ => rfl⟩
  have F4 := fun_mk (st := sImage) l4 c4 k4
  have D4 : Dn K mg "check_image" sImage ["pages"] f4 _ := ⟨F4, PySem.W.mg_of X G a4, F4.binds (ps := ["pages"]) fun _ _ _ _ _ _ us hl => match us, hl with | [_], _ => rfl⟩
  have F5 := fun_mk (st := sCWord) l5 c5 k5
  have D5 : Dn K mg "check_word" sCWord ["word"] f5 _ := ⟨F5, PySem.W.mg_of X G a5, F5.binds (ps := ["word"]) fun _ _ _ _ _ _ us hl => match us, hl with | [_], _ => rfl⟩
  have F6 := fun_mk (st := sCell) l6 c6 k6
  have D6 : Dn K mg "_law_cell_at" sCell ["_law_script", "_law_k"] f6 _ := ⟨F6, PySem.W.mg_of X G a6, F6.binds (ps := ["_law_script", "_law_k"]) fun _ _ _ _ _ _ us hl => match us, hl with | [_, _], _ => rfl⟩
  have F7 := fun_mk (st := sLWhole) l7 c7 k7
  have D7 : Dn K mg "_law_whole" sLWhole ["_law_found"] f7 _ := ⟨F7, PySem.W.mg_of X G a7, F7.binds (ps := ["_law_found"]) fun _ _ _ _ _ _ us hl => match us, hl with | [_], _ => rfl⟩
  have F8 := fun_mk (st := sKinds) l8 c8 k8
  have D8 : Dn K mg "_law_kinds" sKinds ["_law_e"] f8 _ := ⟨F8, PySem.W.mg_of X G a8, F8.binds (ps := ["_law_e"]) fun _ _ _ _ _ _ us hl => match us, hl with | [_], _ => rfl⟩
  have F9 := fun_mk (st := sDo) l9 c9 k9
  have D9 : Dn K mg "_law_do" sDo ["_law_part", "_law_word", "_law_page", "_law_frame_here"] f9 _ := ⟨F9, PySem.W.mg_of X G a9, F9.binds (ps := ["_law_part", "_law_word", "_law_page", "_law_frame_here"]) fun _ _ _ _ _ _ us hl => match us, hl with | [_, _, _, _], _ => rfl⟩
  have F10 := fun_mk (st := sRef) l10 c10 k10
  have D10 : Dn K mg "_law_refused" sRef ["_law_part", "_law_word", "_law_page", "_law_frame_here", "_law_due"] f10 _ := ⟨F10, PySem.W.mg_of X G a10, F10.binds (ps := ["_law_part", "_law_word", "_law_page", "_law_frame_here", "_law_due"]) fun _ _ _ _ _ _ us hl => match us, hl with | [_, _, _, _, _], _ => rfl⟩
  have F11 := fun_mk (st := sImg) l11 c11 k11
  have D11 : Dn K mg "_law_image" sImg ["_law_cell", "_law_size"] f11 _ := ⟨F11, PySem.W.mg_of X G a11, F11.binds (ps := ["_law_cell", "_law_size"]) fun _ _ _ _ _ _ us hl => match us, hl with | [_, _], _ => rfl⟩
  have F12 := fun_mk (st := sLeast) l12 c12 k12
  have D12 : Dn K mg "_law_least" sLeast ["_law_rows"] f12 _ := ⟨F12, PySem.W.mg_of X G a12, F12.binds (ps := ["_law_rows"]) fun _ _ _ _ _ _ us hl => match us, hl with | [_], _ => rfl⟩
  have F13 := fun_mk (st := sCount) l13 c13 k13
  have D13 : Dn K mg "_law_count" sCount ["_law_rows", "_law_frame_here"] f13 _ := ⟨F13, PySem.W.mg_of X G a13, F13.binds (ps := ["_law_rows", "_law_frame_here"]) fun _ _ _ _ _ _ us hl => match us, hl with | [_, _], _ => rfl⟩
  have F14 := fun_mk (st := sLFree) l14 c14 k14
  have D14 : Dn K mg "_law_free" sLFree ["_law_rows", "_law_many"] f14 _ := ⟨F14, PySem.W.mg_of X G a14, F14.binds (ps := ["_law_rows", "_law_many"]) fun _ _ _ _ _ _ us hl => match us, hl with | [_, _], _ => rfl⟩
  have F15 := fun_mk (st := sSome) l15 c15 k15
  have D15 : Dn K mg "_law_some" sSome ["_law_rows", "_law_cell"] f15 _ := ⟨F15, PySem.W.mg_of X G a15, F15.binds (ps := ["_law_rows", "_law_cell"]) fun _ _ _ _ _ _ us hl => match us, hl with | [_, _], _ => rfl⟩
  have F16 := fun_mk (st := sLFrame) l16 c16 k16
  have D16 : Dn K mg "_law_frame" sLFrame ["_law_found", "_law_due"] f16 _ := ⟨F16, PySem.W.mg_of X G a16, F16.binds (ps := ["_law_found", "_law_due"]) fun _ _ _ _ _ _ us hl => match us, hl with | [_, _], _ => rfl⟩
  have F17 := fun_mk (st := sShows) l17 c17 k17
  have D17 : Dn K mg "_law_shows" sShows ["_law_frames", "_law_part", "_law_rows", "_law_which", "_law_page", "_law_seen"] f17 _ := ⟨F17, PySem.W.mg_of X G a17, F17.binds (ps := ["_law_frames", "_law_part", "_law_rows", "_law_which", "_law_page", "_law_seen"]) fun _ _ _ _ _ _ us hl => match us, hl with | [_, _, _, _, _, _], _ => rfl⟩
  have F18 := fun_mk (st := sNone) l18 c18 k18
  have D18 : Dn K mg "_law_none" sNone ["_law_part", "_law_cell", "_law_size"] f18 _ := ⟨F18, PySem.W.mg_of X G a18, F18.binds (ps := ["_law_part", "_law_cell", "_law_size"]) fun _ _ _ _ _ _ us hl => match us, hl with | [_, _, _], _ => rfl⟩
  have F19 := fun_mk (st := sLAlone) l19 c19 k19
  have D19 : Dn K mg "_law_alone" sLAlone ["_law_part", "_law_rows", "_law_which", "_law_page"] f19 _ := ⟨F19, PySem.W.mg_of X G a19, F19.binds (ps := ["_law_part", "_law_rows", "_law_which", "_law_page"]) fun _ _ _ _ _ _ us hl => match us, hl with | [_, _, _, _], _ => rfl⟩
  have F20 := fun_mk (st := sDeed) l20 c20 k20
  have D20 : Dn K mg "_law_deed" sDeed ["_law_part", "_law_rows", "_law_which", "_law_page", "_law_cell"] f20 _ := ⟨F20, PySem.W.mg_of X G a20, F20.binds (ps := ["_law_part", "_law_rows", "_law_which", "_law_page", "_law_cell"]) fun _ _ _ _ _ _ us hl => match us, hl with | [_, _, _, _, _], _ => rfl⟩
  have F21 := fun_mk (st := sRead) l21 c21 k21
  have B21 := F21.binds (ps := ["self", "page", "cell"]) fun _ _ _ _ _ _ us hl => match us, hl with | [_, _, _], _ => rfl
  have F22 := fun_mk (st := sWrite) l22 c22 k22
  have B22 := F22.binds (ps := ["self", "page", "cell", "word"]) fun _ _ _ _ _ _ us hl => match us, hl with | [_, _, _, _], _ => rfl
  have F23 := fun_mk (st := sWords) l23 c23 k23
  have B23 := F23.binds (ps := ["self", "page"]) fun _ _ _ _ _ _ us hl => match us, hl with | [_, _], _ => rfl
  have F24 := fun_mk (st := sSpot) l24 c24 k24
  have B24 := F24.binds (ps := ["self", "page", "cell"]) fun _ _ _ _ _ _ us hl => match us, hl with | [_, _, _], _ => rfl
  have F25 := fun_mk (st := sCPage) l25 c25 k25
  have B25 := F25.binds (ps := ["self", "page"]) fun _ _ _ _ _ _ us hl => match us, hl with | [_, _], _ => rfl
  have F26 := fun_mk (st := sInit) l26 c26 k26
  have B26 := F26.binds (ps := ["self", "many"]) fun _ _ _ _ _ _ us hl => match us, hl with | [_, _], _ => rfl
  have F27 := fun_mk (st := sSize) l27 c27 k27
  have B27 := F27.binds (ps := ["self"]) fun _ _ _ _ _ _ us hl => match us, hl with | [_], _ => rfl
  have F28 := fun_mk (st := sHas) l28 c28 k28
  have B28 := F28.binds (ps := ["self", "page"]) fun _ _ _ _ _ _ us hl => match us, hl with | [_, _], _ => rfl
  have F29 := fun_mk (st := sWordAt) l29 c29 k29
  have B29 := F29.binds (ps := ["self", "page", "cell"]) fun _ _ _ _ _ _ us hl => match us, hl with | [_, _, _], _ => rfl
  have F30 := fun_mk (st := sPutWord) l30 c30 k30
  have B30 := F30.binds (ps := ["self", "page", "cell", "word"]) fun _ _ _ _ _ _ us hl => match us, hl with | [_, _, _, _], _ => rfl
  have F31 := fun_mk (st := sTake) l31 c31 k31
  have B31 := F31.binds (ps := ["self"]) fun _ _ _ _ _ _ us hl => match us, hl with | [_], _ => rfl
  have F32 := fun_mk (st := sShare) l32 c32 k32
  have B32 := F32.binds (ps := ["self", "frame"]) fun _ _ _ _ _ _ us hl => match us, hl with | [_, _], _ => rfl
  have F33 := fun_mk (st := sDrop) l33 c33 k33
  have B33 := F33.binds (ps := ["self", "frame"]) fun _ _ _ _ _ _ us hl => match us, hl with | [_, _], _ => rfl
  have F34 := fun_mk (st := sChk) l34 c34 k34
  have B34 := F34.binds (ps := ["self", "frame"]) fun _ _ _ _ _ _ us hl => match us, hl with | [_, _], _ => rfl
  have F35 := fun_mk (st := sOwn) l35 c35 k35
  have B35 := F35.binds (ps := ["self", "frame"]) fun _ _ _ _ _ _ us hl => match us, hl with | [_, _], _ => rfl
  have F36 := fun_mk (st := sFree) l36 c36 k36
  have B36 := F36.binds (ps := ["self"]) fun _ _ _ _ _ _ us hl => match us, hl with | [_], _ => rfl
  have F37 := fun_mk (st := sPInit) l37 c37 k37
  have B37 := F37.binds (ps := ["self", "frames", "pages"]) fun _ _ _ _ _ _ us hl => match us, hl with | [_, _, _], _ => rfl
  have F38 := fun_mk (st := sFill) l38 c38 k38
  have B38 := F38.binds (ps := ["self", "words"]) fun _ _ _ _ _ _ us hl => match us, hl with | [_, _], _ => rfl
  have F39 := fun_mk (st := sPSize) l39 c39 k39
  have B39 := F39.binds (ps := ["self"]) fun _ _ _ _ _ _ us hl => match us, hl with | [_], _ => rfl
  have F40 := fun_mk (st := sFrame) l40 c40 k40
  have B40 := F40.binds (ps := ["self", "page"]) fun _ _ _ _ _ _ us hl => match us, hl with | [_, _], _ => rfl
  have F41 := fun_mk (st := sThere) l41 c41 k41
  have B41 := F41.binds (ps := ["self", "page"]) fun _ _ _ _ _ _ us hl => match us, hl with | [_, _], _ => rfl
  have F42 := fun_mk (st := sAlone) l42 c42 k42
  have B42 := F42.binds (ps := ["self", "page"]) fun _ _ _ _ _ _ us hl => match us, hl with | [_, _], _ => rfl
  have F43 := fun_mk (st := sLead) l43 c43 k43
  have B43 := F43.binds (ps := ["self", "page", "frame"]) fun _ _ _ _ _ _ us hl => match us, hl with | [_, _, _], _ => rfl
  have F44 := fun_mk (st := sGive) l44 c44 k44
  have B44 := F44.binds (ps := ["self", "page"]) fun _ _ _ _ _ _ us hl => match us, hl with | [_, _], _ => rfl
  have F45 := fun_mk (st := sFresh) l45 c45 k45
  have B45 := F45.binds (ps := ["self", "page"]) fun _ _ _ _ _ _ us hl => match us, hl with | [_, _], _ => rfl
  have F46 := fun_mk (st := sPages) l46 c46 k46
  have B46 := F46.binds (ps := ["self"]) fun _ _ _ _ _ _ us hl => match us, hl with | [_], _ => rfl
  have F47 := fun_mk (st := sPTold) l47 c47 k47
  have B47 := F47.binds (ps := ["self"]) fun _ _ _ _ _ _ us hl => match us, hl with | [_], _ => rfl
  have F48 := fun_mk (st := sLaw) l48 c48 k48
  have D48 : Dn K mg "law" sLaw ["_law_script"] fa _ := ⟨F48, PySem.W.mg_of X G a48, F48.binds (ps := ["_law_script"]) fun _ _ _ _ _ _ us hl => match us, hl with | [_], _ => rfl⟩
  have T : Txt K mg := ⟨PySem.W.mg_none_of X G z_isinstance, PySem.W.mg_none_of X G z_int, PySem.W.mg_none_of X G z_bool, PySem.W.mg_none_of X G z_len, PySem.W.mg_none_of X G z_range⟩
  have S : Shf K mg xC x1 := ⟨⟨pg, hdi, po, sa⟩, nh, ns, np, ⟨tk0, PySem.W.mg_of X G v0⟩, ⟨tk1, PySem.W.mg_of X G v1⟩, d1_xi, PySem.W.mg_of X G n1⟩
  have Z : Sto K mg x0 x2 x16 := ⟨⟨tk2, PySem.W.mg_of X G v2⟩, PySem.W.mg_of X G n0, d0_xi, PySem.W.mg_of X G n2, xi2, PySem.W.mg_of X G n16, xi16⟩
  have SP : Shp K xP := ⟨⟨ppg, phdi, ppo, psa⟩, nfl, ngo⟩
  have I : Im K mg x4 := ⟨⟨tk3, PySem.W.mg_of X G v3⟩, PySem.W.mg_of X G n4, xi4, PySem.W.mg_none_of X G z_list, PySem.W.mg_none_of X G z_all⟩
  have ek0 : EX.Cls K x0 := ⟨d0_e1, d0_e2, d0_e3, d0_e4, d0_e5, d0_e6, d0_e7⟩
  have Kd0 : Kd K mg xH x0 true false x0 x1 x2 x3 x4 x5 x6 x7 x8 x9 x10 x11 x12 x13 x14 x15 x16 := ⟨PySem.W.mg_of X G n0, ⟨ek0, .inr (.inl ⟨_, rfl, rfl, d0_t1, d0_e6, d0_t3⟩)⟩, PySem.W.mg_of X G n1, ⟨ek0, .inl ⟨_, rfl, rfl, u0_1⟩⟩, PySem.W.mg_of X G n2, ⟨ek0, .inl ⟨_, rfl, rfl, u0_2⟩⟩, PySem.W.mg_of X G n3, ⟨ek0, .inl ⟨_, rfl, rfl, u0_3⟩⟩, PySem.W.mg_of X G n4, ⟨ek0, .inl ⟨_, rfl, rfl, u0_4⟩⟩, PySem.W.mg_of X G n5, ⟨ek0, .inl ⟨_, rfl, rfl, u0_5⟩⟩, PySem.W.mg_of X G n6, ⟨ek0, .inl ⟨_, rfl, rfl, u0_6⟩⟩, PySem.W.mg_of X G n7, ⟨ek0, .inl ⟨_, rfl, rfl, u0_7⟩⟩, PySem.W.mg_of X G n8, ⟨ek0, .inl ⟨_, rfl, rfl, u0_8⟩⟩, PySem.W.mg_of X G n9, ⟨ek0, .inl ⟨_, rfl, rfl, u0_9⟩⟩, PySem.W.mg_of X G n10, ⟨ek0, .inl ⟨_, rfl, rfl, u0_10⟩⟩, PySem.W.mg_of X G n11, ⟨ek0, .inl ⟨_, rfl, rfl, u0_11⟩⟩, PySem.W.mg_of X G n12, ⟨ek0, .inl ⟨_, rfl, rfl, u0_12⟩⟩, PySem.W.mg_of X G n13, ⟨ek0, .inl ⟨_, rfl, rfl, u0_13⟩⟩, PySem.W.mg_of X G n14, ⟨ek0, .inl ⟨_, rfl, rfl, u0_14⟩⟩, PySem.W.mg_of X G n15, ⟨ek0, .inl ⟨_, rfl, rfl, u0_15⟩⟩, PySem.W.mg_of X G n16, ⟨ek0, .inl ⟨_, rfl, rfl, u0_16⟩⟩, ⟨ek0, .inr (.inr ⟨_, rfl, rfl, by kernel_rfl, d0_t4⟩)⟩, d0_ex, PySem.W.mg_none_of X G z_ValueError, PySem.W.mg_of X G nH⟩
  have ek1 : EX.Cls K x1 := ⟨d1_e1, d1_e2, d1_e3, d1_e4, d1_e5, d1_e6, d1_e7⟩
  have Kd1 : Kd K mg xH x1 false true x0 x1 x2 x3 x4 x5 x6 x7 x8 x9 x10 x11 x12 x13 x14 x15 x16 := ⟨PySem.W.mg_of X G n0, ⟨ek1, .inl ⟨_, rfl, rfl, u1_0⟩⟩, PySem.W.mg_of X G n1, ⟨ek1, .inr (.inl ⟨_, rfl, rfl, d1_t1, d1_e6, d1_t3⟩)⟩, PySem.W.mg_of X G n2, ⟨ek1, .inl ⟨_, rfl, rfl, u1_2⟩⟩, PySem.W.mg_of X G n3, ⟨ek1, .inl ⟨_, rfl, rfl, u1_3⟩⟩, PySem.W.mg_of X G n4, ⟨ek1, .inl ⟨_, rfl, rfl, u1_4⟩⟩, PySem.W.mg_of X G n5, ⟨ek1, .inl ⟨_, rfl, rfl, u1_5⟩⟩, PySem.W.mg_of X G n6, ⟨ek1, .inl ⟨_, rfl, rfl, u1_6⟩⟩, PySem.W.mg_of X G n7, ⟨ek1, .inl ⟨_, rfl, rfl, u1_7⟩⟩, PySem.W.mg_of X G n8, ⟨ek1, .inl ⟨_, rfl, rfl, u1_8⟩⟩, PySem.W.mg_of X G n9, ⟨ek1, .inl ⟨_, rfl, rfl, u1_9⟩⟩, PySem.W.mg_of X G n10, ⟨ek1, .inl ⟨_, rfl, rfl, u1_10⟩⟩, PySem.W.mg_of X G n11, ⟨ek1, .inl ⟨_, rfl, rfl, u1_11⟩⟩, PySem.W.mg_of X G n12, ⟨ek1, .inl ⟨_, rfl, rfl, u1_12⟩⟩, PySem.W.mg_of X G n13, ⟨ek1, .inl ⟨_, rfl, rfl, u1_13⟩⟩, PySem.W.mg_of X G n14, ⟨ek1, .inl ⟨_, rfl, rfl, u1_14⟩⟩, PySem.W.mg_of X G n15, ⟨ek1, .inl ⟨_, rfl, rfl, u1_15⟩⟩, PySem.W.mg_of X G n16, ⟨ek1, .inl ⟨_, rfl, rfl, u1_16⟩⟩, ⟨ek1, .inr (.inr ⟨_, rfl, rfl, by kernel_rfl, d1_t4⟩)⟩, d1_ex, PySem.W.mg_none_of X G z_ValueError, PySem.W.mg_of X G nH⟩
  have M21 : Me K xC "read" "Store.read" sRead ["self", "page", "cell"] f21 _ := ⟨F21, ⟨a21, i21, k21⟩, B21⟩
  have M22 : Me K xC "write" "Store.write" sWrite ["self", "page", "cell", "word"] f22 _ := ⟨F22, ⟨a22, i22, k22⟩, B22⟩
  have M23 : Me K xC "words_of" "Store.words_of" sWords ["self", "page"] f23 _ := ⟨F23, ⟨a23, i23, k23⟩, B23⟩
  have M24 : Me K xC "check_spot" "Store.check_spot" sSpot ["self", "page", "cell"] f24 _ := ⟨F24, ⟨a24, i24, k24⟩, B24⟩
  have M25 : Me K xC "check_page" "Store.check_page" sCPage ["self", "page"] f25 _ := ⟨F25, ⟨a25, i25, k25⟩, B25⟩
  have M27 : Me K xC "size" "Frames.size" sSize ["self"] f27 _ := ⟨F27, ⟨a27, i27, k27⟩, B27⟩
  have M28 : Me K xC "has" "Frames.has" sHas ["self", "page"] f28 _ := ⟨F28, ⟨a28, i28, k28⟩, B28⟩
  have M29 : Me K xC "word_at" "Frames.word_at" sWordAt ["self", "page", "cell"] f29 _ := ⟨F29, ⟨a29, i29, k29⟩, B29⟩
  have M30 : Me K xC "put_word" "Frames.put_word" sPutWord ["self", "page", "cell", "word"] f30 _ := ⟨F30, ⟨a30, i30, k30⟩, B30⟩
  have M31 : Me K xC "take" "Frames.take" sTake ["self"] f31 _ := ⟨F31, ⟨a31, i31, k31⟩, B31⟩
  have M32 : Me K xC "share" "Frames.share" sShare ["self", "frame"] f32 _ := ⟨F32, ⟨a32, i32, k32⟩, B32⟩
  have M33 : Me K xC "drop" "Frames.drop" sDrop ["self", "frame"] f33 _ := ⟨F33, ⟨a33, i33, k33⟩, B33⟩
  have M34 : Me K xC "check_taken" "Frames.check_taken" sChk ["self", "frame"] f34 _ := ⟨F34, ⟨a34, i34, k34⟩, B34⟩
  have M35 : Me K xC "owners" "Frames.owners" sOwn ["self", "frame"] f35 _ := ⟨F35, ⟨a35, i35, k35⟩, B35⟩
  have M36 : Me K xC "free" "Frames.free" sFree ["self"] f36 _ := ⟨F36, ⟨a36, i36, k36⟩, B36⟩
  have M38 : Me K xP "filled" "Parts.filled" sFill ["self", "words"] f38 _ := ⟨F38, ⟨a38, i38, k38⟩, B38⟩
  have M39 : Me K xP "size" "Parts.size" sPSize ["self"] f39 _ := ⟨F39, ⟨a39, i39, k39⟩, B39⟩
  have M40 : Me K xP "frame" "Parts.frame" sFrame ["self", "page"] f40 _ := ⟨F40, ⟨a40, i40, k40⟩, B40⟩
  have M41 : Me K xP "check_there" "Parts.check_there" sThere ["self", "page"] f41 _ := ⟨F41, ⟨a41, i41, k41⟩, B41⟩
  have M42 : Me K xP "alone" "Parts.alone" sAlone ["self", "page"] f42 _ := ⟨F42, ⟨a42, i42, k42⟩, B42⟩
  have M43 : Me K xP "lead" "Parts.lead" sLead ["self", "page", "frame"] f43 _ := ⟨F43, ⟨a43, i43, k43⟩, B43⟩
  have M44 : Me K xP "give" "Parts.give" sGive ["self", "page"] f44 _ := ⟨F44, ⟨a44, i44, k44⟩, B44⟩
  have M45 : Me K xP "fresh" "Parts.fresh" sFresh ["self", "page"] f45 _ := ⟨F45, ⟨a45, i45, k45⟩, B45⟩
  have M46 : Me K xP "pages" "Parts.pages" sPages ["self"] f46 _ := ⟨F46, ⟨a46, i46, k46⟩, B46⟩
  have M47 : Me K xP "told" "Parts.told" sPTold ["self"] f47 _ := ⟨F47, ⟨a47, i47, k47⟩, B47⟩
  refine ⟨PySem.W.fnOf "law" "law" (defArgs sLaw) (defBody sLaw) (defScope sLaw) .none kV48 dc48 pm48 an48 cd48 ct48, fun s v => .of_eq rfl, fun base _ _ => ?_⟩
  have g0 : FnOk l.prog w K mg base CX0 1 f0 _ ["thing"] spWhole := ok_whole F0 T
  have g1 : FnOk l.prog w K mg base CX0 2 f1 _ ["thing", "bound"] spBelow := ok_below F1 D0 T
  have g2 : FnOk l.prog w K mg base CX0 3 f2 _ ["thing"] spWord := ok_word F2 D1 g1 Z
  have g5 : FnOk l.prog w K mg base (CXr l.prog w) 4 f5 _ ["word"] (spCWord x16) := ok_cword F5 D2 g2 Z
  have g3 : FnOk l.prog w K mg base CX0 4 f3 _ ["thing"] spEight := ok_eight F3 D2 g2 S I T
  have g4 : FnOk l.prog w K mg base (CXr l.prog w) 5 f4 _ ["pages"] spImage := ok_image F4 D3 g3 S I T
  have g26 : FnOk l.prog w K mg base (CXr l.prog w) 2 f26 _ ["self", "many"] (spInit xC x1) := ok_init F26 D0 g0 S T
  have g27 : FnOk l.prog w K mg base CX0 1 f27 _ ["self"] (spSize xC) := ok_size F27 S T
  have g36 : FnOk l.prog w K mg base CX0 1 f36 _ ["self"] (spFree xC) := ok_free F36 S T
  have g28 : FnOk l.prog w K mg base CX0 3 f28 _ ["self", "page"] (spHas xC) := ok_has F28 D1 g1 M27 g27 S
  have g34 : FnOk l.prog w K mg base (CXr l.prog w) 4 f34 _ ["self", "frame"] (spChk xC x1) := ok_chk F34 M28 g28 S
  have g35 : FnOk l.prog w K mg base CX0 4 f35 _ ["self", "frame"] (spOwn xC) := ok_own F35 M28 g28 S
  have g32 : FnOk l.prog w K mg base (CXr l.prog w) 5 f32 _ ["self", "frame"] (spMv xC x1 1) := ok_share F32 M34 g34 S
  have g33 : FnOk l.prog w K mg base (CXr l.prog w) 5 f33 _ ["self", "frame"] (spMv xC x1 (-1)) := ok_drop F33 M34 g34 S
  have g31 : FnOk l.prog w K mg base (CXr l.prog w) 2 f31 _ ["self"] (spTake xC x1) := ok_take F31 M36 g36 S
  have g25 : FnOk l.prog w K mg base (CXr l.prog w) 4 f25 _ ["self", "page"] (spCPage xC x0) := ok_cpage F25 M28 g28 S Z
  have g24 : FnOk l.prog w K mg base (CXr l.prog w) 5 f24 _ ["self", "page", "cell"] (spSpot xC x0 x2) := ok_spot F24 D1 g1 M25 g25 S Z
  have g29 : FnOk l.prog w K mg base CX0 1 f29 _ ["self", "page", "cell"] (spWordAt xC) := ok_wordat F29 S
  have g30 : FnOk l.prog w K mg base CX0 1 f30 _ ["self", "page", "cell", "word"] (spPutWord xC) := ok_putword F30 S
  have g21 : FnOk l.prog w K mg base (CXr l.prog w) 6 f21 _ ["self", "page", "cell"] (spRead xC x0 x2) := ok_read F21 M24 g24 M29 g29 S
  have g22 : FnOk l.prog w K mg base (CXr l.prog w) 6 f22 _ ["self", "page", "cell", "word"] (spWrite xC x0 x2 x16) := ok_write F22 M24 g24 D5 g5 M30 g30 S
  have g23 : FnOk l.prog w K mg base CX0 2 f23 _ ["self", "page"] (spWords xC) := ok_words F23 M29 g29 S T
  have g38 : FnOk l.prog w K mg base (CXr l.prog w) 7 f38 _ ["self", "words"] (spFill xC xP x1) := ok_fill F38 M31 g31 M22 g22 S SP T
  have g39 : FnOk l.prog w K mg base CX0 1 f39 _ ["self"] (spPSize xP) := ok_psize F39 SP T
  have g40 : FnOk l.prog w K mg base CX0 3 f40 _ ["self", "page"] (spFrame xP) := ok_frame F40 D1 g1 M39 g39 SP
  have g41 : FnOk l.prog w K mg base (CXr l.prog w) 4 f41 _ ["self", "page"] (spThere xP x0) := ok_there F41 M40 g40 SP Z
  have g42 : FnOk l.prog w K mg base (CXr l.prog w) 8 f42 _ ["self", "page"] (spAlone xC xP x0 x1) := ok_alone F42 M41 g41 M35 g35 M38 g38 M23 g23 M33 g33 S SP
  have g43 : FnOk l.prog w K mg base (CXr l.prog w) 6 f43 _ ["self", "page", "frame"] (spLead xC xP x0 x1) := ok_lead F43 M41 g41 M34 g34 M32 g32 M33 g33 S SP
  have g44 : FnOk l.prog w K mg base (CXr l.prog w) 6 f44 _ ["self", "page"] (spGive xC xP x0) := ok_give F44 M41 g41 M33 g33 S SP
  have g45 : FnOk l.prog w K mg base (CXr l.prog w) 3 f45 _ ["self", "page"] (spFresh xC xP x0 x1) := ok_fresh F45 D1 g1 M39 g39 M31 g31 S SP Z
  have g46 : FnOk l.prog w K mg base CX0 3 f46 _ ["self"] (spPages xC xP) := ok_pages F46 M23 g23 S SP
  have g37 : FnOk l.prog w K mg base (CXr l.prog w) 8 f37 _ ["self", "frames", "pages"] (spPInit xC xP) := ok_pinit F37 D4 g4 M38 g38 S SP
  have g47 : FnOk l.prog w K mg base CX0 1 f47 _ ["self"] (spPTold xP) := ok_ptold F47 SP I
  have h0 : FnOkQ l.prog w K mg base 1 f8 _ ["_law_e"] (spKinds x0 true false) := ok_kinds F8 T Kd0
  have h1 : FnOkQ l.prog w K mg base 1 f8 _ ["_law_e"] (spKinds x1 false true) := ok_kinds F8 T Kd1
  have g8 : FnOkQ l.prog w K mg base 1 f8 _ ["_law_e"] (spKinds2 x0 x1) := FnOkQ.or h0 h1
  have g6 : FnOk l.prog w K mg base CX0 1 f6 _ ["_law_script", "_law_k"] (spCell K) := ok_cell F6 T
  have g7 : FnOk l.prog w K mg base CX0 1 f7 _ ["_law_found"] spWhole := ok_lwhole F7 T
  have g9 : FnOk l.prog w K mg base (CXr l.prog w) 9 f9 _ ["_law_part", "_law_word", "_law_page", "_law_frame_here"] (spDo xC xP x0 x1) := ok_do F9 M42 g42 M43 g43 M44 g44 M45 g45 SP
  have g10 : FnOk l.prog w K mg base CX0 10 f10 _ ["_law_part", "_law_word", "_law_page", "_law_frame_here", "_law_due"] (spRef xC xP) := ok_ref F10 D9 g9 D8 g8 Kd0 Kd1
  have g11 : FnOk l.prog w K mg base CX0 1 f11 _ ["_law_cell", "_law_size"] spImg := ok_img F11 T
  have g12 : FnOk l.prog w K mg base CX0 1 f12 _ ["_law_rows"] spLeast := ok_least F12
  have g13 : FnOk l.prog w K mg base CX0 1 f13 _ ["_law_rows", "_law_frame_here"] spCount := ok_count F13
  have g14 : FnOk l.prog w K mg base CX0 2 f14 _ ["_law_rows", "_law_many"] spLFree := ok_lfree F14 D13 g13 T
  have g15 : FnOk l.prog w K mg base CX0 1 f15 _ ["_law_rows", "_law_cell"] spSome := ok_some F15 T
  have g16 : FnOk l.prog w K mg base CX0 2 f16 _ ["_law_found", "_law_due"] spLFrame := ok_lframe F16 D7 g7
  have g17 : FnOk l.prog w K mg base CX0 5 f17 _ ["_law_frames", "_law_part", "_law_rows", "_law_which", "_law_page", "_law_seen"] (spShows xC xP) := ok_shows F17 D16 g16 D13 g13 D14 g14 M47 g47 M39 g39 M35 g35 M40 g40 M36 g36 M27 g27 S SP T I
  have g18 : FnOk l.prog w K mg base CX0 11 f18 _ ["_law_part", "_law_cell", "_law_size"] (spNone xC xP) := ok_none F18 D10 g10 M40 g40 SP
  have g19 : FnOk l.prog w K mg base CX0 9 f19 _ ["_law_part", "_law_rows", "_law_which", "_law_page"] (spLAlone xC xP) := ok_lalone F19 D13 g13 D12 g12 M42 g42 SP T
  have g20 : FnOk l.prog w K mg base CX0 12 f20 _ ["_law_part", "_law_rows", "_law_which", "_law_page", "_law_cell"] (spDeed xC xP) := ok_deed F20 D18 g18 D12 g12 D10 g10 D19 g19 D15 g15 M45 g45 M44 g44 M43 g43 SP T
  exact ok_law F48 D6 g6 D11 g11 D12 g12 D17 g17 D20 g20 ⟨mk, a26, i26, kc⟩ (PySem.W.mg_of X G nC) B26 g26 ⟨pmk, a37, i37, pkc⟩ (PySem.W.mg_of X G nP) B37 g37 T
theorem walk {l : PySem.W.OpenLaw} {q : Program} {loose : List Str} {XP : (Str → Option Value) → Heap → Prop} {YP : World → Heap → Prop} {d : DefRec} {K : Params → PySem.W.Frag} (hn : l.most = some 63) (hdf : d.params.defaults = [])
    (hY : ∀ (w : World) (h : Heap), YP w h → (K w.params).In h)
    (F : ∀ (w : World) (mg : Str → Option Value) (fa : Addr) (h : Heap), (K w.params).In h → h.Ns mainGlobals mg → mg d.name = some (.ref fa) →
      ∃ fd : FuncData, (∀ (s : Shared) (u : Value), BindsTo s fd ⟨[u], []⟩ [("_law_script", u)]) ∧ ∀ base : Heap, (K w.params).In base → base.Ns mainGlobals mg → FnOk l.prog w (K w.params) mg base CX0 13 fa fd ["_law_script"] (spLaw (K w.params))) :
    PySem.W.WalkO q loose XP YP l.row.toRowW d [] (fun f vs => PySem.call f vs) :=
  L2.walk_of (n := 63) (k := 13) (x := "_law_script") (CX := fun _ => CX0) (sp := fun w => spLaw (K w.params)) hn (by decide) hdf ⟨rfl, by decide, by decide⟩ hY F (fun _ _ a ns hl _ hS => ⟨a, ns, rfl, hS, hl, fun _ => rfl⟩) fun _ _ _ _ _ z => z
end K44
open PySem PySem.W PyProof.Rows
set_option maxRecDepth 100000 in
set_option maxHeartbeats 0 in
theorem PySem.Challenge.cw_shadowpages_k44_parts_lead_holds : PySem.Challenge.rw_shadowpages_k44_parts_lead.Holds := by
  w_on; o_law
  refine holds_open (q := K44.vw) (loose := []) (Xt := fun s => xlAt K44.vw [] s && recOk [] s) (XP := XL K44.vw []) (Yf := Hook.obs (kHook K44.KF K44.asF K44.hF)) (Ya := Hook.val (kHook K44.KF K44.asF K44.hF)) (YP := Hook.says (kHook K44.KF K44.asF K44.hF)) (N := 12904) ?hl (Hook.of (kHook K44.KF K44.asF K44.hF)) (Hook.keeps (kHook K44.KF K44.asF K44.hF)) (fun s e => xl_of s (Bool.and_eq_true_iff.mp e).1) XL.keeps (by rfl) (by rfl) (by rfl) (fun s e => recFacts_of (Bool.and_eq_true_iff.mp e).2) (by rfl) (by first | assumption | decide +kernel) (by decide +kernel) ⟨rfl, rfl, rfl, rfl, rfl, by decide +kernel⟩ ?hw ?hc
  case hl => exact K44.hl
  case hw => w_witness2
  k_fill
  refine K44.walk (l := PySem.Challenge.rw_shadowpages_k44_parts_lead) rfl rfl (fun w h Y => PySem.W.kIn_of Y) ?F
  case F =>
    intro w mg fa h KX G hmg
    refine' K44.all_mk KX G hmg ?nC ?nP ?n0 ?n1 ?n2 ?n3 ?n4 ?n5 ?n6 ?n7 ?n8 ?n9 ?n10 ?n11 ?n12 ?n13 ?n14 ?n15 ?n16 ?nH ?a0 ?l0 ?c0 ?k0 ?a1 ?l1 ?c1 ?k1 ?a2 ?l2 ?c2 ?k2 ?a3 ?l3 ?c3 ?k3 ?a4 ?l4 ?c4 ?k4 ?a5 ?l5 ?c5 ?k5 ?a6 ?l6 ?c6 ?k6 ?a7 ?l7 ?c7 ?k7 ?a8 ?l8 ?c8 ?k8 ?a9 ?l9 ?c9 ?k9 ?a10 ?l10 ?c10 ?k10 ?a11 ?l11 ?c11 ?k11 ?a12 ?l12 ?c12 ?k12 ?a13 ?l13 ?c13 ?k13 ?a14 ?l14 ?c14 ?k14 ?a15 ?l15 ?c15 ?k15 ?a16 ?l16 ?c16 ?k16 ?a17 ?l17 ?c17 ?k17 ?a18 ?l18 ?c18 ?k18 ?a19 ?l19 ?c19 ?k19 ?a20 ?l20 ?c20 ?k20 ?a21 ?l21 ?c21 ?k21 ?a22 ?l22 ?c22 ?k22 ?a23 ?l23 ?c23 ?k23 ?a24 ?l24 ?c24 ?k24 ?a25 ?l25 ?c25 ?k25 ?a26 ?l26 ?c26 ?k26 ?a27 ?l27 ?c27 ?k27 ?a28 ?l28 ?c28 ?k28 ?a29 ?l29 ?c29 ?k29 ?a30 ?l30 ?c30 ?k30 ?a31 ?l31 ?c31 ?k31 ?a32 ?l32 ?c32 ?k32 ?a33 ?l33 ?c33 ?k33 ?a34 ?l34 ?c34 ?k34 ?a35 ?l35 ?c35 ?k35 ?a36 ?l36 ?c36 ?k36 ?a37 ?l37 ?c37 ?k37 ?a38 ?l38 ?c38 ?k38 ?a39 ?l39 ?c39 ?k39 ?a40 ?l40 ?c40 ?k40 ?a41 ?l41 ?c41 ?k41 ?a42 ?l42 ?c42 ?k42 ?a43 ?l43 ?c43 ?k43 ?a44 ?l44 ?c44 ?k44 ?a45 ?l45 ?c45 ?k45 ?a46 ?l46 ?c46 ?k46 ?a47 ?l47 ?c47 ?k47 ?a48 ?l48 ?c48 ?k48 ?v0 ?v1 ?v2 ?v3 ?z_isinstance ?z_int ?z_bool ?z_len ?z_range ?z_list ?z_all ?z_ValueError ?i21 ?i22 ?i23 ?i24 ?i25 ?i26 ?i27 ?i28 ?i29 ?i30 ?i31 ?i32 ?i33 ?i34 ?i35 ?i36 ?i37 ?i38 ?i39 ?i40 ?i41 ?i42 ?i43 ?i44 ?i45 ?i46 ?i47 ?pg ?hdi ?po ?sa ?mk ?kc ?ppg ?phdi ?ppo ?psa ?pmk ?pkc ?nh ?ns ?np ?nfl ?ngo ?d0_e1 ?d0_e2 ?d0_e3 ?d0_e4 ?d0_e5 ?d0_e6 ?d0_e7 ?d0_t1 ?d0_t3 ?d0_t4 ?d0_ex ?d0_xi ?u0_1 ?u0_2 ?u0_3 ?u0_4 ?u0_5 ?u0_6 ?u0_7 ?u0_8 ?u0_9 ?u0_10 ?u0_11 ?u0_12 ?u0_13 ?u0_14 ?u0_15 ?u0_16 ?d1_e1 ?d1_e2 ?d1_e3 ?d1_e4 ?d1_e5 ?d1_e6 ?d1_e7 ?d1_t1 ?d1_t3 ?d1_t4 ?d1_ex ?d1_xi ?u1_0 ?u1_2 ?u1_3 ?u1_4 ?u1_5 ?u1_6 ?u1_7 ?u1_8 ?u1_9 ?u1_10 ?u1_11 ?u1_12 ?u1_13 ?u1_14 ?u1_15 ?u1_16 ?xi2 ?xi4 ?xi16
    (case nC => k_is)
    (case nP => k_is)
    (case n0 => k_is)
    (case n1 => k_is)
    (case n2 => k_is)
    (case n3 => k_is)
    (case n4 => k_is)
    (case n5 => k_is)
    (case n6 => k_is)
    (case n7 => k_is)
    (case n8 => k_is)
    (case n9 => k_is)
    (case n10 => k_is)
    (case n11 => k_is)
    (case n12 => k_is)
    (case n13 => k_is)
    (case n14 => k_is)
    (case n15 => k_is)
    (case n16 => k_is)
    (case nH => k_is)
    (case a0 => k_is)
    (case l0 => k_is)
    (case c0 => k_is)
    (case k0 => k_is)
    (case a1 => k_is)
    (case l1 => k_is)
    (case c1 => k_is)
    (case k1 => k_is)
    (case a2 => k_is)
    (case l2 => k_is)
    (case c2 => k_is)
    (case k2 => k_is)
    (case a3 => k_is)
    (case l3 => k_is)
    (case c3 => k_is)
    (case k3 => k_is)
    (case a4 => k_is)
    (case l4 => k_is)
    (case c4 => k_is)
    (case k4 => k_is)
    (case a5 => k_is)
    (case l5 => k_is)
    (case c5 => k_is)
    (case k5 => k_is)
    (case a6 => k_is)
    (case l6 => k_is)
    (case c6 => k_is)
    (case k6 => k_is)
    (case a7 => k_is)
    (case l7 => k_is)
    (case c7 => k_is)
    (case k7 => k_is)
    (case a8 => k_is)
    (case l8 => k_is)
    (case c8 => k_is)
    (case k8 => k_is)
    (case a9 => k_is)
    (case l9 => k_is)
    (case c9 => k_is)
    (case k9 => k_is)
    (case a10 => k_is)
    (case l10 => k_is)
    (case c10 => k_is)
    (case k10 => k_is)
    (case a11 => k_is)
    (case l11 => k_is)
    (case c11 => k_is)
    (case k11 => k_is)
    (case a12 => k_is)
    (case l12 => k_is)
    (case c12 => k_is)
    (case k12 => k_is)
    (case a13 => k_is)
    (case l13 => k_is)
    (case c13 => k_is)
    (case k13 => k_is)
    (case a14 => k_is)
    (case l14 => k_is)
    (case c14 => k_is)
    (case k14 => k_is)
    (case a15 => k_is)
    (case l15 => k_is)
    (case c15 => k_is)
    (case k15 => k_is)
    (case a16 => k_is)
    (case l16 => k_is)
    (case c16 => k_is)
    (case k16 => k_is)
    (case a17 => k_is)
    (case l17 => k_is)
    (case c17 => k_is)
    (case k17 => k_is)
    (case a18 => k_is)
    (case l18 => k_is)
    (case c18 => k_is)
    (case k18 => k_is)
    (case a19 => k_is)
    (case l19 => k_is)
    (case c19 => k_is)
    (case k19 => k_is)
    (case a20 => k_is)
    (case l20 => k_is)
    (case c20 => k_is)
    (case k20 => k_is)
    (case a21 => k_is)
    (case l21 => k_is)
    (case c21 => k_is)
    (case k21 => k_is)
    (case a22 => k_is)
    (case l22 => k_is)
    (case c22 => k_is)
    (case k22 => k_is)
    (case a23 => k_is)
    (case l23 => k_is)
    (case c23 => k_is)
    (case k23 => k_is)
    (case a24 => k_is)
    (case l24 => k_is)
    (case c24 => k_is)
    (case k24 => k_is)
    (case a25 => k_is)
    (case l25 => k_is)
    (case c25 => k_is)
    (case k25 => k_is)
    (case a26 => k_is)
    (case l26 => k_is)
    (case c26 => k_is)
    (case k26 => k_is)
    (case a27 => k_is)
    (case l27 => k_is)
    (case c27 => k_is)
    (case k27 => k_is)
    (case a28 => k_is)
    (case l28 => k_is)
    (case c28 => k_is)
    (case k28 => k_is)
    (case a29 => k_is)
    (case l29 => k_is)
    (case c29 => k_is)
    (case k29 => k_is)
    (case a30 => k_is)
    (case l30 => k_is)
    (case c30 => k_is)
    (case k30 => k_is)
    (case a31 => k_is)
    (case l31 => k_is)
    (case c31 => k_is)
    (case k31 => k_is)
    (case a32 => k_is)
    (case l32 => k_is)
    (case c32 => k_is)
    (case k32 => k_is)
    (case a33 => k_is)
    (case l33 => k_is)
    (case c33 => k_is)
    (case k33 => k_is)
    (case a34 => k_is)
    (case l34 => k_is)
    (case c34 => k_is)
    (case k34 => k_is)
    (case a35 => k_is)
    (case l35 => k_is)
    (case c35 => k_is)
    (case k35 => k_is)
    (case a36 => k_is)
    (case l36 => k_is)
    (case c36 => k_is)
    (case k36 => k_is)
    (case a37 => k_is)
    (case l37 => k_is)
    (case c37 => k_is)
    (case k37 => k_is)
    (case a38 => k_is)
    (case l38 => k_is)
    (case c38 => k_is)
    (case k38 => k_is)
    (case a39 => k_is)
    (case l39 => k_is)
    (case c39 => k_is)
    (case k39 => k_is)
    (case a40 => k_is)
    (case l40 => k_is)
    (case c40 => k_is)
    (case k40 => k_is)
    (case a41 => k_is)
    (case l41 => k_is)
    (case c41 => k_is)
    (case k41 => k_is)
    (case a42 => k_is)
    (case l42 => k_is)
    (case c42 => k_is)
    (case k42 => k_is)
    (case a43 => k_is)
    (case l43 => k_is)
    (case c43 => k_is)
    (case k43 => k_is)
    (case a44 => k_is)
    (case l44 => k_is)
    (case c44 => k_is)
    (case k44 => k_is)
    (case a45 => k_is)
    (case l45 => k_is)
    (case c45 => k_is)
    (case k45 => k_is)
    (case a46 => k_is)
    (case l46 => k_is)
    (case c46 => k_is)
    (case k46 => k_is)
    (case a47 => k_is)
    (case l47 => k_is)
    (case c47 => k_is)
    (case k47 => k_is)
    (case a48 => k_is)
    (case l48 => k_is)
    (case c48 => k_is)
    (case k48 => k_is)
    (case v0 => k_is)
    (case v1 => k_is)
    (case v2 => k_is)
    (case v3 => k_is)
    (case z_isinstance => k_is)
    (case z_int => k_is)
    (case z_bool => k_is)
    (case z_len => k_is)
    (case z_range => k_is)
    (case z_list => k_is)
    (case z_all => k_is)
    (case z_ValueError => k_is)
    (case i21 => k_is)
    (case i22 => k_is)
    (case i23 => k_is)
    (case i24 => k_is)
    (case i25 => k_is)
    (case i26 => k_is)
    (case i27 => k_is)
    (case i28 => k_is)
    (case i29 => k_is)
    (case i30 => k_is)
    (case i31 => k_is)
    (case i32 => k_is)
    (case i33 => k_is)
    (case i34 => k_is)
    (case i35 => k_is)
    (case i36 => k_is)
    (case i37 => k_is)
    (case i38 => k_is)
    (case i39 => k_is)
    (case i40 => k_is)
    (case i41 => k_is)
    (case i42 => k_is)
    (case i43 => k_is)
    (case i44 => k_is)
    (case i45 => k_is)
    (case i46 => k_is)
    (case i47 => k_is)
    (case pg => k_is)
    (case hdi => k_is)
    (case po => k_is)
    (case sa => k_is)
    (case mk => k_is)
    (case kc => k_is)
    (case ppg => k_is)
    (case phdi => k_is)
    (case ppo => k_is)
    (case psa => k_is)
    (case pmk => k_is)
    (case pkc => k_is)
    (case nh => k_is)
    (case ns => k_is)
    (case np => k_is)
    (case nfl => k_is)
    (case ngo => k_is)
    (case d0_e1 => k_is)
    (case d0_e2 => k_is)
    (case d0_e3 => k_is)
    (case d0_e4 => k_is)
    (case d0_e5 => k_is)
    (case d0_e6 => k_is)
    (case d0_e7 => k_is)
    (case d0_t1 => k_is)
    (case d0_t3 => k_is)
    (case d0_t4 => k_is)
    (case d0_ex => kernel_rfl)
    (case d0_xi => kernel_rfl)
    (case u0_1 => kin_no)
    (case u0_2 => kin_no)
    (case u0_3 => kin_no)
    (case u0_4 => kin_no)
    (case u0_5 => kin_no)
    (case u0_6 => kin_no)
    (case u0_7 => kin_no)
    (case u0_8 => kin_no)
    (case u0_9 => kin_no)
    (case u0_10 => kin_no)
    (case u0_11 => kin_no)
    (case u0_12 => kin_no)
    (case u0_13 => kin_no)
    (case u0_14 => kin_no)
    (case u0_15 => kin_no)
    (case u0_16 => kin_no)
    (case d1_e1 => k_is)
    (case d1_e2 => k_is)
    (case d1_e3 => k_is)
    (case d1_e4 => k_is)
    (case d1_e5 => k_is)
    (case d1_e6 => k_is)
    (case d1_e7 => k_is)
    (case d1_t1 => k_is)
    (case d1_t3 => k_is)
    (case d1_t4 => k_is)
    (case d1_ex => kernel_rfl)
    (case d1_xi => kernel_rfl)
    (case u1_0 => kin_no)
    (case u1_2 => kin_no)
    (case u1_3 => kin_no)
    (case u1_4 => kin_no)
    (case u1_5 => kin_no)
    (case u1_6 => kin_no)
    (case u1_7 => kin_no)
    (case u1_8 => kin_no)
    (case u1_9 => kin_no)
    (case u1_10 => kin_no)
    (case u1_11 => kin_no)
    (case u1_12 => kin_no)
    (case u1_13 => kin_no)
    (case u1_14 => kin_no)
    (case u1_15 => kin_no)
    (case u1_16 => kin_no)
    (case xi2 => kernel_rfl)
    (case xi4 => kernel_rfl)
    (case xi16 => kernel_rfl)

end
