import PyProof.Rows.All
import Wide.All
import OpenK.AllK
import Wide.FinOn
import Lean
import PyProof.EqAt
import PyProof.EqKinds
import PyProof.TupleCall
import PySem.Challenge.RW_shadowpages_k28_whole_plain
set_option Elab.async false
set_option linter.all false
set_option maxRecDepth 100000
set_option maxHeartbeats 4000000
section
namespace L2
open PySem
def Ab1 (s:Stmt) (j:Nat):Stmt:=match s with
 | .ClassDef _ _ _ body _ _ _ _ _ _ _=>body.getD j (.Pass ⟨0,0,0,0⟩)
 | _=>.Pass ⟨0,0,0,0⟩
def Ab4 (s:Stmt):Arguments:=match s with
 | .FunctionDef _ a _ _ _ _ _ _ _ _=>a
 | _=>{ posonlyargs:=[],args:=[],vararg:=none,kwonlyargs:=[],kw_defaults:=[],kwarg:=none,defaults:=[] }
def Aa9 (s:Stmt):List Stmt:=match s with
 | .FunctionDef _ _ b _ _ _ _ _ _ _=>b
 | _=>[]
def Aa1 (s:Stmt):Scope:=match s with
 | .FunctionDef _ _ _ _ _ _ sc _ _ _=>sc
 | _=>{ kind:=.function,names:=[],isGenerator:=false,isCoroutine:=false }
end L2
end
section
namespace HT1
open PySem PySem.W PyProof.Rows
def Aw5 (tb:String->Option Builtin) (p:Program) (w:World) (n₀:Nat) (ann:Option Value):Nat->SharedT->Thread->Option SharedT
 | 0,_,_=>none
 | n+1,s,t=>match through t with
  | true=>some s
  | false=>match stepOk n₀ ann t with
   | false=>none
   | true=>match stepT (denote tb) p w s t with
    | some (s',t')=>Aw5 tb p w n₀ ann n s' t'
    | none=>none
theorem Az7 {tb:String->Option Builtin} {p:Program} {w:World} {n₀:Nat} {ann:Option Value}:∀ {n:Nat} {s s':SharedT} {t:Thread},Aw5 tb p w n₀ ann n s t=some s'->topRun tb p w n₀ ann n s.abs t=some s'.abs
 | 0,_,_,_,h=>by cases h
 | n+1,s,s',t,h=>by
  unfold Aw5 at h
  unfold topRun
  cases ht:through t with
  | true=>rw [ht] at h; cases h; rfl
  | false =>
   rw [ht] at h
   cases hk:stepOk n₀ ann t with
   | false=>rw [hk] at h; cases h
   | true =>
    rw [hk] at h
    cases hs:stepT (denote tb) p w s t with
    | none=>rw [hs] at h; cases h
    | some r=>obtain ⟨s₂,t₂⟩:=r; rw [hs] at h; rw [stepT_spec hs]; exact Az7 h
def ofL:List Obj->Nat->BT->BT
 | [],_,t=>t
 | o::l,n,t=>ofL l (n+1) (t.ins n o)
noncomputable def Df1 (P:Params):BT:=ofL (boot_heap P).objs.toList 0 .nil
def Df2:Nat:=11
noncomputable def Db0 (w:World) (os:OsState):SharedT:=⟨Df1 w.params,Df2,(boot_heap w.params).life,Array.mk [],boot_drawn,boot_toks,os⟩
theorem Cb3 (w:World):((boot_heap w.params).isNs mainGlobals && (Array.mk []:Array GenState).size == 0,(boot_heap w.params).objs.size,(boot_heap w.params).nsMap mainGlobals "__annotations__")=(true,11,some (.ref 6)):=by kernel_rfl
theorem Cj9 (w:World) (os:OsState):(Db0 w os).abs=⟨boot_heap w.params,Array.mk [],boot_drawn,boot_toks,os⟩:=by kernel_rfl
noncomputable def runS (p:Program) (N:Nat) (w:World) (os:OsState):=Aw5 treeTable p w 11 (some (.ref 6)) N (Db0 w os) (topStub p)
noncomputable def lookA (p:Program) (N:Nat) (w:World) (os:OsState):=(runS p N w os).map λs=>(staticsOk (importedModules p.main.body) (boot_heap w.params) s.abs.heap && namesBound p s.abs.heap && gensDone s.abs && laidKept (boot_heap w.params) s.abs.heap)
noncomputable def lookB (p q:Program) (loose:List Str) (Xt:Shared->Bool) (N:Nat) (g0:Bool) (w:World) (os:OsState):=(runS p N w os).map λs=>openSeen q loose (importedModules p.main.body) Xt g0 s.abs
noncomputable def lookC {α:Type} (p:Program) (Yf:Shared->α) (N:Nat) (w:World) (os:OsState):=(runS p N w os).map λs=>Yf s.abs
theorem left_three {p q:Program} {loose:List Str} {Xt:Shared->Bool} {α:Type} {Yf:Shared->α} {Ya:World->α} {N:Nat} {g0:Bool}
  (e:opening p=plainProg p.main.scope.names) (hN:Nat.ble 600 N=true) (f:∀ s,fenceModules? p s=some s)
  (ha:∀ w:World,(λos=>lookA p N w os)=λ_=>some true) (hb:∀ w:World,(λos=>lookB p q loose Xt N g0 w os)=λ_=>some (openGood q loose)) (hc:∀ w:World,(λos=>lookC p Yf N w os)=λ_=>some (Ya w)):LeftO p q loose Xt Yf Ya N g0:=λw=>by
 obtain ⟨⟨h,gs,d,k,os⟩,eo,e'⟩:=Option.map_eq_some_iff.mp (boot_open e hN f w)
 obtain ⟨rfl,rfl,rfl,rfl⟩:h=boot_heap w.params/\gs=Array.mk []/\d=boot_drawn/\k=boot_toks:=by simpa using e'
 obtain ⟨z1,z2,z3⟩:_/\_/\_:=by simpa only [Prod.mk.injEq] using Cb3 w
 obtain ⟨s1,r1,l1⟩:=Option.map_eq_some_iff.mp (congrFun (ha w) os)
 obtain ⟨s2,r2,l2⟩:=Option.map_eq_some_iff.mp (congrFun (hb w) os)
 obtain ⟨s3,r3,l3⟩:=Option.map_eq_some_iff.mp (congrFun (hc w) os)
 cases r1.symm.trans r2
 cases r1.symm.trans r3
 have r:=Az7 r1
 rw [Cj9] at r
 have t:topFrom treeTable p w N ⟨boot_heap w.params,Array.mk [],boot_drawn,boot_toks,os⟩=some s1.abs:=by
  unfold topFrom
  dsimp only
  rw [z1,z2,z3,r]
  show (match staticsOk (importedModules p.main.body) (boot_heap w.params) s1.abs.heap && namesBound p s1.abs.heap && gensDone s1.abs && laidKept (boot_heap w.params) s1.abs.heap with | true=>_ | false=>_)=_
  rw [l1]
 unfold openEnds
 rw [eo]
 show (topFrom treeTable p w N _).map _=_
 rw [t]
 exact congrArg some (Prod.ext l2 l3)
end HT1
noncomputable def PySem.W.Fast.tw14598715356260435866:=@PySem.W.boot_o_0
theorem PySem.W.Fast.te14598715356260435866:PySem.W.boot_o_0=PySem.W.Fast.tw14598715356260435866:=rfl
lay_quick HT1.lookA HT1.lookB HT1.lookC PySem.W.xlAt PySem.W.recOk PySem.W.openGood
end
section
noncomputable def PySem.W.Fast.tw14194947006343718759:PySem.Program:=PySem.Challenge.pw_shadowpages_k28_whole_plain
theorem PySem.W.Fast.te14194947006343718759:PySem.Challenge.pw_shadowpages_k28_whole_plain=PySem.W.Fast.tw14194947006343718759:=rfl
open PySem PySem.W PyProof.Rows
namespace K28
open PySem L2
def top (i:Nat):Stmt:=PySem.Challenge.pw_shadowpages_k28_whole_plain.main.body.getD i (.Pass ⟨0,0,0,0⟩)
def kr (P:Params) (x:Str) (t:Tok) (a:Addr):DictEntry:=⟨PyData.keyHash P x,.str x t,.ref a⟩
def ki (P:Params) (x:Str) (t:Tok) (i:Int) (u:Tok):DictEntry:=⟨PyData.keyHash P x,.str x t,.int i u⟩
def kn (P:Params) (x:Str) (t:Tok):DictEntry:=⟨PyData.keyHash P x,.str x t,.none⟩
def oC (x:Str) (a:Tok) (y:Str) (b c:Tok) (i j k l m:Int) (r:Addr) (o:Int) (u v w z:Addr) (p q:Int) (d:Tok):Data:=.fields #[.str x a,.str y b,.str "/claim/cut.py" c,.int i 0,.int j 0,.int k 0,.int l 0,.int m 0,.ref r,.bool true,.int o 0,.ref u,.none,.ref v,.ref w,.ref z,.int p 0,.int q 0,.str "/claim/cut.py" d]
def oF (x y:Str) (s:Stmt) (m:Str) (t:Tok) (r:Addr):FuncData:=⟨x,y,Ab4 s,.stmts (Aa9 s),Aa1 s,3,[],.none,.none,.none,.str m t,none,.ref r,.none,0⟩
def KF (P:Params):PySem.W.Frag :=
 (nat_lit 2,⟨.none,none,.dict #[] 0,#[]⟩) ::
 (nat_lit 3,⟨.type "dict",none,(.dict #[⟨(PyData.keyHash P "__name__"),.str "__name__" 165,.str "law_shadowpages_k28_whole_plain" 1011⟩,kn P "__doc__" 166,kn P "__package__" 167,⟨(PyData.keyHash P "__loader__"),.str "__loader__" 168,.builtin "__main__.__loader__#opaque"⟩,kn P "__spec__" 169,kr P "__annotations__" 170 6,kr P "__builtins__" 171 4,⟨(PyData.keyHash P "__file__"),.str "__file__" 173,.str "/claim/cut.py" 172⟩,kn P "__cached__" 174,ki P "WORDS" 188 281474976710656 187,ki P "MARKS" 190 256 189,ki P "PARTS" 192 8 191,ki P "PLACES" 194 512 193,ki P "CELLS" 196 8 195,ki P "MOST_PAGES" 198 24 197,ki P "SEATS" 200 12 199,kr P "HouseError" 220 24,kr P "NoWord" 236 37,kr P "NoPlace" 252 49,kr P "NoPage" 268 61,kr P "NoImage" 284 73,kr P "NoShelf" 300 85,kr P "Fault" 329 104,kr P "is_whole" 338 113,kr P "is_below" 346 120,kr P "is_word" 353 127,kr P "parts_of" 363 134,kr P "number_of" 370 141,kr P "Shelf" 442 191,kr P "is_eight_words" 450 200,kr P "check_image" 458 207,kr P "check_word" 465 214,kr P "Store" 561 285,kr P "Memory" 641 351,ki P "PRESENT" 645 1 644,ki P "WRITABLE" 647 2 646,ki P "KERNEL" 649 4 648,ki P "TOUCHED" 651 8 650,ki P "SOILED" 653 16 652,kr P "page_of" 660 360,kr P "has" 668 367,kr P "put" 676 374,kr P "look" 694 381,kr P "check_row" 706 388,kr P "rights_of" 714 395,kr P "mark" 723 402,kr P "put_marks" 733 409,kr P "lets" 742 416,kr P "Ways" 925 557,kr P "Plain" 1010 625,kr P "_law_cell_at" 1020 634,kr P "_law_whole" 1027 641,kr P "_law_own" 1037 648,kr P "_law_row_by" 1047 655,kr P "_law_pages" 1062 662,kr P "_law_copy" 1071 669,kr P "_law_place" 1079 676,kr P "_law_deed" 1092 683,kr P "_law_call" 1104 690,kr P "_law_do" 1115 697,kr P "_law_alike" 1123 704,kr P "_law_is_image" 1133 711,kr P "_law_is_shelf" 1143 718,kr P "_law_there" 1151 725,kr P "_law_walk" 1168 732,kr P "_law_marked" 1180 739,kr P "_law_kept" 1190 746,kr P "_law_reached" 1205 753,kr P "_law_at_place" 1218 760,kr P "_law_due" 1224 765,kr P "_law_step" 1237 772,kr P "law" 1243 777] 72),#[]⟩) ::
 (nat_lit 15,⟨.type "tuple",none,.seq #[.type "ValueError"] 0,#[]⟩) ::
 (nat_lit 22,⟨.type "tuple",none,.seq #[] 0,#[]⟩) ::
 (nat_lit 23,⟨.type "dict",none,(.dict #[⟨(PyData.keyHash P "__module__"),.str "__module__" 210,.str "shadowpages.errors" 201⟩,ki P "__firstlineno__" 214 9 213,kr P "__static_attributes__" 215 22,kr P "__weakref__" 217 25,kn P "__doc__" 218] 3),#[]⟩) ::
 (nat_lit 24,⟨.type "type",none,(.cls ⟨"HouseError",[.type "ValueError"],[.ref 24,.type "ValueError",.type "Exception",.type "BaseException",.type "object"],23,"HouseError",true,[],[.ref 37,.ref 49,.ref 61,.ref 73,.ref 85,.ref 104],false,none,false⟩),#[(some (.ref 15)),none,(some (.str "HouseError" 203)),(some (.str "HouseError" 211)),(some (.builtin "ValueError.__new__")),(some (.bool true))]⟩) ::
 (nat_lit 25,⟨.type "getset_descriptor",none,.fields #[.str "__weakref__" 216,.ref 24,.builtin "ExceptionGroup.__weakref__",.none],#[]⟩) ::
 (nat_lit 28,⟨.type "tuple",none,.seq #[.ref 24] 0,#[]⟩) ::
 (nat_lit 35,⟨.type "tuple",none,.seq #[] 0,#[]⟩) ::
 (nat_lit 36,⟨.type "dict",none,(.dict #[⟨(PyData.keyHash P "__module__"),.str "__module__" 228,.str "shadowpages.errors" 201⟩,ki P "__firstlineno__" 232 11 231,kr P "__static_attributes__" 233 35,kn P "__doc__" 234] 2),#[]⟩) ::
 (nat_lit 37,⟨.type "type",none,(.cls ⟨"NoWord",[.ref 24],[.ref 37,.ref 24,.type "ValueError",.type "Exception",.type "BaseException",.type "object"],36,"NoWord",true,[],[],false,none,false⟩),#[(some (.ref 28)),none,(some (.str "NoWord" 221)),(some (.str "NoWord" 229)),(some (.builtin "ValueError.__new__")),(some (.bool true))]⟩) ::
 (nat_lit 40,⟨.type "tuple",none,.seq #[.ref 24] 0,#[]⟩) ::
 (nat_lit 47,⟨.type "tuple",none,.seq #[] 0,#[]⟩) ::
 (nat_lit 48,⟨.type "dict",none,(.dict #[⟨(PyData.keyHash P "__module__"),.str "__module__" 244,.str "shadowpages.errors" 201⟩,ki P "__firstlineno__" 248 13 247,kr P "__static_attributes__" 249 47,kn P "__doc__" 250] 2),#[]⟩) ::
 (nat_lit 49,⟨.type "type",none,(.cls ⟨"NoPlace",[.ref 24],[.ref 49,.ref 24,.type "ValueError",.type "Exception",.type "BaseException",.type "object"],48,"NoPlace",true,[],[],false,none,false⟩),#[(some (.ref 40)),none,(some (.str "NoPlace" 237)),(some (.str "NoPlace" 245)),(some (.builtin "ValueError.__new__")),(some (.bool true))]⟩) ::
 (nat_lit 52,⟨.type "tuple",none,.seq #[.ref 24] 0,#[]⟩) ::
 (nat_lit 59,⟨.type "tuple",none,.seq #[] 0,#[]⟩) ::
 (nat_lit 60,⟨.type "dict",none,(.dict #[⟨(PyData.keyHash P "__module__"),.str "__module__" 260,.str "shadowpages.errors" 201⟩,ki P "__firstlineno__" 264 15 263,kr P "__static_attributes__" 265 59,kn P "__doc__" 266] 2),#[]⟩) ::
 (nat_lit 61,⟨.type "type",none,(.cls ⟨"NoPage",[.ref 24],[.ref 61,.ref 24,.type "ValueError",.type "Exception",.type "BaseException",.type "object"],60,"NoPage",true,[],[],false,none,false⟩),#[(some (.ref 52)),none,(some (.str "NoPage" 253)),(some (.str "NoPage" 261)),(some (.builtin "ValueError.__new__")),(some (.bool true))]⟩) ::
 (nat_lit 64,⟨.type "tuple",none,.seq #[.ref 24] 0,#[]⟩) ::
 (nat_lit 71,⟨.type "tuple",none,.seq #[] 0,#[]⟩) ::
 (nat_lit 72,⟨.type "dict",none,(.dict #[⟨(PyData.keyHash P "__module__"),.str "__module__" 276,.str "shadowpages.errors" 201⟩,ki P "__firstlineno__" 280 17 279,kr P "__static_attributes__" 281 71,kn P "__doc__" 282] 2),#[]⟩) ::
 (nat_lit 73,⟨.type "type",none,(.cls ⟨"NoImage",[.ref 24],[.ref 73,.ref 24,.type "ValueError",.type "Exception",.type "BaseException",.type "object"],72,"NoImage",true,[],[],false,none,false⟩),#[(some (.ref 64)),none,(some (.str "NoImage" 269)),(some (.str "NoImage" 277)),(some (.builtin "ValueError.__new__")),(some (.bool true))]⟩) ::
 (nat_lit 76,⟨.type "tuple",none,.seq #[.ref 24] 0,#[]⟩) ::
 (nat_lit 83,⟨.type "tuple",none,.seq #[] 0,#[]⟩) ::
 (nat_lit 84,⟨.type "dict",none,(.dict #[⟨(PyData.keyHash P "__module__"),.str "__module__" 292,.str "shadowpages.errors" 201⟩,ki P "__firstlineno__" 296 19 295,kr P "__static_attributes__" 297 83,kn P "__doc__" 298] 2),#[]⟩) ::
 (nat_lit 85,⟨.type "type",none,(.cls ⟨"NoShelf",[.ref 24],[.ref 85,.ref 24,.type "ValueError",.type "Exception",.type "BaseException",.type "object"],84,"NoShelf",true,[],[],false,none,false⟩),#[(some (.ref 76)),none,(some (.str "NoShelf" 285)),(some (.str "NoShelf" 293)),(some (.builtin "ValueError.__new__")),(some (.bool true))]⟩) ::
 (nat_lit 88,⟨.type "tuple",none,.seq #[.ref 24] 0,#[]⟩) ::
 (nat_lit 95,⟨.type "tuple",none,.seq #[] 0,#[]⟩) ::
 (nat_lit 97,⟨.type "tuple",none,.seq #[.str "self" 316,.str "kind" 317,.str "place" 318,.str "level" 319] 0,#[]⟩) ::
 (nat_lit 98,⟨.type "tuple",none,.seq #[] 0,#[]⟩) ::
 (nat_lit 100,⟨.type "code",none,oC "__init__" 313 "Fault.__init__" 314 315 23 4 0 0 3 95 181 96 97 98 99 320 23 321,#[]⟩) ::
 (nat_lit 101,⟨.type "function",none,.func (oF "__init__" "Fault.__init__" (Ab1 (top 14) 0) "shadowpages.errors" 201 100),#[]⟩) ::
 (nat_lit 102,⟨.type "tuple",none,.seq #[.str "kind" 323,.str "level" 324,.str "place" 325] 0,#[]⟩) ::
 (nat_lit 103,⟨.type "dict",none,(.dict #[⟨(PyData.keyHash P "__module__"),.str "__module__" 308,.str "shadowpages.errors" 201⟩,ki P "__firstlineno__" 312 21 311,kr P "__init__" 322 101,kr P "__static_attributes__" 326 102,kn P "__doc__" 327] 2),#[]⟩) ::
 (nat_lit 104,⟨.type "type",none,(.cls ⟨"Fault",[.ref 24],[.ref 104,.ref 24,.type "ValueError",.type "Exception",.type "BaseException",.type "object"],103,"Fault",true,[],[],false,none,false⟩),#[(some (.ref 88)),none,(some (.str "Fault" 301)),(some (.str "Fault" 309)),(some (.builtin "ValueError.__new__")),(some (.bool true))]⟩) ::
 (nat_lit 107,⟨.type "tuple",none,.seq #[] 0,#[]⟩) ::
 (nat_lit 109,⟨.type "tuple",none,.seq #[.str "thing" 335] 0,#[]⟩) ::
 (nat_lit 110,⟨.type "tuple",none,.seq #[] 0,#[]⟩) ::
 (nat_lit 112,⟨.type "code",none,oC "is_whole" 332 "is_whole" 333 334 28 1 0 0 3 107 181 108 109 110 111 336 28 337,#[]⟩) ::
 (nat_lit 113,⟨.type "function",none,.func (oF "is_whole" "is_whole" (top 16) "shadowpages.words" 330 112),#[]⟩) ::
 (nat_lit 114,⟨.type "tuple",none,.seq #[] 0,#[]⟩) ::
 (nat_lit 116,⟨.type "tuple",none,.seq #[.str "thing" 342,.str "bound" 343] 0,#[]⟩) ::
 (nat_lit 117,⟨.type "tuple",none,.seq #[] 0,#[]⟩) ::
 (nat_lit 119,⟨.type "code",none,oC "is_below" 339 "is_below" 340 341 30 2 0 0 3 114 181 115 116 117 118 344 30 345,#[]⟩) ::
 (nat_lit 120,⟨.type "function",none,.func (oF "is_below" "is_below" (top 17) "shadowpages.words" 330 119),#[]⟩) ::
 (nat_lit 121,⟨.type "tuple",none,.seq #[] 0,#[]⟩) ::
 (nat_lit 123,⟨.type "tuple",none,.seq #[.str "thing" 350] 0,#[]⟩) ::
 (nat_lit 124,⟨.type "tuple",none,.seq #[] 0,#[]⟩) ::
 (nat_lit 126,⟨.type "code",none,oC "is_word" 347 "is_word" 348 349 32 1 0 0 3 121 181 122 123 124 125 351 32 352,#[]⟩) ::
 (nat_lit 127,⟨.type "function",none,.func (oF "is_word" "is_word" (top 18) "shadowpages.words" 330 126),#[]⟩) ::
 (nat_lit 128,⟨.type "tuple",none,.seq #[] 0,#[]⟩) ::
 (nat_lit 130,⟨.type "tuple",none,.seq #[.str "place" 359,.str "number" 360] 0,#[]⟩) ::
 (nat_lit 131,⟨.type "tuple",none,.seq #[] 0,#[]⟩) ::
 (nat_lit 133,⟨.type "code",none,oC "parts_of" 356 "parts_of" 357 358 35 1 0 0 3 128 181 129 130 131 132 361 35 362,#[]⟩) ::
 (nat_lit 134,⟨.type "function",none,.func (oF "parts_of" "parts_of" (top 20) "shadowpages.places" 354 133),#[]⟩) ::
 (nat_lit 135,⟨.type "tuple",none,.seq #[] 0,#[]⟩) ::
 (nat_lit 137,⟨.type "tuple",none,.seq #[.str "place" 367] 0,#[]⟩) ::
 (nat_lit 138,⟨.type "tuple",none,.seq #[] 0,#[]⟩) ::
 (nat_lit 140,⟨.type "code",none,oC "number_of" 364 "number_of" 365 366 38 1 0 0 3 135 181 136 137 138 139 368 38 369,#[]⟩) ::
 (nat_lit 141,⟨.type "function",none,.func (oF "number_of" "number_of" (top 21) "shadowpages.places" 354 140),#[]⟩) ::
 (nat_lit 149,⟨.type "tuple",none,.seq #[] 0,#[]⟩) ::
 (nat_lit 151,⟨.type "tuple",none,.seq #[.str "self" 388,.str "most" 389] 0,#[]⟩) ::
 (nat_lit 152,⟨.type "tuple",none,.seq #[] 0,#[]⟩) ::
 (nat_lit 154,⟨.type "code",none,oC "__init__" 385 "Shelf.__init__" 386 387 45 2 0 0 3 149 181 150 151 152 153 390 45 391,#[]⟩) ::
 (nat_lit 155,⟨.type "function",none,.func (oF "__init__" "Shelf.__init__" (Ab1 (top 23) 0) "shadowpages.shelf" 371 154),#[]⟩) ::
 (nat_lit 156,⟨.type "tuple",none,.seq #[] 0,#[]⟩) ::
 (nat_lit 158,⟨.type "tuple",none,.seq #[.str "self" 396,.str "number" 397] 0,#[]⟩) ::
 (nat_lit 159,⟨.type "tuple",none,.seq #[] 0,#[]⟩) ::
 (nat_lit 161,⟨.type "code",none,oC "seek" 393 "Shelf.seek" 394 395 51 2 0 0 3 156 181 157 158 159 160 398 51 399,#[]⟩) ::
 (nat_lit 162,⟨.type "function",none,.func (oF "seek" "Shelf.seek" (Ab1 (top 23) 1) "shadowpages.shelf" 371 161),#[]⟩) ::
 (nat_lit 163,⟨.type "tuple",none,.seq #[] 0,#[]⟩) ::
 (nat_lit 165,⟨.type "tuple",none,.seq #[.str "self" 404,.str "number" 405,.str "page" 406,.str "rights" 407,.str "oldest" 408] 0,#[]⟩) ::
 (nat_lit 166,⟨.type "tuple",none,.seq #[] 0,#[]⟩) ::
 (nat_lit 168,⟨.type "code",none,oC "keep" 401 "Shelf.keep" 402 403 54 4 0 0 3 163 181 164 165 166 167 409 54 410,#[]⟩) ::
 (nat_lit 169,⟨.type "function",none,.func (oF "keep" "Shelf.keep" (Ab1 (top 23) 2) "shadowpages.shelf" 371 168),#[]⟩) ::
 (nat_lit 170,⟨.type "tuple",none,.seq #[] 0,#[]⟩) ::
 (nat_lit 172,⟨.type "tuple",none,.seq #[.str "self" 415,.str "number" 416] 0,#[]⟩) ::
 (nat_lit 173,⟨.type "tuple",none,.seq #[] 0,#[]⟩) ::
 (nat_lit 175,⟨.type "code",none,oC "drop" 412 "Shelf.drop" 413 414 62 2 0 0 3 170 181 171 172 173 174 417 62 418,#[]⟩) ::
 (nat_lit 176,⟨.type "function",none,.func (oF "drop" "Shelf.drop" (Ab1 (top 23) 3) "shadowpages.shelf" 371 175),#[]⟩) ::
 (nat_lit 177,⟨.type "tuple",none,.seq #[] 0,#[]⟩) ::
 (nat_lit 179,⟨.type "tuple",none,.seq #[.str "self" 423] 0,#[]⟩) ::
 (nat_lit 180,⟨.type "tuple",none,.seq #[] 0,#[]⟩) ::
 (nat_lit 182,⟨.type "code",none,oC "empty" 420 "Shelf.empty" 421 422 68 1 0 0 3 177 181 178 179 180 181 424 68 425,#[]⟩) ::
 (nat_lit 183,⟨.type "function",none,.func (oF "empty" "Shelf.empty" (Ab1 (top 23) 4) "shadowpages.shelf" 371 182),#[]⟩) ::
 (nat_lit 184,⟨.type "tuple",none,.seq #[] 0,#[]⟩) ::
 (nat_lit 187,⟨.type "code",none,.fields #[.str "told" 427,.str "Shelf.told" 428,.str "/claim/cut.py" 429,.int 71 0,.int 1 0,.int 0 0,.int 0 0,.int 3 0,.ref 184,.bool true,.int 181 0,.ref 185,.none,.none,.none,.ref 186,.int 430 0,.int 71 0,.str "/claim/cut.py" 431],#[]⟩) ::
 (nat_lit 188,⟨.type "function",none,.func (oF "told" "Shelf.told" (Ab1 (top 23) 5) "shadowpages.shelf" 371 187),#[]⟩) ::
 (nat_lit 189,⟨.type "tuple",none,.seq #[.str "most" 433,.str "seats" 434] 0,#[]⟩) ::
 (nat_lit 190,⟨.type "dict",none,(.dict #[⟨(PyData.keyHash P "__module__"),.str "__module__" 380,.str "shadowpages.shelf" 371⟩,ki P "__firstlineno__" 384 43 383,kr P "__init__" 392 155,kr P "seek" 400 162,kr P "keep" 411 169,kr P "drop" 419 176,kr P "empty" 426 183,kr P "told" 432 188,kr P "__static_attributes__" 435 189,kr P "__dict__" 437 192,kr P "__weakref__" 439 193,kn P "__doc__" 440] 4),#[]⟩) ::
 (nat_lit 191,⟨.type "type",none,(.cls ⟨"Shelf",[.type "object"],[.ref 191,.type "object"],190,"Shelf",true,[],[],false,none,false⟩),#[none,none,(some (.str "Shelf" 373)),(some (.str "Shelf" 381)),(some (.builtin "object.__new__")),(some (.bool true))]⟩) ::
 (nat_lit 192,⟨.type "getset_descriptor",none,.fields #[.str "__dict__" 436,.ref 191,.builtin "function.__dict__",.builtin "function.__dict__#set"],#[]⟩) ::
 (nat_lit 193,⟨.type "getset_descriptor",none,.fields #[.str "__weakref__" 438,.ref 191,.builtin "ExceptionGroup.__weakref__",.none],#[]⟩) ::
 (nat_lit 196,⟨.type "tuple",none,.seq #[] 0,#[]⟩) ::
 (nat_lit 199,⟨.type "code",none,.fields #[.str "is_eight_words" 445,.str "is_eight_words" 446,.str "/claim/cut.py" 447,.int 74 0,.int 1 0,.int 0 0,.int 0 0,.int 3 0,.ref 196,.bool true,.int 181 0,.ref 197,.none,.none,.none,.ref 198,.int 448 0,.int 74 0,.str "/claim/cut.py" 449],#[]⟩) ::
 (nat_lit 200,⟨.type "function",none,.func (oF "is_eight_words" "is_eight_words" (top 25) "shadowpages.store" 443 199),#[]⟩) ::
 (nat_lit 201,⟨.type "tuple",none,.seq #[] 0,#[]⟩) ::
 (nat_lit 203,⟨.type "tuple",none,.seq #[.str "pages" 454,.str "page" 455] 0,#[]⟩) ::
 (nat_lit 204,⟨.type "tuple",none,.seq #[] 0,#[]⟩) ::
 (nat_lit 206,⟨.type "code",none,oC "check_image" 451 "check_image" 452 453 76 1 0 0 3 201 181 202 203 204 205 456 76 457,#[]⟩) ::
 (nat_lit 207,⟨.type "function",none,.func (oF "check_image" "check_image" (top 26) "shadowpages.store" 443 206),#[]⟩) ::
 (nat_lit 208,⟨.type "tuple",none,.seq #[] 0,#[]⟩) ::
 (nat_lit 210,⟨.type "tuple",none,.seq #[.str "word" 462] 0,#[]⟩) ::
 (nat_lit 211,⟨.type "tuple",none,.seq #[] 0,#[]⟩) ::
 (nat_lit 213,⟨.type "code",none,oC "check_word" 459 "check_word" 460 461 82 1 0 0 3 208 181 209 210 211 212 463 82 464,#[]⟩) ::
 (nat_lit 214,⟨.type "function",none,.func (oF "check_word" "check_word" (top 27) "shadowpages.store" 443 213),#[]⟩) ::
 (nat_lit 222,⟨.type "tuple",none,.seq #[] 0,#[]⟩) ::
 (nat_lit 224,⟨.type "tuple",none,.seq #[.str "self" 481] 0,#[]⟩) ::
 (nat_lit 225,⟨.type "tuple",none,.seq #[] 0,#[]⟩) ::
 (nat_lit 227,⟨.type "code",none,oC "size" 478 "Store.size" 479 480 87 1 0 0 3 222 181 223 224 225 226 482 87 483,#[]⟩) ::
 (nat_lit 228,⟨.type "function",none,.func (oF "size" "Store.size" (Ab1 (top 28) 0) "shadowpages.store" 443 227),#[]⟩) ::
 (nat_lit 229,⟨.type "tuple",none,.seq #[] 0,#[]⟩) ::
 (nat_lit 231,⟨.type "tuple",none,.seq #[.str "self" 488,.str "page" 489] 0,#[]⟩) ::
 (nat_lit 232,⟨.type "tuple",none,.seq #[] 0,#[]⟩) ::
 (nat_lit 234,⟨.type "code",none,oC "has" 485 "Store.has" 486 487 90 2 0 0 3 229 181 230 231 232 233 490 90 491,#[]⟩) ::
 (nat_lit 235,⟨.type "function",none,.func (oF "has" "Store.has" (Ab1 (top 28) 1) "shadowpages.store" 443 234),#[]⟩) ::
 (nat_lit 236,⟨.type "tuple",none,.seq #[] 0,#[]⟩) ::
 (nat_lit 238,⟨.type "tuple",none,.seq #[.str "self" 496,.str "page" 497,.str "cell" 498] 0,#[]⟩) ::
 (nat_lit 239,⟨.type "tuple",none,.seq #[] 0,#[]⟩) ::
 (nat_lit 241,⟨.type "code",none,oC "word_at" 493 "Store.word_at" 494 495 93 3 0 0 3 236 181 237 238 239 240 499 93 500,#[]⟩) ::
 (nat_lit 242,⟨.type "function",none,.func (oF "word_at" "Store.word_at" (Ab1 (top 28) 2) "shadowpages.store" 443 241),#[]⟩) ::
 (nat_lit 243,⟨.type "tuple",none,.seq #[] 0,#[]⟩) ::
 (nat_lit 245,⟨.type "tuple",none,.seq #[.str "self" 505,.str "page" 506,.str "cell" 507,.str "word" 508] 0,#[]⟩) ::
 (nat_lit 246,⟨.type "tuple",none,.seq #[] 0,#[]⟩) ::
 (nat_lit 248,⟨.type "code",none,oC "put_word" 502 "Store.put_word" 503 504 96 4 0 0 3 243 181 244 245 246 247 509 96 510,#[]⟩) ::
 (nat_lit 249,⟨.type "function",none,.func (oF "put_word" "Store.put_word" (Ab1 (top 28) 3) "shadowpages.store" 443 248),#[]⟩) ::
 (nat_lit 250,⟨.type "tuple",none,.seq #[] 0,#[]⟩) ::
 (nat_lit 252,⟨.type "tuple",none,.seq #[.str "self" 515,.str "page" 516,.str "cell" 517] 0,#[]⟩) ::
 (nat_lit 253,⟨.type "tuple",none,.seq #[] 0,#[]⟩) ::
 (nat_lit 255,⟨.type "code",none,oC "read" 512 "Store.read" 513 514 99 3 0 0 3 250 181 251 252 253 254 518 99 519,#[]⟩) ::
 (nat_lit 256,⟨.type "function",none,.func (oF "read" "Store.read" (Ab1 (top 28) 4) "shadowpages.store" 443 255),#[]⟩) ::
 (nat_lit 257,⟨.type "tuple",none,.seq #[] 0,#[]⟩) ::
 (nat_lit 259,⟨.type "tuple",none,.seq #[.str "self" 524,.str "page" 525,.str "cell" 526,.str "word" 527] 0,#[]⟩) ::
 (nat_lit 260,⟨.type "tuple",none,.seq #[] 0,#[]⟩) ::
 (nat_lit 262,⟨.type "code",none,oC "write" 521 "Store.write" 522 523 103 4 0 0 3 257 181 258 259 260 261 528 103 529,#[]⟩) ::
 (nat_lit 263,⟨.type "function",none,.func (oF "write" "Store.write" (Ab1 (top 28) 5) "shadowpages.store" 443 262),#[]⟩) ::
 (nat_lit 264,⟨.type "tuple",none,.seq #[] 0,#[]⟩) ::
 (nat_lit 267,⟨.type "code",none,.fields #[.str "words_of" 531,.str "Store.words_of" 532,.str "/claim/cut.py" 533,.int 108 0,.int 2 0,.int 0 0,.int 0 0,.int 3 0,.ref 264,.bool true,.int 181 0,.ref 265,.none,.none,.none,.ref 266,.int 534 0,.int 108 0,.str "/claim/cut.py" 535],#[]⟩) ::
 (nat_lit 268,⟨.type "function",none,.func (oF "words_of" "Store.words_of" (Ab1 (top 28) 6) "shadowpages.store" 443 267),#[]⟩) ::
 (nat_lit 269,⟨.type "tuple",none,.seq #[] 0,#[]⟩) ::
 (nat_lit 271,⟨.type "tuple",none,.seq #[.str "self" 540,.str "page" 541,.str "cell" 542] 0,#[]⟩) ::
 (nat_lit 272,⟨.type "tuple",none,.seq #[] 0,#[]⟩) ::
 (nat_lit 274,⟨.type "code",none,oC "check_spot" 537 "Store.check_spot" 538 539 111 3 0 0 3 269 181 270 271 272 273 543 111 544,#[]⟩) ::
 (nat_lit 275,⟨.type "function",none,.func (oF "check_spot" "Store.check_spot" (Ab1 (top 28) 7) "shadowpages.store" 443 274),#[]⟩) ::
 (nat_lit 276,⟨.type "tuple",none,.seq #[] 0,#[]⟩) ::
 (nat_lit 278,⟨.type "tuple",none,.seq #[.str "self" 549,.str "page" 550] 0,#[]⟩) ::
 (nat_lit 279,⟨.type "tuple",none,.seq #[] 0,#[]⟩) ::
 (nat_lit 281,⟨.type "code",none,oC "check_page" 546 "Store.check_page" 547 548 116 2 0 0 3 276 181 277 278 279 280 551 116 552,#[]⟩) ::
 (nat_lit 282,⟨.type "function",none,.func (oF "check_page" "Store.check_page" (Ab1 (top 28) 8) "shadowpages.store" 443 281),#[]⟩) ::
 (nat_lit 283,⟨.type "tuple",none,.seq #[] 0,#[]⟩) ::
 (nat_lit 284,⟨.type "dict",none,(.dict #[⟨(PyData.keyHash P "__module__"),.str "__module__" 473,.str "shadowpages.store" 443⟩,ki P "__firstlineno__" 477 85 476,kr P "size" 484 228,kr P "has" 492 235,kr P "word_at" 501 242,kr P "put_word" 511 249,kr P "read" 520 256,kr P "write" 530 263,kr P "words_of" 536 268,kr P "check_spot" 545 275,kr P "check_page" 553 282,kr P "__static_attributes__" 554 283,kr P "__dict__" 556 286,kr P "__weakref__" 558 287,kn P "__doc__" 559] 4),#[]⟩) ::
 (nat_lit 285,⟨.type "type",none,(.cls ⟨"Store",[.type "object"],[.ref 285,.type "object"],284,"Store",true,[],[.ref 351,.ref 557],false,none,false⟩),#[none,none,(some (.str "Store" 466)),(some (.str "Store" 474)),(some (.builtin "object.__new__")),(some (.bool true))]⟩) ::
 (nat_lit 286,⟨.type "getset_descriptor",none,.fields #[.str "__dict__" 555,.ref 285,.builtin "function.__dict__",.builtin "function.__dict__#set"],#[]⟩) ::
 (nat_lit 287,⟨.type "getset_descriptor",none,.fields #[.str "__weakref__" 557,.ref 285,.builtin "ExceptionGroup.__weakref__",.none],#[]⟩) ::
 (nat_lit 290,⟨.type "tuple",none,.seq #[.ref 285] 0,#[]⟩) ::
 (nat_lit 297,⟨.type "tuple",none,.seq #[] 0,#[]⟩) ::
 (nat_lit 300,⟨.type "code",none,.fields #[.str "__init__" 574,.str "Memory.__init__" 575,.str "/claim/cut.py" 576,.int 121 0,.int 2 0,.int 0 0,.int 0 0,.int 3 0,.ref 297,.bool true,.int 181 0,.ref 298,.none,.none,.none,.ref 299,.int 577 0,.int 121 0,.str "/claim/cut.py" 578],#[]⟩) ::
 (nat_lit 301,⟨.type "function",none,.func (oF "__init__" "Memory.__init__" (Ab1 (top 29) 0) "shadowpages.store" 443 300),#[]⟩) ::
 (nat_lit 302,⟨.type "tuple",none,.seq #[] 0,#[]⟩) ::
 (nat_lit 304,⟨.type "tuple",none,.seq #[.str "self" 583] 0,#[]⟩) ::
 (nat_lit 305,⟨.type "tuple",none,.seq #[] 0,#[]⟩) ::
 (nat_lit 307,⟨.type "code",none,oC "size" 580 "Memory.size" 581 582 125 1 0 0 3 302 181 303 304 305 306 584 125 585,#[]⟩) ::
 (nat_lit 308,⟨.type "function",none,.func (oF "size" "Memory.size" (Ab1 (top 29) 1) "shadowpages.store" 443 307),#[]⟩) ::
 (nat_lit 309,⟨.type "tuple",none,.seq #[] 0,#[]⟩) ::
 (nat_lit 311,⟨.type "tuple",none,.seq #[.str "self" 590,.str "page" 591] 0,#[]⟩) ::
 (nat_lit 312,⟨.type "tuple",none,.seq #[] 0,#[]⟩) ::
 (nat_lit 314,⟨.type "code",none,oC "has" 587 "Memory.has" 588 589 128 2 0 0 3 309 181 310 311 312 313 592 128 593,#[]⟩) ::
 (nat_lit 315,⟨.type "function",none,.func (oF "has" "Memory.has" (Ab1 (top 29) 2) "shadowpages.store" 443 314),#[]⟩) ::
 (nat_lit 316,⟨.type "tuple",none,.seq #[] 0,#[]⟩) ::
 (nat_lit 318,⟨.type "tuple",none,.seq #[.str "self" 598,.str "page" 599,.str "cell" 600] 0,#[]⟩) ::
 (nat_lit 319,⟨.type "tuple",none,.seq #[] 0,#[]⟩) ::
 (nat_lit 321,⟨.type "code",none,oC "word_at" 595 "Memory.word_at" 596 597 131 3 0 0 3 316 181 317 318 319 320 601 131 602,#[]⟩) ::
 (nat_lit 322,⟨.type "function",none,.func (oF "word_at" "Memory.word_at" (Ab1 (top 29) 3) "shadowpages.store" 443 321),#[]⟩) ::
 (nat_lit 323,⟨.type "tuple",none,.seq #[] 0,#[]⟩) ::
 (nat_lit 325,⟨.type "tuple",none,.seq #[.str "self" 607,.str "page" 608,.str "cell" 609,.str "word" 610] 0,#[]⟩) ::
 (nat_lit 326,⟨.type "tuple",none,.seq #[] 0,#[]⟩) ::
 (nat_lit 328,⟨.type "code",none,oC "put_word" 604 "Memory.put_word" 605 606 134 4 0 0 3 323 181 324 325 326 327 611 134 612,#[]⟩) ::
 (nat_lit 329,⟨.type "function",none,.func (oF "put_word" "Memory.put_word" (Ab1 (top 29) 4) "shadowpages.store" 443 328),#[]⟩) ::
 (nat_lit 330,⟨.type "tuple",none,.seq #[] 0,#[]⟩) ::
 (nat_lit 332,⟨.type "tuple",none,.seq #[.str "self" 617,.str "page" 618] 0,#[]⟩) ::
 (nat_lit 333,⟨.type "tuple",none,.seq #[] 0,#[]⟩) ::
 (nat_lit 335,⟨.type "code",none,oC "give" 614 "Memory.give" 615 616 137 2 0 0 3 330 181 331 332 333 334 619 137 620,#[]⟩) ::
 (nat_lit 336,⟨.type "function",none,.func (oF "give" "Memory.give" (Ab1 (top 29) 5) "shadowpages.store" 443 335),#[]⟩) ::
 (nat_lit 337,⟨.type "tuple",none,.seq #[] 0,#[]⟩) ::
 (nat_lit 339,⟨.type "tuple",none,.seq #[.str "self" 625,.str "page" 626,.str "words" 627] 0,#[]⟩) ::
 (nat_lit 340,⟨.type "tuple",none,.seq #[] 0,#[]⟩) ::
 (nat_lit 342,⟨.type "code",none,oC "lay" 622 "Memory.lay" 623 624 141 3 0 0 3 337 181 338 339 340 341 628 141 629,#[]⟩) ::
 (nat_lit 343,⟨.type "function",none,.func (oF "lay" "Memory.lay" (Ab1 (top 29) 6) "shadowpages.store" 443 342),#[]⟩) ::
 (nat_lit 344,⟨.type "tuple",none,.seq #[] 0,#[]⟩) ::
 (nat_lit 347,⟨.type "code",none,.fields #[.str "told" 631,.str "Memory.told" 632,.str "/claim/cut.py" 633,.int 148 0,.int 1 0,.int 0 0,.int 0 0,.int 3 0,.ref 344,.bool true,.int 181 0,.ref 345,.none,.none,.none,.ref 346,.int 634 0,.int 148 0,.str "/claim/cut.py" 635],#[]⟩) ::
 (nat_lit 348,⟨.type "function",none,.func (oF "told" "Memory.told" (Ab1 (top 29) 7) "shadowpages.store" 443 347),#[]⟩) ::
 (nat_lit 349,⟨.type "tuple",none,.seq #[.str "held" 637] 0,#[]⟩) ::
 (nat_lit 350,⟨.type "dict",none,(.dict #[⟨(PyData.keyHash P "__module__"),.str "__module__" 569,.str "shadowpages.store" 443⟩,ki P "__firstlineno__" 573 119 572,kr P "__init__" 579 301,kr P "size" 586 308,kr P "has" 594 315,kr P "word_at" 603 322,kr P "put_word" 613 329,kr P "give" 621 336,kr P "lay" 630 343,kr P "told" 636 348,kr P "__static_attributes__" 638 349,kn P "__doc__" 639] 2),#[]⟩) ::
 (nat_lit 351,⟨.type "type",none,(.cls ⟨"Memory",[.ref 285],[.ref 351,.ref 285,.type "object"],350,"Memory",true,[],[],false,none,false⟩),#[(some (.ref 290)),none,(some (.str "Memory" 562)),(some (.str "Memory" 570)),(some (.builtin "object.__new__")),(some (.bool true))]⟩) ::
 (nat_lit 354,⟨.type "tuple",none,.seq #[] 0,#[]⟩) ::
 (nat_lit 356,⟨.type "tuple",none,.seq #[.str "row" 657] 0,#[]⟩) ::
 (nat_lit 357,⟨.type "tuple",none,.seq #[] 0,#[]⟩) ::
 (nat_lit 359,⟨.type "code",none,oC "page_of" 654 "page_of" 655 656 156 1 0 0 3 354 181 355 356 357 358 658 156 659,#[]⟩) ::
 (nat_lit 360,⟨.type "function",none,.func (oF "page_of" "page_of" (top 36) "shadowpages.rows" 642 359),#[]⟩) ::
 (nat_lit 361,⟨.type "tuple",none,.seq #[] 0,#[]⟩) ::
 (nat_lit 363,⟨.type "tuple",none,.seq #[.str "row" 664,.str "marks" 665] 0,#[]⟩) ::
 (nat_lit 364,⟨.type "tuple",none,.seq #[] 0,#[]⟩) ::
 (nat_lit 366,⟨.type "code",none,oC "has" 661 "has" 662 663 158 2 0 0 3 361 181 362 363 364 365 666 158 667,#[]⟩) ::
 (nat_lit 367,⟨.type "function",none,.func (oF "has" "has" (top 37) "shadowpages.rows" 642 366),#[]⟩) ::
 (nat_lit 368,⟨.type "tuple",none,.seq #[] 0,#[]⟩) ::
 (nat_lit 370,⟨.type "tuple",none,.seq #[.str "row" 672,.str "marks" 673] 0,#[]⟩) ::
 (nat_lit 371,⟨.type "tuple",none,.seq #[] 0,#[]⟩) ::
 (nat_lit 373,⟨.type "code",none,oC "put" 669 "put" 670 671 160 2 0 0 3 368 181 369 370 371 372 674 160 675,#[]⟩) ::
 (nat_lit 374,⟨.type "function",none,.func (oF "put" "put" (top 38) "shadowpages.rows" 642 373),#[]⟩) ::
 (nat_lit 375,⟨.type "tuple",none,.seq #[] 0,#[]⟩) ::
 (nat_lit 377,⟨.type "tuple",none,.seq #[.str "store" 682,.str "root" 683,.str "place" 684,.str "write" 685,.str "kernel" 686,.str "parts" 687,.str "top" 688,.str "top_row" 689,.str "low" 690,.str "low_row" 691] 0,#[]⟩) ::
 (nat_lit 378,⟨.type "tuple",none,.seq #[] 0,#[]⟩) ::
 (nat_lit 380,⟨.type "code",none,oC "look" 679 "look" 680 681 163 5 0 0 3 375 181 376 377 378 379 692 163 693,#[]⟩) ::
 (nat_lit 381,⟨.type "function",none,.func (oF "look" "look" (top 40) "shadowpages.walk" 677 380),#[]⟩) ::
 (nat_lit 382,⟨.type "tuple",none,.seq #[] 0,#[]⟩) ::
 (nat_lit 384,⟨.type "tuple",none,.seq #[.str "store" 698,.str "row" 699,.str "write" 700,.str "kernel" 701,.str "place" 702,.str "level" 703] 0,#[]⟩) ::
 (nat_lit 385,⟨.type "tuple",none,.seq #[] 0,#[]⟩) ::
 (nat_lit 387,⟨.type "code",none,oC "check_row" 695 "check_row" 696 697 176 6 0 0 3 382 181 383 384 385 386 704 176 705,#[]⟩) ::
 (nat_lit 388,⟨.type "function",none,.func (oF "check_row" "check_row" (top 41) "shadowpages.walk" 677 387),#[]⟩) ::
 (nat_lit 389,⟨.type "tuple",none,.seq #[] 0,#[]⟩) ::
 (nat_lit 391,⟨.type "tuple",none,.seq #[.str "top_row" 710,.str "low_row" 711] 0,#[]⟩) ::
 (nat_lit 392,⟨.type "tuple",none,.seq #[] 0,#[]⟩) ::
 (nat_lit 394,⟨.type "code",none,oC "rights_of" 707 "rights_of" 708 709 185 2 0 0 3 389 181 390 391 392 393 712 185 713,#[]⟩) ::
 (nat_lit 395,⟨.type "function",none,.func (oF "rights_of" "rights_of" (top 42) "shadowpages.walk" 677 394),#[]⟩) ::
 (nat_lit 396,⟨.type "tuple",none,.seq #[] 0,#[]⟩) ::
 (nat_lit 398,⟨.type "tuple",none,.seq #[.str "store" 718,.str "trail" 719,.str "write" 720] 0,#[]⟩) ::
 (nat_lit 399,⟨.type "tuple",none,.seq #[] 0,#[]⟩) ::
 (nat_lit 401,⟨.type "code",none,oC "mark" 715 "mark" 716 717 187 3 0 0 3 396 181 397 398 399 400 721 187 722,#[]⟩) ::
 (nat_lit 402,⟨.type "function",none,.func (oF "mark" "mark" (top 43) "shadowpages.walk" 677 401),#[]⟩) ::
 (nat_lit 403,⟨.type "tuple",none,.seq #[] 0,#[]⟩) ::
 (nat_lit 405,⟨.type "tuple",none,.seq #[.str "store" 727,.str "spot" 728,.str "marks" 729,.str "row" 730] 0,#[]⟩) ::
 (nat_lit 406,⟨.type "tuple",none,.seq #[] 0,#[]⟩) ::
 (nat_lit 408,⟨.type "code",none,oC "put_marks" 724 "put_marks" 725 726 191 3 0 0 3 403 181 404 405 406 407 731 191 732,#[]⟩) ::
 (nat_lit 409,⟨.type "function",none,.func (oF "put_marks" "put_marks" (top 44) "shadowpages.walk" 677 408),#[]⟩) ::
 (nat_lit 410,⟨.type "tuple",none,.seq #[] 0,#[]⟩) ::
 (nat_lit 412,⟨.type "tuple",none,.seq #[.str "rights" 737,.str "write" 738,.str "kernel" 739] 0,#[]⟩) ::
 (nat_lit 413,⟨.type "tuple",none,.seq #[] 0,#[]⟩) ::
 (nat_lit 415,⟨.type "code",none,oC "lets" 734 "lets" 735 736 195 3 0 0 3 410 181 411 412 413 414 740 195 741,#[]⟩) ::
 (nat_lit 416,⟨.type "function",none,.func (oF "lets" "lets" (top 45) "shadowpages.walk" 677 415),#[]⟩) ::
 (nat_lit 417,⟨.type "tuple",none,.seq #[.ref 285] 0,#[]⟩) ::
 (nat_lit 424,⟨.type "tuple",none,.seq #[] 0,#[]⟩) ::
 (nat_lit 426,⟨.type "tuple",none,.seq #[.str "self" 760,.str "most" 761] 0,#[]⟩) ::
 (nat_lit 427,⟨.type "tuple",none,.seq #[] 0,#[]⟩) ::
 (nat_lit 429,⟨.type "code",none,oC "__init__" 757 "Ways.__init__" 758 759 202 2 0 0 3 424 181 425 426 427 428 762 202 763,#[]⟩) ::
 (nat_lit 430,⟨.type "function",none,.func (oF "__init__" "Ways.__init__" (Ab1 (top 47) 0) "shadowpages.ways" 743 429),#[]⟩) ::
 (nat_lit 431,⟨.type "tuple",none,.seq #[] 0,#[]⟩) ::
 (nat_lit 433,⟨.type "tuple",none,.seq #[.str "self" 768,.str "page" 769] 0,#[]⟩) ::
 (nat_lit 434,⟨.type "tuple",none,.seq #[] 0,#[]⟩) ::
 (nat_lit 436,⟨.type "code",none,oC "give_up" 765 "Ways.give_up" 766 767 206 2 0 0 3 431 181 432 433 434 435 770 206 771,#[]⟩) ::
 (nat_lit 437,⟨.type "function",none,.func (oF "give_up" "Ways.give_up" (Ab1 (top 47) 1) "shadowpages.ways" 743 436),#[]⟩) ::
 (nat_lit 438,⟨.type "tuple",none,.seq #[] 0,#[]⟩) ::
 (nat_lit 440,⟨.type "tuple",none,.seq #[.str "self" 776,.str "page" 777] 0,#[]⟩) ::
 (nat_lit 441,⟨.type "tuple",none,.seq #[] 0,#[]⟩) ::
 (nat_lit 443,⟨.type "code",none,oC "come_back" 773 "Ways.come_back" 774 775 209 2 0 0 3 438 181 439 440 441 442 778 209 779,#[]⟩) ::
 (nat_lit 444,⟨.type "function",none,.func (oF "come_back" "Ways.come_back" (Ab1 (top 47) 2) "shadowpages.ways" 743 443),#[]⟩) ::
 (nat_lit 445,⟨.type "tuple",none,.seq #[] 0,#[]⟩) ::
 (nat_lit 447,⟨.type "tuple",none,.seq #[.str "self" 784] 0,#[]⟩) ::
 (nat_lit 448,⟨.type "tuple",none,.seq #[] 0,#[]⟩) ::
 (nat_lit 450,⟨.type "code",none,oC "ask_house" 781 "Ways.ask_house" 782 783 212 1 0 0 3 445 181 446 447 448 449 785 212 786,#[]⟩) ::
 (nat_lit 451,⟨.type "function",none,.func (oF "ask_house" "Ways.ask_house" (Ab1 (top 47) 3) "shadowpages.ways" 743 450),#[]⟩) ::
 (nat_lit 452,⟨.type "tuple",none,.seq #[] 0,#[]⟩) ::
 (nat_lit 454,⟨.type "tuple",none,.seq #[.str "self" 791,.str "place" 792,.str "kernel" 793,.str "page" 794] 0,#[]⟩) ::
 (nat_lit 455,⟨.type "tuple",none,.seq #[] 0,#[]⟩) ::
 (nat_lit 457,⟨.type "code",none,oC "load" 788 "Ways.load" 789 790 215 3 0 0 3 452 181 453 454 455 456 795 215 796,#[]⟩) ::
 (nat_lit 458,⟨.type "function",none,.func (oF "load" "Ways.load" (Ab1 (top 47) 4) "shadowpages.ways" 743 457),#[]⟩) ::
 (nat_lit 459,⟨.type "tuple",none,.seq #[] 0,#[]⟩) ::
 (nat_lit 461,⟨.type "tuple",none,.seq #[.str "self" 801,.str "place" 802,.str "word" 803,.str "kernel" 804,.str "page" 805] 0,#[]⟩) ::
 (nat_lit 462,⟨.type "tuple",none,.seq #[] 0,#[]⟩) ::
 (nat_lit 464,⟨.type "code",none,oC "save" 798 "Ways.save" 799 800 219 4 0 0 3 459 181 460 461 462 463 806 219 807,#[]⟩) ::
 (nat_lit 465,⟨.type "function",none,.func (oF "save" "Ways.save" (Ab1 (top 47) 5) "shadowpages.ways" 743 464),#[]⟩) ::
 (nat_lit 466,⟨.type "tuple",none,.seq #[] 0,#[]⟩) ::
 (nat_lit 468,⟨.type "tuple",none,.seq #[.str "self" 812,.str "place" 813,.str "write" 814,.str "kernel" 815,.str "page" 816] 0,#[]⟩) ::
 (nat_lit 469,⟨.type "tuple",none,.seq #[] 0,#[]⟩) ::
 (nat_lit 471,⟨.type "code",none,oC "reach" 809 "Ways.reach" 810 811 224 4 0 0 3 466 181 467 468 469 470 817 224 818,#[]⟩) ::
 (nat_lit 472,⟨.type "function",none,.func (oF "reach" "Ways.reach" (Ab1 (top 47) 6) "shadowpages.ways" 743 471),#[]⟩) ::
 (nat_lit 473,⟨.type "tuple",none,.seq #[] 0,#[]⟩) ::
 (nat_lit 475,⟨.type "tuple",none,.seq #[.str "self" 823,.str "place" 824,.str "write" 825,.str "kernel" 826,.str "row" 827] 0,#[]⟩) ::
 (nat_lit 476,⟨.type "tuple",none,.seq #[] 0,#[]⟩) ::
 (nat_lit 478,⟨.type "code",none,oC "remembered" 820 "Ways.remembered" 821 822 230 4 0 0 3 473 181 474 475 476 477 828 230 829,#[]⟩) ::
 (nat_lit 479,⟨.type "function",none,.func (oF "remembered" "Ways.remembered" (Ab1 (top 47) 7) "shadowpages.ways" 743 478),#[]⟩) ::
 (nat_lit 480,⟨.type "tuple",none,.seq #[] 0,#[]⟩) ::
 (nat_lit 482,⟨.type "tuple",none,.seq #[.str "self" 834,.str "place" 835,.str "write" 836,.str "kernel" 837,.str "trail" 838,.str "rights" 839] 0,#[]⟩) ::
 (nat_lit 483,⟨.type "tuple",none,.seq #[] 0,#[]⟩) ::
 (nat_lit 485,⟨.type "code",none,oC "walked" 831 "Ways.walked" 832 833 238 4 0 0 3 480 181 481 482 483 484 840 238 841,#[]⟩) ::
 (nat_lit 486,⟨.type "function",none,.func (oF "walked" "Ways.walked" (Ab1 (top 47) 8) "shadowpages.ways" 743 485),#[]⟩) ::
 (nat_lit 487,⟨.type "tuple",none,.seq #[] 0,#[]⟩) ::
 (nat_lit 489,⟨.type "tuple",none,.seq #[.str "self" 846,.str "spot" 847] 0,#[]⟩) ::
 (nat_lit 490,⟨.type "tuple",none,.seq #[] 0,#[]⟩) ::
 (nat_lit 492,⟨.type "code",none,oC "peek" 843 "Ways.peek" 844 845 244 2 0 0 3 487 181 488 489 490 491 848 244 849,#[]⟩) ::
 (nat_lit 493,⟨.type "function",none,.func (oF "peek" "Ways.peek" (Ab1 (top 47) 9) "shadowpages.ways" 743 492),#[]⟩) ::
 (nat_lit 494,⟨.type "tuple",none,.seq #[] 0,#[]⟩) ::
 (nat_lit 496,⟨.type "tuple",none,.seq #[.str "self" 854,.str "spot" 855,.str "word" 856] 0,#[]⟩) ::
 (nat_lit 497,⟨.type "tuple",none,.seq #[] 0,#[]⟩) ::
 (nat_lit 499,⟨.type "code",none,oC "poke" 851 "Ways.poke" 852 853 248 3 0 0 3 494 181 495 496 497 498 857 248 858,#[]⟩) ::
 (nat_lit 500,⟨.type "function",none,.func (oF "poke" "Ways.poke" (Ab1 (top 47) 10) "shadowpages.ways" 743 499),#[]⟩) ::
 (nat_lit 501,⟨.type "tuple",none,.seq #[] 0,#[]⟩) ::
 (nat_lit 503,⟨.type "tuple",none,.seq #[.str "self" 863,.str "spot" 864] 0,#[]⟩) ::
 (nat_lit 504,⟨.type "tuple",none,.seq #[] 0,#[]⟩) ::
 (nat_lit 506,⟨.type "code",none,oC "check_beyond" 860 "Ways.check_beyond" 861 862 252 2 0 0 3 501 181 502 503 504 505 865 252 866,#[]⟩) ::
 (nat_lit 507,⟨.type "function",none,.func (oF "check_beyond" "Ways.check_beyond" (Ab1 (top 47) 11) "shadowpages.ways" 743 506),#[]⟩) ::
 (nat_lit 508,⟨.type "tuple",none,.seq #[] 0,#[]⟩) ::
 (nat_lit 510,⟨.type "tuple",none,.seq #[.str "self" 871] 0,#[]⟩) ::
 (nat_lit 511,⟨.type "tuple",none,.seq #[] 0,#[]⟩) ::
 (nat_lit 513,⟨.type "code",none,oC "root" 868 "Ways.root" 869 870 256 1 0 0 3 508 181 509 510 511 512 872 256 873,#[]⟩) ::
 (nat_lit 514,⟨.type "function",none,.func (oF "root" "Ways.root" (Ab1 (top 47) 12) "shadowpages.ways" 743 513),#[]⟩) ::
 (nat_lit 515,⟨.type "tuple",none,.seq #[] 0,#[]⟩) ::
 (nat_lit 517,⟨.type "tuple",none,.seq #[.str "self" 878,.str "root" 879] 0,#[]⟩) ::
 (nat_lit 518,⟨.type "tuple",none,.seq #[] 0,#[]⟩) ::
 (nat_lit 520,⟨.type "code",none,oC "turn_root" 875 "Ways.turn_root" 876 877 259 2 0 0 3 515 181 516 517 518 519 880 259 881,#[]⟩) ::
 (nat_lit 521,⟨.type "function",none,.func (oF "turn_root" "Ways.turn_root" (Ab1 (top 47) 13) "shadowpages.ways" 743 520),#[]⟩) ::
 (nat_lit 522,⟨.type "tuple",none,.seq #[] 0,#[]⟩) ::
 (nat_lit 524,⟨.type "tuple",none,.seq #[.str "self" 886,.str "place" 887] 0,#[]⟩) ::
 (nat_lit 525,⟨.type "tuple",none,.seq #[] 0,#[]⟩) ::
 (nat_lit 527,⟨.type "code",none,oC "drop" 883 "Ways.drop" 884 885 263 2 0 0 3 522 181 523 524 525 526 888 263 889,#[]⟩) ::
 (nat_lit 528,⟨.type "function",none,.func (oF "drop" "Ways.drop" (Ab1 (top 47) 14) "shadowpages.ways" 743 527),#[]⟩) ::
 (nat_lit 529,⟨.type "tuple",none,.seq #[] 0,#[]⟩) ::
 (nat_lit 531,⟨.type "tuple",none,.seq #[.str "self" 894,.str "page" 895] 0,#[]⟩) ::
 (nat_lit 532,⟨.type "tuple",none,.seq #[] 0,#[]⟩) ::
 (nat_lit 534,⟨.type "code",none,oC "give" 891 "Ways.give" 892 893 267 2 0 0 3 529 181 530 531 532 533 896 267 897,#[]⟩) ::
 (nat_lit 535,⟨.type "function",none,.func (oF "give" "Ways.give" (Ab1 (top 47) 15) "shadowpages.ways" 743 534),#[]⟩) ::
 (nat_lit 536,⟨.type "tuple",none,.seq #[] 0,#[]⟩) ::
 (nat_lit 538,⟨.type "tuple",none,.seq #[.str "self" 902,.str "page" 903] 0,#[]⟩) ::
 (nat_lit 539,⟨.type "tuple",none,.seq #[] 0,#[]⟩) ::
 (nat_lit 541,⟨.type "code",none,oC "want" 899 "Ways.want" 900 901 273 2 0 0 3 536 181 537 538 539 540 904 273 905,#[]⟩) ::
 (nat_lit 542,⟨.type "function",none,.func (oF "want" "Ways.want" (Ab1 (top 47) 16) "shadowpages.ways" 743 541),#[]⟩) ::
 (nat_lit 543,⟨.type "tuple",none,.seq #[] 0,#[]⟩) ::
 (nat_lit 545,⟨.type "tuple",none,.seq #[.str "self" 910] 0,#[]⟩) ::
 (nat_lit 546,⟨.type "tuple",none,.seq #[] 0,#[]⟩) ::
 (nat_lit 548,⟨.type "code",none,oC "shelf" 907 "Ways.shelf" 908 909 279 1 0 0 3 543 181 544 545 546 547 911 279 912,#[]⟩) ::
 (nat_lit 549,⟨.type "function",none,.func (oF "shelf" "Ways.shelf" (Ab1 (top 47) 17) "shadowpages.ways" 743 548),#[]⟩) ::
 (nat_lit 550,⟨.type "tuple",none,.seq #[] 0,#[]⟩) ::
 (nat_lit 553,⟨.type "code",none,.fields #[.str "pages" 914,.str "Ways.pages" 915,.str "/claim/cut.py" 916,.int 282 0,.int 1 0,.int 0 0,.int 0 0,.int 3 0,.ref 550,.bool true,.int 181 0,.ref 551,.none,.none,.none,.ref 552,.int 917 0,.int 282 0,.str "/claim/cut.py" 918],#[]⟩) ::
 (nat_lit 554,⟨.type "function",none,.func (oF "pages" "Ways.pages" (Ab1 (top 47) 18) "shadowpages.ways" 743 553),#[]⟩) ::
 (nat_lit 555,⟨.type "tuple",none,.seq #[.str "base" 920,.str "rack" 921] 0,#[]⟩) ::
 (nat_lit 556,⟨.type "dict",none,(.dict #[⟨(PyData.keyHash P "__module__"),.str "__module__" 752,.str "shadowpages.ways" 743⟩,ki P "__firstlineno__" 756 200 755,kr P "__init__" 764 430,kr P "give_up" 772 437,kr P "come_back" 780 444,kr P "ask_house" 787 451,kr P "load" 797 458,kr P "save" 808 465,kr P "reach" 819 472,kr P "remembered" 830 479,kr P "walked" 842 486,kr P "peek" 850 493,kr P "poke" 859 500,kr P "check_beyond" 867 507,kr P "root" 874 514,kr P "turn_root" 882 521,kr P "drop" 890 528,kr P "give" 898 535,kr P "want" 906 542,kr P "shelf" 913 549,kr P "pages" 919 554,kr P "__static_attributes__" 922 555,kn P "__doc__" 923] 2),#[]⟩) ::
 (nat_lit 557,⟨.type "type",none,(.cls ⟨"Ways",[.ref 285],[.ref 557,.ref 285,.type "object"],556,"Ways",true,[],[.ref 625],false,none,false⟩),#[(some (.ref 417)),none,(some (.str "Ways" 745)),(some (.str "Ways" 753)),(some (.builtin "object.__new__")),(some (.bool true))]⟩) ::
 (nat_lit 560,⟨.type "tuple",none,.seq #[.ref 557] 0,#[]⟩) ::
 (nat_lit 567,⟨.type "tuple",none,.seq #[] 0,#[]⟩) ::
 (nat_lit 569,⟨.type "tuple",none,.seq #[.str "self" 941,.str "pages" 942,.str "most" 943,.str "words" 944] 0,#[]⟩) ::
 (nat_lit 570,⟨.type "tuple",none,.seq #[] 0,#[]⟩) ::
 (nat_lit 572,⟨.type "code",none,oC "__init__" 938 "Plain.__init__" 939 940 286 4 0 0 3 567 181 568 569 570 571 945 286 946,#[]⟩) ::
 (nat_lit 573,⟨.type "function",none,.func (oF "__init__" "Plain.__init__" (Ab1 (top 48) 0) "shadowpages.ways" 743 572),#[]⟩) ::
 (nat_lit 574,⟨.type "tuple",none,.seq #[] 0,#[]⟩) ::
 (nat_lit 576,⟨.type "tuple",none,.seq #[.str "self" 951] 0,#[]⟩) ::
 (nat_lit 577,⟨.type "tuple",none,.seq #[] 0,#[]⟩) ::
 (nat_lit 579,⟨.type "code",none,oC "size" 948 "Plain.size" 949 950 291 1 0 0 3 574 181 575 576 577 578 952 291 953,#[]⟩) ::
 (nat_lit 580,⟨.type "function",none,.func (oF "size" "Plain.size" (Ab1 (top 48) 1) "shadowpages.ways" 743 579),#[]⟩) ::
 (nat_lit 581,⟨.type "tuple",none,.seq #[] 0,#[]⟩) ::
 (nat_lit 583,⟨.type "tuple",none,.seq #[.str "self" 958,.str "page" 959] 0,#[]⟩) ::
 (nat_lit 584,⟨.type "tuple",none,.seq #[] 0,#[]⟩) ::
 (nat_lit 586,⟨.type "code",none,oC "has" 955 "Plain.has" 956 957 294 2 0 0 3 581 181 582 583 584 585 960 294 961,#[]⟩) ::
 (nat_lit 587,⟨.type "function",none,.func (oF "has" "Plain.has" (Ab1 (top 48) 2) "shadowpages.ways" 743 586),#[]⟩) ::
 (nat_lit 588,⟨.type "tuple",none,.seq #[] 0,#[]⟩) ::
 (nat_lit 590,⟨.type "tuple",none,.seq #[.str "self" 966,.str "page" 967,.str "cell" 968] 0,#[]⟩) ::
 (nat_lit 591,⟨.type "tuple",none,.seq #[] 0,#[]⟩) ::
 (nat_lit 593,⟨.type "code",none,oC "word_at" 963 "Plain.word_at" 964 965 297 3 0 0 3 588 181 589 590 591 592 969 297 970,#[]⟩) ::
 (nat_lit 594,⟨.type "function",none,.func (oF "word_at" "Plain.word_at" (Ab1 (top 48) 3) "shadowpages.ways" 743 593),#[]⟩) ::
 (nat_lit 595,⟨.type "tuple",none,.seq #[] 0,#[]⟩) ::
 (nat_lit 597,⟨.type "tuple",none,.seq #[.str "self" 975,.str "page" 976,.str "cell" 977,.str "word" 978] 0,#[]⟩) ::
 (nat_lit 598,⟨.type "tuple",none,.seq #[] 0,#[]⟩) ::
 (nat_lit 600,⟨.type "code",none,oC "put_word" 972 "Plain.put_word" 973 974 300 4 0 0 3 595 181 596 597 598 599 979 300 980,#[]⟩) ::
 (nat_lit 601,⟨.type "function",none,.func (oF "put_word" "Plain.put_word" (Ab1 (top 48) 4) "shadowpages.ways" 743 600),#[]⟩) ::
 (nat_lit 602,⟨.type "tuple",none,.seq #[] 0,#[]⟩) ::
 (nat_lit 604,⟨.type "tuple",none,.seq #[.str "self" 985,.str "page" 986] 0,#[]⟩) ::
 (nat_lit 605,⟨.type "tuple",none,.seq #[] 0,#[]⟩) ::
 (nat_lit 607,⟨.type "code",none,oC "give_up" 982 "Plain.give_up" 983 984 303 2 0 0 3 602 181 603 604 605 606 987 303 988,#[]⟩) ::
 (nat_lit 608,⟨.type "function",none,.func (oF "give_up" "Plain.give_up" (Ab1 (top 48) 5) "shadowpages.ways" 743 607),#[]⟩) ::
 (nat_lit 609,⟨.type "tuple",none,.seq #[] 0,#[]⟩) ::
 (nat_lit 611,⟨.type "tuple",none,.seq #[.str "self" 993,.str "page" 994] 0,#[]⟩) ::
 (nat_lit 612,⟨.type "tuple",none,.seq #[] 0,#[]⟩) ::
 (nat_lit 614,⟨.type "code",none,oC "come_back" 990 "Plain.come_back" 991 992 306 2 0 0 3 609 181 610 611 612 613 995 306 996,#[]⟩) ::
 (nat_lit 615,⟨.type "function",none,.func (oF "come_back" "Plain.come_back" (Ab1 (top 48) 6) "shadowpages.ways" 743 614),#[]⟩) ::
 (nat_lit 616,⟨.type "tuple",none,.seq #[] 0,#[]⟩) ::
 (nat_lit 618,⟨.type "tuple",none,.seq #[.str "self" 1001] 0,#[]⟩) ::
 (nat_lit 619,⟨.type "tuple",none,.seq #[] 0,#[]⟩) ::
 (nat_lit 621,⟨.type "code",none,oC "ask_house" 998 "Plain.ask_house" 999 1000 309 1 0 0 3 616 181 617 618 619 620 1002 309 1003,#[]⟩) ::
 (nat_lit 622,⟨.type "function",none,.func (oF "ask_house" "Plain.ask_house" (Ab1 (top 48) 7) "shadowpages.ways" 743 621),#[]⟩) ::
 (nat_lit 623,⟨.type "tuple",none,.seq #[.str "answers" 1005,.str "memory" 1006] 0,#[]⟩) ::
 (nat_lit 624,⟨.type "dict",none,(.dict #[⟨(PyData.keyHash P "__module__"),.str "__module__" 933,.str "shadowpages.ways" 743⟩,ki P "__firstlineno__" 937 284 936,kr P "__init__" 947 573,kr P "size" 954 580,kr P "has" 962 587,kr P "word_at" 971 594,kr P "put_word" 981 601,kr P "give_up" 989 608,kr P "come_back" 997 615,kr P "ask_house" 1004 622,kr P "__static_attributes__" 1007 623,kn P "__doc__" 1008] 2),#[]⟩) ::
 (nat_lit 625,⟨.type "type",none,(.cls ⟨"Plain",[.ref 557],[.ref 625,.ref 557,.ref 285,.type "object"],624,"Plain",true,[],[],false,none,false⟩),#[(some (.ref 560)),none,(some (.str "Plain" 926)),(some (.str "Plain" 934)),(some (.builtin "object.__new__")),(some (.bool true))]⟩) ::
 (nat_lit 628,⟨.type "tuple",none,.seq #[] 0,#[]⟩) ::
 (nat_lit 630,⟨.type "tuple",none,.seq #[.str "_law_script" 1016,.str "_law_k" 1017] 0,#[]⟩) ::
 (nat_lit 631,⟨.type "tuple",none,.seq #[] 0,#[]⟩) ::
 (nat_lit 633,⟨.type "code",none,oC "_law_cell_at" 1013 "_law_cell_at" 1014 1015 314 2 0 0 3 628 181 629 630 631 632 1018 314 1019,#[]⟩) ::
 (nat_lit 634,⟨.type "function",none,.func (oF "_law_cell_at" "_law_cell_at" (top 50) "law_shadowpages_k28_whole_plain" 1011 633),#[]⟩) ::
 (nat_lit 635,⟨.type "tuple",none,.seq #[] 0,#[]⟩) ::
 (nat_lit 637,⟨.type "tuple",none,.seq #[.str "_law_found" 1024] 0,#[]⟩) ::
 (nat_lit 638,⟨.type "tuple",none,.seq #[] 0,#[]⟩) ::
 (nat_lit 640,⟨.type "code",none,oC "_law_whole" 1021 "_law_whole" 1022 1023 318 1 0 0 3 635 181 636 637 638 639 1025 318 1026,#[]⟩) ::
 (nat_lit 641,⟨.type "function",none,.func (oF "_law_whole" "_law_whole" (top 51) "law_shadowpages_k28_whole_plain" 1011 640),#[]⟩) ::
 (nat_lit 642,⟨.type "tuple",none,.seq #[] 0,#[]⟩) ::
 (nat_lit 644,⟨.type "tuple",none,.seq #[.str "_law_cell" 1031,.str "_law_k" 1032,.str "_law_left" 1033,.str "_law_turn" 1034] 0,#[]⟩) ::
 (nat_lit 645,⟨.type "tuple",none,.seq #[] 0,#[]⟩) ::
 (nat_lit 647,⟨.type "code",none,oC "_law_own" 1028 "_law_own" 1029 1030 320 2 0 0 3 642 181 643 644 645 646 1035 320 1036,#[]⟩) ::
 (nat_lit 648,⟨.type "function",none,.func (oF "_law_own" "_law_own" (top 52) "law_shadowpages_k28_whole_plain" 1011 647),#[]⟩) ::
 (nat_lit 649,⟨.type "tuple",none,.seq #[] 0,#[]⟩) ::
 (nat_lit 651,⟨.type "tuple",none,.seq #[.str "_law_mixed" 1041,.str "_law_many" 1042,.str "_law_marks" 1043,.str "_law_page" 1044] 0,#[]⟩) ::
 (nat_lit 652,⟨.type "tuple",none,.seq #[] 0,#[]⟩) ::
 (nat_lit 654,⟨.type "code",none,oC "_law_row_by" 1038 "_law_row_by" 1039 1040 327 2 0 0 3 649 181 650 651 652 653 1045 327 1046,#[]⟩) ::
 (nat_lit 655,⟨.type "function",none,.func (oF "_law_row_by" "_law_row_by" (top 53) "law_shadowpages_k28_whole_plain" 1011 654),#[]⟩) ::
 (nat_lit 656,⟨.type "tuple",none,.seq #[] 0,#[]⟩) ::
 (nat_lit 658,⟨.type "tuple",none,.seq #[.str "_law_script" 1051,.str "_law_cell" 1052,.str "_law_many" 1053,.str "_law_mixed" 1054,.str "_law_left" 1055,.str "_law_pages_here" 1056,.str "_law_page" 1057,.str "_law_words" 1058,.str "_law_k" 1059] 0,#[]⟩) ::
 (nat_lit 659,⟨.type "tuple",none,.seq #[] 0,#[]⟩) ::
 (nat_lit 661,⟨.type "code",none,oC "_law_pages" 1048 "_law_pages" 1049 1050 335 1 0 0 3 656 181 657 658 659 660 1060 335 1061,#[]⟩) ::
 (nat_lit 662,⟨.type "function",none,.func (oF "_law_pages" "_law_pages" (top 54) "law_shadowpages_k28_whole_plain" 1011 661),#[]⟩) ::
 (nat_lit 663,⟨.type "tuple",none,.seq #[] 0,#[]⟩) ::
 (nat_lit 665,⟨.type "tuple",none,.seq #[.str "_law_pages_here" 1066,.str "_law_found" 1067,.str "_law_words" 1068] 0,#[]⟩) ::
 (nat_lit 666,⟨.type "tuple",none,.seq #[] 0,#[]⟩) ::
 (nat_lit 668,⟨.type "code",none,oC "_law_copy" 1063 "_law_copy" 1064 1065 355 1 0 0 3 663 181 664 665 666 667 1069 355 1070,#[]⟩) ::
 (nat_lit 669,⟨.type "function",none,.func (oF "_law_copy" "_law_copy" (top 55) "law_shadowpages_k28_whole_plain" 1011 668),#[]⟩) ::
 (nat_lit 670,⟨.type "tuple",none,.seq #[] 0,#[]⟩) ::
 (nat_lit 672,⟨.type "tuple",none,.seq #[.str "_law_cell" 1075,.str "_law_pick" 1076] 0,#[]⟩) ::
 (nat_lit 673,⟨.type "tuple",none,.seq #[] 0,#[]⟩) ::
 (nat_lit 675,⟨.type "code",none,oC "_law_place" 1072 "_law_place" 1073 1074 363 1 0 0 3 670 181 671 672 673 674 1077 363 1078,#[]⟩) ::
 (nat_lit 676,⟨.type "function",none,.func (oF "_law_place" "_law_place" (top 56) "law_shadowpages_k28_whole_plain" 1011 675),#[]⟩) ::
 (nat_lit 677,⟨.type "tuple",none,.seq #[] 0,#[]⟩) ::
 (nat_lit 679,⟨.type "tuple",none,.seq #[.str "_law_cell" 1083,.str "_law_many" 1084,.str "_law_some" 1085,.str "_law_word" 1086,.str "_law_mixed" 1087,.str "_law_number" 1088,.str "_law_kernel" 1089] 0,#[]⟩) ::
 (nat_lit 680,⟨.type "tuple",none,.seq #[] 0,#[]⟩) ::
 (nat_lit 682,⟨.type "code",none,oC "_law_deed" 1080 "_law_deed" 1081 1082 372 2 0 0 3 677 181 678 679 680 681 1090 372 1091,#[]⟩) ::
 (nat_lit 683,⟨.type "function",none,.func (oF "_law_deed" "_law_deed" (top 57) "law_shadowpages_k28_whole_plain" 1011 682),#[]⟩) ::
 (nat_lit 684,⟨.type "tuple",none,.seq #[] 0,#[]⟩) ::
 (nat_lit 686,⟨.type "tuple",none,.seq #[.str "_law_way" 1096,.str "_law_deed_here" 1097,.str "_law_word" 1098,.str "_law_first" 1099,.str "_law_second" 1100,.str "_law_kernel" 1101] 0,#[]⟩) ::
 (nat_lit 687,⟨.type "tuple",none,.seq #[] 0,#[]⟩) ::
 (nat_lit 689,⟨.type "code",none,oC "_law_call" 1093 "_law_call" 1094 1095 390 2 0 0 3 684 181 685 686 687 688 1102 390 1103,#[]⟩) ::
 (nat_lit 690,⟨.type "function",none,.func (oF "_law_call" "_law_call" (top 58) "law_shadowpages_k28_whole_plain" 1011 689),#[]⟩) ::
 (nat_lit 691,⟨.type "tuple",none,.seq #[] 0,#[]⟩) ::
 (nat_lit 693,⟨.type "tuple",none,.seq #[.str "_law_way" 1108,.str "_law_deed_here" 1109,.str "_law_told" 1110,.str "_law_fault" 1111,.str "e" 1112] 0,#[]⟩) ::
 (nat_lit 694,⟨.type "tuple",none,.seq #[] 0,#[]⟩) ::
 (nat_lit 696,⟨.type "code",none,oC "_law_do" 1105 "_law_do" 1106 1107 407 2 0 0 3 691 181 692 693 694 695 1113 407 1114,#[]⟩) ::
 (nat_lit 697,⟨.type "function",none,.func (oF "_law_do" "_law_do" (top 59) "law_shadowpages_k28_whole_plain" 1011 696),#[]⟩) ::
 (nat_lit 698,⟨.type "tuple",none,.seq #[] 0,#[]⟩) ::
 (nat_lit 700,⟨.type "tuple",none,.seq #[.str "_law_found" 1119,.str "_law_due_here" 1120] 0,#[]⟩) ::
 (nat_lit 701,⟨.type "tuple",none,.seq #[] 0,#[]⟩) ::
 (nat_lit 703,⟨.type "code",none,oC "_law_alike" 1116 "_law_alike" 1117 1118 417 2 0 0 3 698 181 699 700 701 702 1121 417 1122,#[]⟩) ::
 (nat_lit 704,⟨.type "function",none,.func (oF "_law_alike" "_law_alike" (top 60) "law_shadowpages_k28_whole_plain" 1011 703),#[]⟩) ::
 (nat_lit 705,⟨.type "tuple",none,.seq #[] 0,#[]⟩) ::
 (nat_lit 707,⟨.type "tuple",none,.seq #[.str "_law_found" 1127,.str "_law_due_here" 1128,.str "_law_words" 1129,.str "_law_word" 1130] 0,#[]⟩) ::
 (nat_lit 708,⟨.type "tuple",none,.seq #[] 0,#[]⟩) ::
 (nat_lit 710,⟨.type "code",none,oC "_law_is_image" 1124 "_law_is_image" 1125 1126 425 2 0 0 3 705 181 706 707 708 709 1131 425 1132,#[]⟩) ::
 (nat_lit 711,⟨.type "function",none,.func (oF "_law_is_image" "_law_is_image" (top 61) "law_shadowpages_k28_whole_plain" 1011 710),#[]⟩) ::
 (nat_lit 712,⟨.type "tuple",none,.seq #[] 0,#[]⟩) ::
 (nat_lit 714,⟨.type "tuple",none,.seq #[.str "_law_found" 1137,.str "_law_due_here" 1138,.str "_law_row" 1139,.str "_law_part" 1140] 0,#[]⟩) ::
 (nat_lit 715,⟨.type "tuple",none,.seq #[] 0,#[]⟩) ::
 (nat_lit 717,⟨.type "code",none,oC "_law_is_shelf" 1134 "_law_is_shelf" 1135 1136 436 2 0 0 3 712 181 713 714 715 716 1141 436 1142,#[]⟩) ::
 (nat_lit 718,⟨.type "function",none,.func (oF "_law_is_shelf" "_law_is_shelf" (top 62) "law_shadowpages_k28_whole_plain" 1011 717),#[]⟩) ::
 (nat_lit 719,⟨.type "tuple",none,.seq #[] 0,#[]⟩) ::
 (nat_lit 721,⟨.type "tuple",none,.seq #[.str "_law_pages_here" 1147,.str "_law_page" 1148] 0,#[]⟩) ::
 (nat_lit 722,⟨.type "tuple",none,.seq #[] 0,#[]⟩) ::
 (nat_lit 724,⟨.type "code",none,oC "_law_there" 1144 "_law_there" 1145 1146 446 2 0 0 3 719 181 720 721 722 723 1149 446 1150,#[]⟩) ::
 (nat_lit 725,⟨.type "function",none,.func (oF "_law_there" "_law_there" (top 63) "law_shadowpages_k28_whole_plain" 1011 724),#[]⟩) ::
 (nat_lit 726,⟨.type "tuple",none,.seq #[] 0,#[]⟩) ::
 (nat_lit 728,⟨.type "tuple",none,.seq #[.str "_law_root" 1155,.str "_law_pages_here" 1156,.str "_law_place_here" 1157,.str "_law_write" 1158,.str "_law_kernel" 1159,.str "_law_spots" 1160,.str "_law_page" 1161,.str "_law_rights" 1162,.str "_law_level" 1163,.str "_law_cell" 1164,.str "_law_row" 1165] 0,#[]⟩) ::
 (nat_lit 729,⟨.type "tuple",none,.seq #[] 0,#[]⟩) ::
 (nat_lit 731,⟨.type "code",none,oC "_law_walk" 1152 "_law_walk" 1153 1154 448 5 0 0 3 726 181 727 728 729 730 1166 448 1167,#[]⟩) ::
 (nat_lit 732,⟨.type "function",none,.func (oF "_law_walk" "_law_walk" (top 64) "law_shadowpages_k28_whole_plain" 1011 731),#[]⟩) ::
 (nat_lit 733,⟨.type "tuple",none,.seq #[] 0,#[]⟩) ::
 (nat_lit 735,⟨.type "tuple",none,.seq #[.str "_law_pages_here" 1172,.str "_law_trail" 1173,.str "_law_write" 1174,.str "_law_spot" 1175,.str "_law_bits" 1176,.str "_law_bit" 1177] 0,#[]⟩) ::
 (nat_lit 736,⟨.type "tuple",none,.seq #[] 0,#[]⟩) ::
 (nat_lit 738,⟨.type "code",none,oC "_law_marked" 1169 "_law_marked" 1170 1171 475 3 0 0 3 733 181 734 735 736 737 1178 475 1179,#[]⟩) ::
 (nat_lit 739,⟨.type "function",none,.func (oF "_law_marked" "_law_marked" (top 65) "law_shadowpages_k28_whole_plain" 1011 738),#[]⟩) ::
 (nat_lit 740,⟨.type "tuple",none,.seq #[] 0,#[]⟩) ::
 (nat_lit 742,⟨.type "tuple",none,.seq #[.str "_law_rows" 1184,.str "_law_most" 1185,.str "_law_row" 1186,.str "_law_at" 1187] 0,#[]⟩) ::
 (nat_lit 743,⟨.type "tuple",none,.seq #[] 0,#[]⟩) ::
 (nat_lit 745,⟨.type "code",none,oC "_law_kept" 1181 "_law_kept" 1182 1183 483 3 0 0 3 740 181 741 742 743 744 1188 483 1189,#[]⟩) ::
 (nat_lit 746,⟨.type "function",none,.func (oF "_law_kept" "_law_kept" (top 66) "law_shadowpages_k28_whole_plain" 1011 745),#[]⟩) ::
 (nat_lit 747,⟨.type "tuple",none,.seq #[] 0,#[]⟩) ::
 (nat_lit 749,⟨.type "tuple",none,.seq #[.str "_law_state" 1194,.str "_law_place_here" 1195,.str "_law_write" 1196,.str "_law_kernel" 1197,.str "_law_pages_here" 1198,.str "_law_number" 1199,.str "_law_page" 1200,.str "_law_rights" 1201,.str "_law_trail" 1202] 0,#[]⟩) ::
 (nat_lit 750,⟨.type "tuple",none,.seq #[] 0,#[]⟩) ::
 (nat_lit 752,⟨.type "code",none,oC "_law_reached" 1191 "_law_reached" 1192 1193 488 4 0 0 3 747 181 748 749 750 751 1203 488 1204,#[]⟩) ::
 (nat_lit 753,⟨.type "function",none,.func (oF "_law_reached" "_law_reached" (top 67) "law_shadowpages_k28_whole_plain" 1011 752),#[]⟩) ::
 (nat_lit 754,⟨.type "tuple",none,.seq #[] 0,#[]⟩) ::
 (nat_lit 756,⟨.type "tuple",none,.seq #[.str "_law_state" 1209,.str "_law_deed_here" 1210,.str "_law_word" 1211,.str "_law_place_here" 1212,.str "_law_saved" 1213,.str "_law_kernel" 1214,.str "_law_page" 1215] 0,#[]⟩) ::
 (nat_lit 757,⟨.type "tuple",none,.seq #[] 0,#[]⟩) ::
 (nat_lit 759,⟨.type "code",none,oC "_law_at_place" 1206 "_law_at_place" 1207 1208 500 2 0 0 3 754 181 755 756 757 758 1216 500 1217,#[]⟩) ::
 (nat_lit 760,⟨.type "function",none,.func (oF "_law_at_place" "_law_at_place" (top 68) "law_shadowpages_k28_whole_plain" 1011 759),#[]⟩) ::
 (nat_lit 761,⟨.type "tuple",none,.seq #[] 0,#[]⟩) ::
 (nat_lit 764,⟨.type "code",none,.fields #[.str "_law_due" 1219,.str "_law_due" 1220,.str "/claim/cut.py" 1221,.int 509 0,.int 2 0,.int 0 0,.int 0 0,.int 3 0,.ref 761,.bool true,.int 181 0,.ref 762,.none,.none,.none,.ref 763,.int 1222 0,.int 509 0,.str "/claim/cut.py" 1223],#[]⟩) ::
 (nat_lit 765,⟨.type "function",none,.func (oF "_law_due" "_law_due" (top 69) "law_shadowpages_k28_whole_plain" 1011 764),#[]⟩) ::
 (nat_lit 766,⟨.type "tuple",none,.seq #[] 0,#[]⟩) ::
 (nat_lit 768,⟨.type "tuple",none,.seq #[.str "_law_way" 1228,.str "_law_state" 1229,.str "_law_deed_here" 1230,.str "_law_cell" 1231,.str "_law_page" 1232,.str "_law_fault" 1233,.str "e" 1234] 0,#[]⟩) ::
 (nat_lit 769,⟨.type "tuple",none,.seq #[] 0,#[]⟩) ::
 (nat_lit 771,⟨.type "code",none,oC "_law_step" 1225 "_law_step" 1226 1227 538 4 0 0 3 766 181 767 768 769 770 1235 538 1236,#[]⟩) ::
 (nat_lit 772,⟨.type "function",none,.func (oF "_law_step" "_law_step" (top 70) "law_shadowpages_k28_whole_plain" 1011 771),#[]⟩) ::
 (nat_lit 773,⟨.type "tuple",none,.seq #[] 0,#[]⟩) ::
 (nat_lit 776,⟨.type "code",none,.fields #[.str "law" 1238,.str "law" 1239,.str "/claim/cut.py" 1240,.int 550 0,.int 1 0,.int 0 0,.int 0 0,.int 3 0,.ref 773,.bool true,.int 181 0,.ref 774,.none,.none,.none,.ref 775,.int 1241 0,.int 550 0,.str "/claim/cut.py" 1242],#[]⟩) ::
 (nat_lit 777,⟨.type "function",none,.func (oF "law" "law" (top 71) "law_shadowpages_k28_whole_plain" 1011 776),#[]⟩)::[]
def asF:List Nat:=[2,3,15,22,23,24,25,28,35,36,37,40,47,48,49,52,59,60,61,64,71,72,73,76,83,84,85,88,95,97,98,100,101,102,103,104,107,109,110,112,113,114,116,117,119,120,121,123,124,126,127,128,130,131,133,134,135,137,138,140,141,149,151,152,154,155,156,158,159,161,162,163,165,166,168,169,170,172,173,175,176,177,179,180,182,183,184,187,188,189,190,191,192,193,196,199,200,201,203,204,206,207,208,210,211,213,214,222,224,225,227,228,229,231,232,234,235,236,238,239,241,242,243,245,246,248,249,250,252,253,255,256,257,259,260,262,263,264,267,268,269,271,272,274,275,276,278,279,281,282,283,284,285,286,287,290,297,300,301,302,304,305,307,308,309,311,312,314,315,316,318,319,321,322,323,325,326,328,329,330,332,333,335,336,337,339,340,342,343,344,347,348,349,350,351,354,356,357,359,360,361,363,364,366,367,368,370,371,373,374,375,377,378,380,381,382,384,385,387,388,389,391,392,394,395,396,398,399,401,402,403,405,406,408,409,410,412,413,415,416,417,424,426,427,429,430,431,433,434,436,437,438,440,441,443,444,445,447,448,450,451,452,454,455,457,458,459,461,462,464,465,466,468,469,471,472,473,475,476,478,479,480,482,483,485,486,487,489,490,492,493,494,496,497,499,500,501,503,504,506,507,508,510,511,513,514,515,517,518,520,521,522,524,525,527,528,529,531,532,534,535,536,538,539,541,542,543,545,546,548,549,550,553,554,555,556,557,560,567,569,570,572,573,574,576,577,579,580,581,583,584,586,587,588,590,591,593,594,595,597,598,600,601,602,604,605,607,608,609,611,612,614,615,616,618,619,621,622,623,624,625,628,630,631,633,634,635,637,638,640,641,642,644,645,647,648,649,651,652,654,655,656,658,659,661,662,663,665,666,668,669,670,672,673,675,676,677,679,680,682,683,684,686,687,689,690,691,693,694,696,697,698,700,701,703,704,705,707,708,710,711,712,714,715,717,718,719,721,722,724,725,726,728,729,731,732,733,735,736,738,739,740,742,743,745,746,747,749,750,752,753,754,756,757,759,760,761,764,765,766,768,769,771,772,773,776,777]
theorem hF (P:Params):asF=(KF P).map (·.1):=by kernel_rfl
noncomputable def vw:Program:={ PySem.Challenge.pw_shadowpages_k28_whole_plain with main:={ PySem.Challenge.pw_shadowpages_k28_whole_plain.main with body:=[top 0,top 1,top 2,top 3,top 4,top 5,top 6,top 8,top 9,top 10,top 11,top 12,top 13,top 14,top 16,top 17,top 18,top 20,top 21,top 23,top 25,top 26,top 27,top 28,top 29,top 31,top 32,top 33,top 34,top 35,top 36,top 37,top 38,top 40,top 41,top 42,top 43,top 44,top 45,top 47,top 48,top 50,top 51,top 52,top 53,top 54,top 55,top 56,top 57,top 58,top 59,top 60,top 61,top 62,top 63,top 64,top 65,top 66,top 67,top 68,top 69,top 70,top 71] } }
set_option maxHeartbeats 0
theorem hlA (w:World):(λos=>HT1.lookA PySem.Challenge.rw_shadowpages_k28_whole_plain.row.prog 11244 w os)=λ_=>some true:=by
 rw [PySem.W.Fast.te13591143678367923999]
 kernel_rfl
theorem hlB (w:World):(λos=>HT1.lookB PySem.Challenge.rw_shadowpages_k28_whole_plain.row.prog vw [] (λs=>PySem.W.xlAt vw [] s && PySem.W.recOk [] s) 11244 true w os)=λ_=>some (PySem.W.openGood vw []):=by
 rw [PySem.W.Fast.te5241254245284736920,PySem.W.Fast.te4757257242682413121,PySem.W.Fast.te6483871617321286689,PySem.W.Fast.te3486900944545009338]
 kernel_rfl
theorem hlC (w:World):(λos=>HT1.lookC PySem.Challenge.rw_shadowpages_k28_whole_plain.row.prog (PySem.W.kHook KF asF hF).obs 11244 w os)=λ_=>some ((PySem.W.kHook KF asF hF).val w):=by
 rw [PySem.W.Fast.te2443828885070181157]
 kernel_rfl
theorem hl:PySem.W.LeftO PySem.Challenge.rw_shadowpages_k28_whole_plain.row.prog vw [] (λs=>PySem.W.xlAt vw [] s && PySem.W.recOk [] s) (PySem.W.kHook KF asF hF).obs (PySem.W.kHook KF asF hF).val 11244:=HT1.left_three (by rfl) (by rfl) (λ_=>rfl) hlA hlB hlC
end K28
end
section
namespace L2
open PySem PySem.Spec PyProof.Rows
abbrev Key:=Sum Int Str
def Bk5:Key->Value->Bool
 | .inl k,v=>Value.isInt k v
 | .inr x,v=>Value.isStrOf x v
def keyH (w:World):Key->Int
 | .inl k=>hashInt k
 | .inr x=>hashStr w x
theorem Af3:∀ {k:Key} {v:Value},Bk5 k v=true->(∃ i t,k=Sum.inl i/\v=Value.int i t)\/(∃ x t,k=Sum.inr x/\v=Value.str x t)
 | .inl i,v,h=>by
  obtain ⟨t,e⟩:=Value.isInt_shape (k:=i) (v:=v) h
  exact .inl ⟨i,t,rfl,e⟩
 | .inr x,v,h=>by
  obtain ⟨t,e⟩:=Value.isStrOf_shape (x:=x) (v:=v) h
  exact .inr ⟨x,t,rfl,e⟩
theorem By3 (i:Int) (t:Tok):Bk5 (.inl i) (.int i t)=true:=by simp [Bk5,Value.isInt]
theorem By2 (x:Str) (t:Tok):Bk5 (.inr x) (.str x t)=true:=by simp [Bk5,Value.isStrOf]
theorem Cz7 (a b:Int):decide ((Sum.inl a:Key)=Sum.inl b)=(a == b):=by
 by_cases e:a=b
 ·subst e; simp
 ·have h:¬ (Sum.inl a:Key)=Sum.inl b:=λq=>e (Sum.inl.inj q)
  rw [decide_eq_false h]
  exact (beq_eq_false_iff_ne.mpr e).symm
theorem Cz4 (a b:Str):decide ((Sum.inr a:Key)=Sum.inr b)=decide (a=b):=by
 by_cases e:a=b
 ·subst e; simp
 ·have h:¬ (Sum.inr a:Key)=Sum.inr b:=λq=>e (Sum.inr.inj q)
  rw [decide_eq_false h,decide_eq_false e]
theorem Cz6 (a:Int) (b:Str):decide ((Sum.inl a:Key)=Sum.inr b)=false:=decide_eq_false (λq=>nomatch q)
theorem Cz5 (a:Str) (b:Int):decide ((Sum.inr a:Key)=Sum.inl b)=false:=decide_eq_false (λq=>nomatch q)
def Ae9 (prog:Program) (w:World):PySem.KeyKind prog w Key where
 is:=Bk5
 hash:=keyH w
 inj:=λv a b ha hb=>by
  rcases Af3 ha with ⟨i,t,rfl,rfl⟩ | ⟨x,t,rfl,rfl⟩
  ·rcases Af3 hb with ⟨j,u,rfl,e⟩ | ⟨y,u,rfl,e⟩
   ·injection e with e1 _; rw [e1]
   ·exact nomatch e
  ·rcases Af3 hb with ⟨j,u,rfl,e⟩ | ⟨y,u,rfl,e⟩
   ·exact nomatch e
   ·injection e with e1 _; rw [e1]
 byValue:=λk v h=>by
  rcases Af3 h with ⟨i,t,rfl,rfl⟩ | ⟨x,t,rfl,rfl⟩ <;> rfl
 pyHash:=λhv h=>by
  rcases Af3 hv with ⟨i,t,rfl,rfl⟩ | ⟨x,t,rfl,rfl⟩
  ·exact wpAny_pyHash_int h
  ·exact wpAny_pyHash_str h
 eqBool:=λhu hv h=>by
  rcases Af3 hu with ⟨i,t,rfl,rfl⟩ | ⟨x,t,rfl,rfl⟩
  ·rcases Af3 hv with ⟨j,u,rfl,rfl⟩ | ⟨y,u,rfl,rfl⟩
   ·rw [Cz7] at h; exact wpAny_eqBool_int h
   ·rw [Cz6] at h; exact SeqAt.EqAt.int_str i t y u _ _ _ _ h
  ·rcases Af3 hv with ⟨j,u,rfl,rfl⟩ | ⟨y,u,rfl,rfl⟩
   ·rw [Cz5] at h; exact SeqAt.EqAt.str_int x t j u _ _ _ _ h
   ·rw [Cz4] at h; exact wpAny_eqBool_str h
 «strs»:=λk x t v h=>by
  rcases Af3 h with ⟨i,u,rfl,e⟩ | ⟨y,u,rfl,e⟩
  ·exact nomatch e
  ·injection e with e1 _
   subst e1
   cases v <;> rfl
theorem Bi8 (prog:Program) (w:World) (i:Int) (t:Tok):(Ae9 prog w).is (.inl i) (.int i t)=true:=By3 i t
theorem Bi7 (prog:Program) (w:World) (x:Str) (t:Tok):(Ae9 prog w).is (.inr x) (.str x t)=true:=By2 x t
end L2
namespace L2
open PySem PySem.Spec PyProof.Rows
inductive V where
 | non | bl (b:Bool) | int (i:Int) | str (x:Str) | byt (b:Array UInt8) | flt (b:UInt64) | ref (a:Addr) | ty (n:String)
 deriving DecidableEq
def RelV:V->Value->Prop
 | .non,u=>u=Value.none
 | .bl b,u=>u=Value.bool b
 | .int i,u=>∃ t,u=Value.int i t
 | .str x,u=>∃ t,u=Value.str x t
 | .byt b,u=>∃ t,u=Value.bytes b t
 | .flt b,u=>∃ t,u=Value.float b t
 | .ref a,u=>u=Value.ref a
 | .ty n,u=>u=Value.type n
abbrev Vals:List V->List Value->Prop:=Paired RelV
theorem Vals.length {xs:List V} {us:List Value} (r:Vals xs us):xs.length=us.length:=Paired.length r
theorem Vals.get:∀ {xs:List V} {us:List Value} {i:Nat} {x:V},Vals xs us->xs[i]?=some x->∃ u,us[i]?=some u/\RelV x u
 | _,_,_,_,.nil,e=>by simp at e
 | _,_,0,_,.cons r _,e=>by simp at e; subst e; exact ⟨_,rfl,r⟩
 | _,_,i+1,x,.cons _ t,e=>by
  obtain ⟨u,h1,h2⟩:=Vals.get (i:=i) (x:=x) t (by simpa using e)
  exact ⟨u,by simpa using h1,h2⟩
theorem Vals.set {x:V} {u:Value} (r:RelV x u):∀ {xs:List V} {us:List Value} (i:Nat),Vals xs us->Vals (xs.set i x) (us.set i u)
 | _,_,_,.nil=>.nil
 | _,_,0,.cons _ t=>.cons r t
 | _,_,i+1,.cons q t=>.cons q (Vals.set r i t)
theorem Vals.append:∀ {xs ys:List V} {us ws:List Value},Vals xs us->Vals ys ws->Vals (xs++ys) (us++ws)
 | _,_,_,_,.nil,s=>s
 | _,_,_,_,.cons r t,s=>.cons r (Vals.append t s)
theorem Vals.take:∀ {xs:List V} {us:List Value} (n:Nat),Vals xs us->Vals (xs.take n) (us.take n)
 | _,_,0,_=>.nil
 | _,_,_+1,.nil=>.nil
 | _,_,n+1,.cons r t=>.cons r (Vals.take n t)
theorem Vals.drop:∀ {xs:List V} {us:List Value} (n:Nat),Vals xs us->Vals (xs.drop n) (us.drop n)
 | _,_,0,r=>r
 | _,_,_+1,.nil=>.nil
 | _,_,n+1,.cons _ t=>Vals.drop n t
def RelO:Option V->Option Value->Prop
 | some v,some u=>RelV v u
 | none,none=>True
 | _,_=>False
def KV {κ:Type}:List (κ×V)->List (κ×Value)->Prop:=Paired λ(p:κ×V) (q:κ×Value)=>p.1=q.1/\RelV p.2 q.2
def kV:Key->V
 | .inl i=>.int i
 | .inr x=>.str x
inductive HO where
  | lst (xs:List V)
  | tup (xs:List V)
  | dK (kvs:List (Key×V)) | dT (kvs:List (List Key×V))
  | set (S:Int->Bool) (n:Nat)
  | ins (C dx:Addr) (fs:List (Str×V))
  | own (x:Addr)
  | xd (fs:List (Str×V))
  | met (f x:Addr)
  | rng (lo hi:Int)
  | frz (o:Obj) (u:HO)
  | tbl (ps:Array Value)
  | ext (φ:Heap->Prop)
abbrev Hp:=Addr->Option HO
def upd (H:Hp) (a:Addr) (o:HO):Hp:=λb=>if b=a then some o else H b
theorem upd_same {H:Hp} {a:Addr} {o:HO}:upd H a o a=some o:=by unfold upd; rw [if_pos rfl]
theorem Aa7 {H:Hp} {a b:Addr} {o:HO} (h:b≠a):upd H a o b=H b:=by unfold upd; rw [if_neg h]
theorem Af1 {H:Hp} {a b:Addr} {o u:HO} (h:H a=some o) (h':H b=some u) (d:o≠u):a≠b:=by
 intro e; subst e; rw [h] at h'; exact d (Option.some.inj h')
theorem Ac7 {H:Hp} {a b:Addr} {o:HO} (h:H a=some o) (h':H b=none):a≠b:=by
 intro e; subst e; rw [h] at h'; cases h'
section
variable (P : Program) (w : World)
def ObjOk (H:Hp) (h:Heap) (a:Addr):HO->Prop
 | .lst xs=>xs.length<=sizeLine/\∃ (its:List Value) (n:Nat),Vals xs its/\h.get? a=some { cls:=.type "list",data:=.seq its.toArray n }
 | .tup xs=>xs.length<=sizeLine/\∃ its:List Value,Vals xs its/\IsTup h a its.toArray
 | .dK kvs=>kvs.length<=sizeLine/\(a == sysModules)=false/\∃ vs,KV kvs vs/\h.DictOf (Ae9 P w) a vs
 | .dT kvs=>kvs.length<=sizeLine/\(a == sysModules)=false/\∃ xs:List (List Key×Addr×Value),
   Paired (λ(p:List Key×V) (q:List Key×Addr×Value)=>p.1=q.1/\H q.2.1=some (.tup (p.1.map kV))/\RelV p.2 q.2.2) kvs xs /\
   ∃ o es ep,h.get? a=some o/\o.ExactDict/\o.data=.dict es ep/\es.toList=xs.map (entryOfKey (tupleKind (Ae9 P w)))/\(xs.map (·.1)).Nodup
 | .set S n=>h.SetOf (intKind P w) a S n
 | .ins C dx fs=>H dx=some (.own a)/\fs.length<=1000/\dx≠a/\h.get? a=some (PySem.W.instObj C dx) /\
   ∃ mA,h.Ns1 dx mA/\(∀ f,RelO (fs.lookup f) (mA f))/\PySem.Within mA (fs.map (·.1))
 | .own _=>∃ o,h.get? a=some o
 | .xd fs=>∃ mA,h.Ns1 a mA/\∀ f,RelO (fs.lookup f) (mA f)
 | .rng lo hi=>∃ t u v,h.get? a=some { cls:=.type "range",data:=.fields #[.int lo t,.int hi u,.int 1 v] }
 | .frz o u=>h.get? a=some o/\ObjOk H h a u
 | .tbl ps=>h.get? a=some { cls:=.none,data:=.fields ps }
 | .met f x=>h.get? a=some (PySem.W.methodObj (.ref f) (.ref x))
 | .ext φ=>φ h/\(∃ o,h.get? a=some o)/\∀ h1 h2:Heap,φ h1->(∀ o,h1.get? a=some o->h2.get? a=some o)->φ h2
def HOk (H:Hp) (h:Heap):Prop:=∀ a o,H a=some o->ObjOk P w H h a o
end
section
variable {P : Program} {w : World} {H H' : Hp} {h h' : Heap} {a : Addr} {o : HO}
theorem ObjOk.lt (x:ObjOk P w H h a o):a<h.objs.size:=by
 cases o with
 | lst xs=>obtain ⟨_,_,_,_,e⟩:=x; exact Heap.lt_size e
 | tup xs=>obtain ⟨_,_,_,p⟩:=x; exact p.lt
 | dK kvs=>obtain ⟨_,_,_,_,o,_,_,e,_⟩:=x; exact Heap.lt_size e
 | dT kvs=>obtain ⟨_,_,_,_,o,_,_,e,_⟩:=x; exact Heap.lt_size e
 | set S n=>obtain ⟨o,_,_,_,e,_⟩:=x; exact Heap.lt_size e
 | ins C dx fs=>obtain ⟨_,_,_,e,_⟩:=x; exact Heap.lt_size e
 | own y=>obtain ⟨_,e⟩:=x; exact Heap.lt_size e
 | xd fs=>obtain ⟨_,⟨_,_,_,e,_⟩,_⟩:=x; exact Heap.lt_size e
 | rng lo hi=>obtain ⟨_,_,_,e⟩:=x; exact Heap.lt_size e
 | frz ob u=>obtain ⟨e,_⟩:=x; exact Heap.lt_size e
 | tbl ps=>exact Heap.lt_size (show h.get? a=some _ from x)
 | met f y=>exact Heap.lt_size (show h.get? a=some _ from x)
 | ext φ=>obtain ⟨_,⟨_,e⟩,_⟩:=x; exact Heap.lt_size e
theorem Paired.mapP {α β:Type} {F G:α->β->Prop}:∀ {l₁:List α} {l₂:List β},Paired F l₁ l₂->(∀ a b,F a b->G a b)->Paired G l₁ l₂
 | _,_,.nil,_=>.nil
 | _,_,.cons r t,f=>.cons (f _ _ r) (Paired.mapP t f)
theorem ObjOk.stay (x:ObjOk P w H h a o) (k:∀ b u,(b=a\/H b=some (.own a))->h.get? b=some u->h'.get? b=some u)
  (ho:∀ b,H b=some (.own a)->H' b=some (.own a)) (ht:∀ b xs,H b=some (.tup xs)->H' b=some (.tup xs)):ObjOk P w H' h' a o:=by
 induction o with
 | lst xs=>obtain ⟨z,its,n,r,e⟩:=x; exact ⟨z,its,n,r,k _ _ (.inl rfl) e⟩
 | tup xs=>obtain ⟨z,its,r,ob,e,c⟩:=x; exact ⟨z,its,r,ob,k _ _ (.inl rfl) e,c⟩
 | dK kvs=>obtain ⟨z,y,vs,r,ob,es,ep,e,c⟩:=x; exact ⟨z,y,vs,r,ob,es,ep,k _ _ (.inl rfl) e,c⟩
 | dT kvs =>
  obtain ⟨z,y,xs,r,ob,es,ep,e,c⟩:=x
  exact ⟨z,y,xs,Paired.mapP r λp q z=>⟨z.1,ht _ _ z.2.1,z.2.2⟩,ob,es,ep,k _ _ (.inl rfl) e,c⟩
 | set S n=>obtain ⟨ob,es,ep,t,e,c⟩:=x; exact ⟨ob,es,ep,t,k _ _ (.inl rfl) e,c⟩
 | ins C dx fs =>
  obtain ⟨d,z,ne,e,mA,⟨od,es,ep,e2,c⟩,r⟩:=x
  exact ⟨ho _ d,z,ne,k _ _ (.inl rfl) e,mA,⟨od,es,ep,k _ _ (.inr d) e2,c⟩,r⟩
 | own y=>obtain ⟨ob,e⟩:=x; exact ⟨ob,k _ _ (.inl rfl) e⟩
 | xd fs=>obtain ⟨mA,⟨od,es,ep,e,c⟩,r⟩:=x; exact ⟨mA,⟨od,es,ep,k _ _ (.inl rfl) e,c⟩,r⟩
 | rng lo hi=>obtain ⟨t,u,v,e⟩:=x; exact ⟨t,u,v,k _ _ (.inl rfl) e⟩
 | frz ob u ih=>obtain ⟨e,q⟩:=x; exact ⟨k _ _ (.inl rfl) e,ih q⟩
 | tbl ps =>
  have e:h.get? a=some { cls:=.none,data:=.fields ps }:=x
  show h'.get? a=some { cls:=.none,data:=.fields ps }
  exact k a _ (.inl rfl) e
 | met f y =>
  have e:h.get? a=some (PySem.W.methodObj (.ref f) (.ref y)):=x
  show h'.get? a=some (PySem.W.methodObj (.ref f) (.ref y))
  exact k a _ (.inl rfl) e
 | ext φ=>obtain ⟨p,⟨o,e⟩,st⟩:=x; exact ⟨st _ _ p λo q=>k _ _ (.inl rfl) q,⟨o,k _ _ (.inl rfl) e⟩,st⟩
theorem HOk.lt (x:HOk P w H h) (e:H a=some o):a<h.objs.size:=(x a o e).lt
theorem HOk.fresh (x:HOk P w H h) (e:h.objs.size<=a):H a=none:=by
 cases q:H a with
 | none=>rfl
 | some u=>exact absurd (Nat.lt_of_lt_of_le (x.lt q) e) (Nat.lt_irrefl _)
theorem HOk.kept (x:HOk P w H h) (k:∀ b u,h.get? b=some u->h'.get? b=some u):HOk P w H h':=λa o e =>
 (x a o e).stay (λb u _ q=>k b u q) (λ_ q=>q) λ_ _ q=>q
theorem HOk.laid (x:HOk P w H h) (k:∀ b u,h.get? b=some u->h'.get? b=some u) (hp:h.objs.size<=a) (new:ObjOk P w (upd H a o) h' a o):HOk P w (upd H a o) h':=λb u e=>by
 have hn:=x.fresh hp
 by_cases hb:b=a
 ·subst hb; rw [upd_same] at e; cases e; exact new
 ·rw [Aa7 hb] at e
  exact (x b u e).stay (λc v _ q=>k c v q) (λc q=>by rw [Aa7 (Ac7 q hn)]; exact q) λc xs q=>by rw [Aa7 (Ac7 q hn)]; exact q
end
def Rd (H:Hp) (a:Addr) (u:HO):Prop:=H a=some u\/∃ o,H a=some (.frz o u)
theorem Rd.of {H:Hp} {a:Addr} {u:HO} (h:H a=some u):Rd H a u:=.inl h
theorem Rd.ok {P:Program} {w:World} {H:Hp} {h:Heap} {a:Addr} {u:HO} (r:Rd H a u) (x:HOk P w H h):ObjOk P w H h a u:=by
 rcases r with r | ⟨o,r⟩
 ·exact x a u r
 ·obtain ⟨_,q⟩:=x a _ r
  exact q
def Mut:Option HO->Prop
 | some (.lst _)=>True
 | some (.dK _)=>True
 | some (.dT _)=>True
 | some (.set _ _)=>True
 | some (.ins _ _ _)=>True
 | some (.ext _)=>True
 | _=>False
section
variable {P : Program} {w : World} {H : Hp} {h h' : Heap} {x e : Addr} {o' : HO}
theorem HOk.write (ok:HOk P w H h) (mu:Mut (H x)) (he:e=x\/H e=some (.own x)) (k:∀ b u,b≠e->h.get? b=some u->h'.get? b=some u) (heo:∃ u,h'.get? e=some u)
  (new:ObjOk P w (upd H x o') h' x o'):HOk P w (upd H x o') h':=λb u q=>by
 have nown:∀ c y,H c=some (.own y)->c≠x:=λc y r z=>by subst z; rw [r] at mu; exact mu
 have ntup:∀ c xs,H c=some (.tup xs)->c≠x:=λc xs r z=>by subst z; rw [r] at mu; exact mu
 by_cases hb:b=x
 ·subst hb; rw [upd_same] at q; cases q; exact new
 ·rw [Aa7 hb] at q
  by_cases hbe:b=e
  ·have q':H b=some (.own x):=by
    rcases he with z | z
    ·exact absurd (hbe.trans z) hb
    ·rw [hbe]; exact z
   rw [q] at q'; cases q'
   obtain ⟨v,hv⟩:=heo
   exact ⟨v,by rw [hbe]; exact hv⟩
  ·refine (ok b u q).stay (λc v hc r=>k c v ?_ r) (λc r=>by rw [Aa7 (nown c b r)]; exact r) λc xs r=>by rw [Aa7 (ntup c xs r)]; exact r
   rcases hc with rfl | hc
   ·exact hbe
   ·rintro rfl
    rcases he with z | z
    ·exact nown c b hc z
    ·rw [hc] at z; cases z; exact hb rfl
end
structure Un (fs ex:List Addr) (H H':Hp) (h h':Heap):Prop where
 keep:∀ b o,h.get? b=some o->H b=none->b ∉ fs->b ∉ ex->h'.get? b=some o
 slot:∀ b o,h.get? b=some o->H b=none->b ∈ fs->b ∉ ex->∃ sl,h'.get? b=some { o with slots:=sl }
 free:∀ b o,h.get? b=some o->H b=none->b ∉ ex->H' b=none
 there:∀ b o,h.get? b=some o->b ∉ ex->∃ o',h'.get? b=some o'
 tups:∀ b xs,H b=some (.tup xs)->H' b=some (.tup xs)
 frzs:∀ b o u,H b=some (.frz o u)->H' b=some (.frz o u)
 tbls:∀ b ps,H b=some (.tbl ps)->∃ more,H' b=some (.tbl (ps++more))
section
variable {fs fs' ex ex' : List Addr} {H H1 H2 : Hp} {h h1 h2 h' : Heap} {a x e : Addr} {o : HO}
theorem Un.any (u:Un fs ex H H1 h h1) {b:Addr} {ob:Obj} (q:h.get? b=some ob) (n:H b=none) (hx:b ∉ ex):∃ sl,h1.get? b=some { ob with slots:=sl }:=by
 by_cases hb:b ∈ fs
 ·exact u.slot b ob q n hb hx
 ·exact ⟨ob.slots,u.keep b ob q n hb hx⟩
theorem Un.kept (k:∀ b u,h.get? b=some u->h'.get? b=some u):Un fs ex H H h h' :=
 ⟨λb ob q _ _ _=>k b ob q,λb ob q _ _ _=>⟨ob.slots,k b ob q⟩,λ_ _ _ n _=>n,λb ob q _=>⟨ob,k b ob q⟩,λ_ _ q=>q,λ_ _ _ q=>q,λ_ ps q=>⟨#[],by rw [q]; simp⟩⟩
theorem Un.refl:Un fs ex H H h h:=Un.kept λ_ _ q=>q
theorem Un.laid (k:∀ b u,h.get? b=some u->h'.get? b=some u) (hp:h.objs.size<=a) (hn:H a=none):Un fs ex H (upd H a o) h h' where
 keep:=λb u q _ _ _=>k b u q
 slot:=λb u q _ _ _=>⟨u.slots,k b u q⟩
 free:=λb u q n _=>by rw [Aa7 (Nat.ne_of_lt (Nat.lt_of_lt_of_le (Heap.lt_size q) hp))]; exact n
 there:=λb u q _=>⟨u,k b u q⟩
 tups:=λb xs q=>by rw [Aa7 (Ac7 q hn)]; exact q
 frzs:=λb u xs q=>by rw [Aa7 (Ac7 q hn)]; exact q
 tbls:=λb ps q=>⟨#[],by rw [Aa7 (Ac7 q hn),q]; simp⟩
theorem Un.write (mu:Mut (H x)) (he:e=x\/H e=some (.own x)) (k:∀ b u,b≠e->h.get? b=some u->h'.get? b=some u) (heo:∃ u,h'.get? e=some u):Un fs ex H (upd H x o) h h':=by
 have hx:∀ b,H b=none->b≠x:=λb n z=>by subst z; rw [n] at mu; exact mu
 have hb:∀ b,H b=none->b≠e:=λb n z=>by
  subst z
  rcases he with r | r
  ·exact hx b n r
  ·rw [n] at r; cases r
 have hm:∀ b u,H b=some u->¬ Mut (some u)->b≠x:=λb u q nm z=>by subst z; rw [q] at mu; exact nm mu
 refine ⟨λb u q n _ _=>k b u (hb b n) q,λb u q n _ _=>⟨u.slots,k b u (hb b n) q⟩,λb u q n _=>by rw [Aa7 (hx b n)]; exact n,λb u q _=>?_,
  λb xs q=>by rw [Aa7 (hm b _ q λz=>z)]; exact q,λb u xs q=>by rw [Aa7 (hm b _ q λz=>z)]; exact q,λb ps q=>⟨#[],by rw [Aa7 (hm b _ q λz=>z),q]; simp⟩⟩
 by_cases hbe:b=e
 ·subst hbe; exact heo
 ·exact ⟨u,k b u hbe q⟩
end
def trk (h:Heap) (H:Hp):List Addr:=(List.range h.objs.size).filter λa=>(H a).isSome
def hidT (h:Heap) (H:Hp):Heap:=PySem.W.hideAll h (trk h H)
theorem By9 (h:Heap) (H:Hp):(hidT h H).objs.size=h.objs.size:=PySem.W.hideAll_size _ _
theorem Cj5 {h:Heap} {H:Hp} {b:Addr} {o:Obj} (e:h.get? b=some o) (n:H b=none):(hidT h H).get? b=some o :=
 PySem.W.hideAll_get _ e λhm=>by
  have q:(H b).isSome=true:=(List.mem_filter.mp hm).2
  rw [n] at q; simp at q
theorem Cs8 {h:Heap} {H:Hp} {b:Addr} {o:Obj} (e:(hidT h H).get? b=some o):h.get? b=some o/\H b=none:=by
 have e':h.get? b=some o:=PySem.W.of_hideAll (trk h H) e
 refine ⟨e',?_⟩
 cases q:H b with
 | none=>rfl
 | some x =>
  have hm:b ∈ trk h H:=List.mem_filter.mpr ⟨List.mem_range.mpr (Heap.lt_size e'),by simp [q]⟩
  have z:(hidT h H).get? b=none:=PySem.W.hideAll_none (trk h H) hm
  rw [z] at e; cases e
end L2
namespace L2
open PySem PySem.Spec PyProof.Rows
structure Mod (K:PySem.W.Frag) (mg:Str->Option Value) (base:Heap):Prop where
 kin:K.In base
 glob:base.Ns mainGlobals mg
 blt:∃ mb,base.Ns builtinsNs mb/\∀ x:Str,x≠"__name__"->mb x=bootBuiltins x
 nolimit:base.NoLimit
structure Cx where
 prog:Program
 w:World
 K:PySem.W.Frag
 mg:Str->Option Value
 base:Heap
 A:Around
 N:List Str
 s₀:Shared
 H₀:Hp
 env:Env
 outer:List Env
 stack:List Env
 ex:List Addr
 fn:Str->Bool
 calm:Bool
 pn:List (Addr×Obj)
 xe:Value->Shared->Prop
def frs (l:List Env):List Addr:=l.filterMap (·.frame)
abbrev Cx.fs (X:Cx):List Addr:=frs X.outer
def Vis (sc:Scope) (x:Str):Prop:=sc.names.lookup x=some .local\/sc.names.lookup x=some .cell\/sc.names.lookup x=some .free
def Loc (sc:Scope) (x:Str):Prop:=sc.names.lookup x=some .local\/sc.names.lookup x=some .cell
def Look (env:Env) (h:Heap) (m:Str->Option Value) (x:Str) (u:Value):Prop :=
 (env.kindOf x=some .local/\m x=some u)\/((env.kindOf x=some .cell\/env.kindOf x=some .free)/\∃ c,env.cells.lookup x=some c/\h.IsCell c (some u))
structure Cx.Ok (X:Cx):Prop where
 mod:Mod X.K X.mg X.base
 kind:X.env.scope.kind=.function
 glob:X.env.globals=mainGlobals
 blt:X.env.builtins=builtinsNs
 above:X.s₀.heap.objs.size<=X.env.locals
 inj:∀ x y c,X.env.cells.lookup x=some c->X.env.cells.lookup y=some c->x=y
 has:∀ x,(X.env.kindOf x=some .cell\/X.env.kindOf x=some .free)->∃ c,X.env.cells.lookup x=some c
 cab:∀ x c,X.fn x=true->X.env.cells.lookup x=some c->X.s₀.heap.objs.size<=c
 hd:X.calm=true->X.A.handled=none
 frames:X.A.frames=some X.stack
 stk:X.stack=X.outer\/(X.stack=X.env::X.outer/\X.env.frame=some X.env.locals)
 exf:∀ b ∈ X.ex,b≠X.env.locals/\∀ x c,X.env.cells.lookup x=some c->c≠b
 bs:∀ b o,X.base.get? b=some o->X.s₀.heap.get? b=some o/\X.H₀ b=none
 bsz:X.base.objs.size<=X.s₀.heap.objs.size
 noex:∀ b o,X.base.get? b=some o->b ∉ X.ex
 exfs:∀ b ∈ X.ex,b ∉ X.fs
 funs:X.s₀.heap.FunFrames X.base X.outer
 frf:∀ b ∈ X.fs,X.H₀ b=none
structure Inv (X:Cx) (pins:List (Addr×Obj)) (σ:List (Option V)) (H:Hp) (s:Shared):Prop where
 ok:X.Ok
 os:s.os=X.s₀.os
 bare:AllBare s.gens
 base:Un X.fs X.ex X.H₀ H X.s₀.heap s.heap
 loc:∃ m,s.heap.Ns X.env.locals m/\∀ (i:Nat) (x:Str) (v:V),X.N[i]?=some x->σ[i]?=some (some v)->Vis X.env.scope x->∃ u,RelV v u/\Look X.env s.heap m x u
 cell:∀ x c,X.env.cells.lookup x=some c->∃ v,s.heap.IsCell c v
 free:H X.env.locals=none
 freeC:∀ x c,X.env.cells.lookup x=some c->H c=none
 pin:∀ p ∈ X.pn++pins,s.heap.get? p.1=some p.2/\H p.1=none/\p.1≠X.env.locals/\p.1 ∉ X.fs/\∀ v,p.2.data≠.cell v
 hok:HOk X.prog X.w H s.heap
 len:σ.length=X.N.length
section
variable {X : Cx} {pins : List (Addr × Obj)} {σ : List (Option V)} {H H' : Hp} {s : Shared} {h' : Heap}
theorem Cx.Ok.nofr (ok:X.Ok) {b:Addr} {o:Obj} (e:X.base.get? b=some o):b ∉ X.fs:=λhb=>by
 have:=(ok.funs.mem hb).1
 rw [e] at this; cases this
theorem Inv.bs (I:Inv X pins σ H s):∀ b o,X.base.get? b=some o->s.heap.get? b=some o/\H b=none:=λb o e =>
 ⟨I.base.keep b o (I.ok.bs b o e).1 (I.ok.bs b o e).2 (I.ok.nofr e) (I.ok.noex b o e),I.base.free b o (I.ok.bs b o e).1 (I.ok.bs b o e).2 (I.ok.noex b o e)⟩
theorem Inv.bk (I:Inv X pins σ H s):∀ b o,X.base.get? b=some o->s.heap.get? b=some o:=λb o e=>(I.bs b o e).1
theorem Inv.mod (I:Inv X pins σ H s):Mod X.K X.mg X.base:=I.ok.mod
theorem Inv.kIn (I:Inv X pins σ H s):X.K.In s.heap:=I.ok.mod.kin.keeps I.bk
theorem Inv.lt (I:Inv X pins σ H s):X.env.locals<s.heap.objs.size:=let ⟨_,hn,_⟩:=I.loc; hn.lt
theorem Inv.sz (I:Inv X pins σ H s):X.s₀.heap.objs.size<=s.heap.objs.size:=Nat.le_trans I.ok.above (Nat.le_of_lt I.lt)
theorem Inv.nofs (I:Inv X pins σ H s) {a:Addr} (h:s.heap.objs.size<=a):a ∉ X.fs:=λhb=>by
 obtain ⟨_,o,ho,_⟩:=I.ok.funs.mem hb
 exact absurd (Nat.lt_of_lt_of_le (Heap.lt_size ho) (Nat.le_trans I.sz h)) (Nat.lt_irrefl _)
theorem Inv.cne (I:Inv X pins σ H s):∀ x c,X.env.cells.lookup x=some c->c≠X.env.locals:=λx c e z=>by
 obtain ⟨v,o,ho,hd⟩:=I.cell x c e
 obtain ⟨m,⟨o',es,ep,ho',hd',_⟩,_⟩:=I.loc
 rw [z,ho'] at ho; cases ho; rw [hd'] at hd; cases hd
theorem Inv.funs (I:Inv X pins σ H s):s.heap.FunFrames X.base X.outer:=by
 have all:∀ (l:List Env),(∀ b ∈ frs l,b ∈ X.fs)->X.s₀.heap.FunFrames X.base l->s.heap.FunFrames X.base l:=by
  intro l
  induction l with
  | nil=>intro _ _; trivial
  | cons env r ih =>
   intro hs hl
   obtain ⟨hk,⟨L,o,hf,hn,ho,hd⟩,hr⟩:=hl
   have hL:L ∈ X.fs:=hs L (by unfold frs; rw [List.filterMap_cons,hf]; exact List.mem_cons_self)
   obtain ⟨sl,e⟩:=I.base.slot L o ho (I.ok.frf L hL) hL λz=>I.ok.exfs L z hL
   exact ⟨hk,⟨L,_,hf,hn,e,hd⟩,ih (λb hb=>hs b (by unfold frs; rw [List.filterMap_cons,hf]; exact List.mem_cons_of_mem _ hb)) hr⟩
 exact all X.outer (λ_ hb=>hb) I.ok.funs
theorem Inv.stack (I:Inv X pins σ H s):s.heap.FunFrames X.base X.stack:=by
 rcases I.ok.stk with e | ⟨e,hf⟩
 ·rw [e]; exact I.funs
 ·rw [e]
  obtain ⟨m,hn,_⟩:=I.loc
  refine .cons (by rw [I.ok.kind]; decide) hf hn ?_ I.funs
  exact Heap.get?_none_of_le (Nat.le_trans I.ok.bsz I.ok.above)
theorem Inv.stkSub (I:Inv X pins σ H s):∀ b ∈ frs X.stack,b ∈ X.env.locals::X.fs:=λb hb=>by
 rcases I.ok.stk with e | ⟨e,hf⟩
 ·rw [e] at hb; exact List.mem_cons_of_mem _ hb
 ·rw [e] at hb
  unfold frs at hb
  rw [List.filterMap_cons,hf] at hb
  exact hb
theorem Inv.stkFree (I:Inv X pins σ H s):∀ b ∈ frs X.stack,H b=none:=λb hb=>by
 rcases List.mem_cons.mp (I.stkSub b hb) with e | hb
 ·rw [e]; exact I.free
 ·obtain ⟨_,o,ho,_⟩:=I.ok.funs.mem hb
  exact I.base.free b o ho (I.ok.frf b hb) λz=>I.ok.exfs b z hb
theorem Inv.step {g':Array GenState} {t':Nat} {d':Drawn} {ch:List Addr} (I:Inv X pins σ H s)
  (hch:∀ b ∈ ch,(b ∈ X.ex\/X.s₀.heap.objs.size<=b)/\b≠X.env.locals/\(∀ x c,X.env.cells.lookup x=some c->c≠b)/\∀ p ∈ X.pn++pins,p.1≠b)
  (keep:∀ b o,b≠X.env.locals->b ∉ X.fs->b ∉ ch->s.heap.get? b=some o->H b=none->h'.get? b=some o)
  (slot:∀ b o,b≠X.env.locals->b ∈ X.fs->b ∉ ch->s.heap.get? b=some o->H b=none->∃ sl,h'.get? b=some { o with slots:=sl }) (free:∀ b o,b ∉ ch->s.heap.get? b=some o->H b=none->H' b=none)
  (there:∀ b o,b ∉ ch->s.heap.get? b=some o->∃ o',h'.get? b=some o')
  (tups:∀ b xs,H b=some (.tup xs)->H' b=some (.tup xs)) (frzs:∀ b o u,H b=some (.frz o u)->H' b=some (.frz o u)) (tbls:∀ b ps,H b=some (.tbl ps)->∃ more,H' b=some (.tbl (ps++more)))
  (ns:∀ m,s.heap.Ns X.env.locals m->h'.Ns X.env.locals m) (hok:HOk X.prog X.w H' h') (hg:AllBare g') :
  Inv X pins σ H' { s with heap:=h',gens:=g',drawn:=d',toks:=t' }:=by
 have neL:∀ b o,X.s₀.heap.get? b=some o->b≠X.env.locals:=λb o e=>Nat.ne_of_lt (Nat.lt_of_lt_of_le (Heap.lt_size e) I.ok.above)
 have neC:∀ b o,X.s₀.heap.get? b=some o->b ∉ X.ex->b ∉ ch:=λb o e hx hb=>by
  rcases (hch b hb).1 with z | z
  ·exact hx z
  ·exact absurd (Nat.lt_of_lt_of_le (Heap.lt_size e) z) (Nat.lt_irrefl _)
 have cellK:∀ x c,X.env.cells.lookup x=some c->∀ v,s.heap.IsCell c v->h'.IsCell c v:=λx c e v ⟨o,ho,hd⟩=>by
  have nch:c ∉ ch:=λz=>(hch c z).2.2.1 x c e rfl
  by_cases hc:c ∈ X.fs
  ·obtain ⟨sl,q⟩:=slot c o (I.cne x c e) hc nch ho (I.freeC x c e)
   exact ⟨_,q,hd⟩
  ·exact ⟨o,keep c o (I.cne x c e) hc nch ho (I.freeC x c e),hd⟩
 refine ⟨I.ok,I.os,hg,⟨λb o e n hb hx=>?_,λb o e n hb hx=>?_,λb o e n hx=>?_,λb o e hx=>?_,λb xs e=>tups b xs (I.base.tups b xs e),λb o xs e=>frzs b o xs (I.base.frzs b o xs e),λb ps e=>?_⟩,?_,λx c e=>?_,?_,λx c e=>?_,λp hp=>?_,hok,I.len⟩
 ·exact keep b o (neL b o e) hb (neC b o e hx) (I.base.keep b o e n hb hx) (I.base.free b o e n hx)
 ·obtain ⟨sl,e1⟩:=I.base.slot b o e n hb hx
  obtain ⟨sl',e2⟩:=slot b _ (neL b o e) hb (neC b o e hx) e1 (I.base.free b o e n hx)
  exact ⟨sl',e2⟩
 ·obtain ⟨o',e1⟩:=I.base.there b o e hx
  exact free b o' (neC b o e hx) e1 (I.base.free b o e n hx)
 ·obtain ⟨o',e1⟩:=I.base.there b o e hx
  exact there b o' (neC b o e hx) e1
 ·obtain ⟨m1,e1⟩:=I.base.tbls b ps e
  obtain ⟨m2,e2⟩:=tbls b _ e1
  exact ⟨m1++m2,by rw [e2,Array.append_assoc]⟩
 ·obtain ⟨m,hn,hl⟩:=I.loc
  refine ⟨m,ns m hn,λi x v e1 e2 e3=>?_⟩
  obtain ⟨u,r,l⟩:=hl i x v e1 e2 e3
  refine ⟨u,r,?_⟩
  rcases l with l | ⟨k,c,e,z⟩
  ·exact .inl l
  ·exact .inr ⟨k,c,e,cellK x c e _ z⟩
 ·obtain ⟨v,z⟩:=I.cell x c e
  exact ⟨v,cellK x c e v z⟩
 ·obtain ⟨m,⟨o,_,_,ho,_⟩,_⟩:=I.loc
  exact free _ o (λz=>(hch _ z).2.1 rfl) ho I.free
 ·obtain ⟨v,o,ho,hd⟩:=I.cell x c e
  exact free c o (λz=>(hch c z).2.2.1 x c e rfl) ho (I.freeC x c e)
 ·obtain ⟨e,n,ne,nf,d⟩:=I.pin p hp
  have nch:p.1 ∉ ch:=λz=>(hch p.1 z).2.2.2 p hp rfl
  exact ⟨keep p.1 p.2 ne nf nch e n,free p.1 p.2 nch e n,ne,nf,d⟩
theorem Inv.un {t':Nat} (I:Inv X pins σ H s) (u:Un X.fs [] H H' s.heap h') (hok:HOk X.prog X.w H' h'):Inv X pins σ H' { s with heap:=h',toks:=t' }:=by
 obtain ⟨m,⟨o,es,ep,ho,r⟩,_⟩:=id I.loc
 obtain ⟨sl,hL⟩:=u.any ho I.free (by simp)
 exact I.step (g':=s.gens) (d':=s.drawn) (ch:=[]) (λ_ z=>nomatch z) (λb o _ hb _ e n=>u.keep b o e n hb (by simp)) (λb o _ hb _ e n=>u.slot b o e n hb (by simp)) (λb o _ e n=>u.free b o e n (by simp)) (λb o _ e=>u.there b o e (by simp)) u.tups u.frzs u.tbls (λm' hm=>by
  obtain ⟨o',es',ep',ho',r'⟩:=hm
  rw [ho] at ho'; cases ho'
  exact ⟨_,es',ep',hL,r'⟩) hok I.bare
theorem Inv.call {g':Array GenState} {t':Nat} {d':Drawn} {ch:List Addr} (I:Inv X pins σ H s) (u:Un (frs X.stack) ch H H' s.heap h') (hok:HOk X.prog X.w H' h') (hg:AllBare g')
  (hch:∀ b ∈ ch,(b ∈ X.ex\/X.s₀.heap.objs.size<=b)/\b≠X.env.locals/\(∀ x c,X.env.cells.lookup x=some c->c≠b)/\∀ p ∈ X.pn++pins,p.1≠b) :
  Inv X pins σ H' { s with heap:=h',gens:=g',drawn:=d',toks:=t' }:=by
 obtain ⟨m,⟨o,es,ep,ho,r⟩,_⟩:=id I.loc
 obtain ⟨sl,hL⟩:=u.any ho I.free λz=>(hch _ z).2.1 rfl
 exact I.step (ch:=ch) hch (λb o hL hb hc e n=>u.keep b o e n (λz=>(List.mem_cons.mp (I.stkSub b z)).elim hL hb) hc) (λb o _ _ hc e n=>u.any e n hc) (λb o hc e n=>u.free b o e n hc) (λb o hc e=>u.there b o e hc) u.tups u.frzs u.tbls (λm' hm=>by
  obtain ⟨o',es',ep',ho',r'⟩:=hm
  rw [ho] at ho'; cases ho'
  exact ⟨_,es',ep',hL,r'⟩) hok hg
theorem Inv.turned {t':Nat} {it:Addr} (I:Inv X pins σ H s) (k:∀ b o,b≠it->s.heap.get? b=some o->h'.get? b=some o) (hn:H it=none) (hL:it≠X.env.locals)
  (h1:it ∈ X.ex\/X.s₀.heap.objs.size<=it) (h2:∀ x c,X.env.cells.lookup x=some c->c≠it) (h3:∀ p ∈ X.pn++pins,p.1≠it):Inv X pins σ H { s with heap:=h',toks:=t' }:=by
 have nit:∀ b u,H b=some u->b≠it:=λb u e z=>by rw [z,hn] at e; cases e
 refine I.step (g':=s.gens) (d':=s.drawn) (ch:=[it]) (λb hb=>?_) (λb o _ _ hc e _=>k b o (λz=>hc (by simp [z])) e) (λb o _ _ hc e _=>⟨o.slots,k b o (λz=>hc (by simp [z])) e⟩) (λ_ _ _ _ n=>n)
  (λb o hc e=>⟨o,k b o (λz=>hc (by simp [z])) e⟩) (λ_ _ e=>e) (λ_ _ _ e=>e) (λb ps e=>⟨#[],by rw [e]; simp⟩) (λm hm=>?_) (λb u e=>?_) I.bare
 ·have e:b=it:=by simpa using hb
  subst e
  exact ⟨h1,hL,h2,h3⟩
 ·obtain ⟨o,es,ep,ho,r⟩:=hm
  exact ⟨o,es,ep,k _ o (Ne.symm hL) ho,r⟩
 ·refine (I.hok b u e).stay (λc v hc q=>k c v ?_ q) (λ_ q=>q) λ_ _ q=>q
  rcases hc with z | z
  ·rw [z]; exact nit b u e
  ·exact nit c _ z
theorem Inv.tok (I:Inv X pins σ H s) (t:Nat):Inv X pins σ H { s with toks:=t }:=I.un (h':=s.heap) (t':=t) Un.refl I.hok
theorem Inv.kept {t':Nat} (I:Inv X pins σ H s) (k:∀ b u,s.heap.get? b=some u->h'.get? b=some u):Inv X pins σ H { s with heap:=h',toks:=t' }:=I.un (Un.kept k) (I.hok.kept k)
theorem Inv.laid {a:Addr} {o:HO} {t':Nat} (I:Inv X pins σ H s) (k:∀ b u,s.heap.get? b=some u->h'.get? b=some u) (hp:s.heap.objs.size<=a) (new:ObjOk X.prog X.w (upd H a o) h' a o) :
  Inv X pins σ (upd H a o) { s with heap:=h',toks:=t' }:=I.un (Un.laid k hp (I.hok.fresh hp)) (I.hok.laid k hp new)
theorem Inv.write {x e:Addr} {o:HO} {t':Nat} (I:Inv X pins σ H s) (mu:Mut (H x)) (he:e=x\/H e=some (.own x)) (k:∀ b u,b≠e->s.heap.get? b=some u->h'.get? b=some u) (heo:∃ u,h'.get? e=some u)
  (new:ObjOk X.prog X.w (upd H x o) h' x o):Inv X pins σ (upd H x o) { s with heap:=h',toks:=t' }:=I.un (Un.write mu he k heo) (I.hok.write mu he k heo new)
theorem Inv.pins_of {pins':List (Addr×Obj)} (I:Inv X pins σ H s) (h:∀ p ∈ pins',s.heap.get? p.1=some p.2/\H p.1=none/\p.1≠X.env.locals/\p.1 ∉ X.fs/\∀ v,p.2.data≠.cell v):Inv X pins' σ H s :=
 ⟨I.ok,I.os,I.bare,I.base,I.loc,I.cell,I.free,I.freeC,λp hp=>(List.mem_append.mp hp).elim (λz=>I.pin p (List.mem_append_left _ z)) (h p),I.hok,I.len⟩
theorem Az0 {N:List Str} (hN:N.Nodup) {i j:Nat} {x:Str} (a:N[i]?=some x) (b:N[j]?=some x):i=j:=by
 obtain ⟨h1,e1⟩:=List.getElem?_eq_some_iff.mp a
 obtain ⟨h2,e2⟩:=List.getElem?_eq_some_iff.mp b
 exact (List.getElem_inj hN).mp (e1.trans e2.symm)
theorem Az9 {M:Model} {A:Around} {E:Value->Shared->Prop} {i:Nat} {x:Str} {v:V} {u:Value} {Q:Unit->Shared->Prop} (I:Inv X pins σ H s) (hN:X.N.Nodup) (hi:X.N[i]?=some x) (hx:Loc X.env.scope x) (r:RelV v u)
  (h:∀ s',Inv X pins (σ.set i (some v)) H s'->(∃ a,Heap.SameBut a s.heap s'.heap/\(a=X.env.locals\/X.env.cells.lookup x=some a))->Q () s') (hf:X.fn x=true\/X.env.scope.names.lookup x=some .local:=by first | exact .inl rfl | exact .inr rfl | assumption):wpAny M A (storeName X.env x u) Q E s:=by
 obtain ⟨m,hn,hl⟩:=id I.loc
 have hcls:(X.env.scope.kind == .class || (X.env.scope.kind == .module && X.env.locals != X.env.globals))=false:=by rw [I.ok.kind]; rfl
 have hiσ:i<σ.length:=by rw [I.len]; exact (List.getElem?_eq_some_iff.mp hi).1
 have cne:=I.cne
 have tracked:∀ {a:Addr} {h':Heap},(∃ o,s.heap.get? a=some o/\H a=none)->Heap.SameBut a s.heap h'->HOk X.prog X.w H h':=λ{a h'} ha hs b ob e=>by
  obtain ⟨_,_,hfree⟩:=ha
  refine (I.hok b ob e).stay (λc w' hc q=>(hs.2 c ?_).trans q) (λ_ q=>q) λ_ _ q=>q
  rintro rfl
  rcases hc with rfl | hc
  ·rw [hfree] at e; cases e
  ·rw [hfree] at hc; cases hc
 rcases hx with hk | hk
 ·refine wpAny_storeName_local hk hn (λh' hn' hs=>?_) hcls
  obtain ⟨oL,_,_,hoL,_⟩:=id hn
  refine h _ ⟨I.ok,I.os,I.bare,⟨λb o e n hb hx=>?_,λb o e n hb hx=>?_,I.base.free,λb o e hx=>?_,I.base.tups,I.base.frzs,I.base.tbls⟩,⟨_,hn',λj y v' e1 e2 e3=>?_⟩,λy c e=>?_,I.free,I.freeC,λp hp=>?_,tracked ⟨oL,hoL,I.free⟩ hs,by simpa using I.len⟩ ⟨_,hs,.inl rfl⟩
  ·exact (hs.2 b (Nat.ne_of_lt (Nat.lt_of_lt_of_le (Heap.lt_size e) I.ok.above))).trans (I.base.keep b o e n hb hx)
  ·obtain ⟨sl,e1⟩:=I.base.slot b o e n hb hx
   exact ⟨sl,(hs.2 b (Nat.ne_of_lt (Nat.lt_of_lt_of_le (Heap.lt_size e) I.ok.above))).trans e1⟩
  ·obtain ⟨o',e1⟩:=I.base.there b o e hx
   exact ⟨o',(hs.2 b (Nat.ne_of_lt (Nat.lt_of_lt_of_le (Heap.lt_size e) I.ok.above))).trans e1⟩
  ·by_cases hj:j=i
   ·subst hj
    rw [hi] at e1; cases e1
    rw [List.getElem?_set_self hiσ] at e2
    cases e2
    exact ⟨u,r,.inl ⟨hk,by simp⟩⟩
   ·rw [List.getElem?_set_ne (Ne.symm hj)] at e2
    obtain ⟨u',r',q⟩:=hl j y v' e1 e2 e3
    refine ⟨u',r',?_⟩
    rcases q with ⟨k,e⟩ | ⟨k,c,e,z⟩
    ·refine .inl ⟨k,?_⟩
     have:y≠x:=λe=>hj (Az0 hN e1 (e ▸ hi))
     simp [this,e]
    ·exact .inr ⟨k,c,e,z.sameBut hs (cne y c e)⟩
  ·obtain ⟨w',z⟩:=I.cell y c e
   exact ⟨w',z.sameBut hs (cne y c e)⟩
  ·obtain ⟨e,n,ne,nf,d⟩:=I.pin p hp
   exact ⟨(hs.2 p.1 ne).trans e,n,ne,nf,d⟩
 ·have hfn:X.fn x=true:=by
   rcases hf with z | z
   ·exact z
   ·rw [z] at hk; cases hk
  obtain ⟨c,hc⟩:=I.ok.has x (.inl hk)
  obtain ⟨w',z⟩:=I.cell x c hc
  refine wpAny_storeName_cell I.ok.kind hk hc z (λh' hc' hs=>?_)
  obtain ⟨oc,hoc,hocd⟩:=id z
  refine h { s with heap:=h' } ⟨I.ok,I.os,I.bare,⟨λb o e n hb hx=>?_,λb o e n hb hx=>?_,I.base.free,λb o e hx=>?_,I.base.tups,I.base.frzs,I.base.tbls⟩,⟨m,hn.sameBut hs (Ne.symm (cne x c hc)),λj y v' e1 e2 e3=>?_⟩,λy c' e=>?_,I.free,I.freeC,λp hp=>?_,tracked ⟨oc,hoc,I.freeC x c hc⟩ hs,by simpa using I.len⟩ ⟨c,hs,.inr hc⟩
  ·exact (hs.2 b (Nat.ne_of_lt (Nat.lt_of_lt_of_le (Heap.lt_size e) (I.ok.cab x c hfn hc)))).trans (I.base.keep b o e n hb hx)
  ·obtain ⟨sl,e1⟩:=I.base.slot b o e n hb hx
   exact ⟨sl,(hs.2 b (Nat.ne_of_lt (Nat.lt_of_lt_of_le (Heap.lt_size e) (I.ok.cab x c hfn hc)))).trans e1⟩
  ·obtain ⟨o',e1⟩:=I.base.there b o e hx
   exact ⟨o',(hs.2 b (Nat.ne_of_lt (Nat.lt_of_lt_of_le (Heap.lt_size e) (I.ok.cab x c hfn hc)))).trans e1⟩
  ·by_cases hj:j=i
   ·subst hj
    rw [hi] at e1; cases e1
    rw [List.getElem?_set_self hiσ] at e2
    cases e2
    exact ⟨u,r,.inr ⟨.inl hk,c,hc,hc'⟩⟩
   ·rw [List.getElem?_set_ne (Ne.symm hj)] at e2
    obtain ⟨u',r',q⟩:=hl j y v' e1 e2 e3
    refine ⟨u',r',?_⟩
    rcases q with q | ⟨k,c',e,z'⟩
    ·exact .inl q
    ·refine .inr ⟨k,c',e,z'.sameBut hs ?_⟩
     rintro rfl
     exact hj (Az0 hN e1 (I.ok.inj _ _ _ e hc ▸ hi))
  ·by_cases hcc:c'=c
   ·subst hcc; exact ⟨_,hc'⟩
   ·obtain ⟨w2,z2⟩:=I.cell y c' e
    exact ⟨w2,z2.sameBut hs hcc⟩
  ·obtain ⟨e,n,ne,nf,d⟩:=I.pin p hp
   refine ⟨(hs.2 p.1 ?_).trans e,n,ne,nf,d⟩
   intro q
   rw [q,hoc] at e
   have q':oc=p.2:=Option.some.inj e
   exact d w' (by rw [<- q']; exact hocd)
theorem An8 {M:Model} {A:Around} {E:Value->Shared->Prop} {i:Nat} {x:Str} {v:V} {u:Value} {Q:Unit->Shared->Prop} (I:Inv X pins σ H s) (hN:X.N.Nodup) (hi:X.N[i]?=some x) (hx:Loc X.env.scope x) (r:RelV v u)
  (h:∀ s',Inv X pins (σ.set i (some v)) H s'->Q () s') (hf:X.fn x=true\/X.env.scope.names.lookup x=some .local:=by first | exact .inl rfl | exact .inr rfl | assumption):wpAny M A (storeName X.env x u) Q E s :=
 Az9 I hN hi hx r (λs' I' _=>h s' I') hf
theorem Inv.call' {s':Shared} {ch:List Addr} (I:Inv X pins σ H s) (ho:s'.os=s.os) (u:Un (frs X.stack) ch H H' s.heap s'.heap) (hok:HOk X.prog X.w H' s'.heap) (hg:AllBare s'.gens)
  (hch:∀ b ∈ ch,(b ∈ X.ex\/X.s₀.heap.objs.size<=b)/\b≠X.env.locals/\(∀ x c,X.env.cells.lookup x=some c->c≠b)/\∀ p ∈ X.pn++pins,p.1≠b):Inv X pins σ H' s':=by
 obtain ⟨h',g',d',t',o'⟩:=s'
 have e:o'=s.os:=ho
 subst e
 exact I.call (g':=g') (t':=t') (d':=d') u hok hg hch
end
abbrev XK:=Value->Option Addr->Hp->Prop
abbrev St:=List (Option V)
abbrev VK:=V->Hp->Prop
abbrev TE:=St->Hp->VK->Prop
abbrev TT:=St->Hp->(Bool->Hp->Prop)->Prop
abbrev TA:=St->Hp->(List V->Hp->Prop)->Prop
structure Ends where
 nx:St->Hp->Prop
 rt:VK
 bk:St->Hp->Prop:=λ_ _=>False
 ct:St->Hp->Prop:=λ_ _=>False
abbrev TS:=Ends->St->Hp->Prop
def EP (X:Cx) (pins:List (Addr×Obj)) (σ:St) (Q:VK) (u:Value) (s':Shared):Prop:=∃ v H',Inv X pins σ H' s'/\RelV v u/\Q v H'
def TP (X:Cx) (pins:List (Addr×Obj)) (σ:St) (Q:Bool->Hp->Prop) (b:Bool) (s':Shared):Prop:=∃ H',Inv X pins σ H' s'/\Q b H'
def AP (X:Cx) (pins:List (Addr×Obj)) (σ:St) (Q:List V->Hp->Prop) (us:List Value) (s':Shared):Prop:=∃ vs H',Inv X pins σ H' s'/\Vals vs us/\Q vs H'
def SP (X:Cx) (pins:List (Addr×Obj)) (D:Ends) (f:Flow) (s':Shared):Prop :=
 match f with
 | .next=>∃ σ' H',Inv X pins σ' H' s'/\D.nx σ' H'
 | .brk=>∃ σ' H',Inv X pins σ' H' s'/\D.bk σ' H'
 | .cont=>∃ σ' H',Inv X pins σ' H' s'/\D.ct σ' H'
 | .ret u=>∃ v σ' H',Inv X pins σ' H' s'/\RelV v u/\D.rt v H'
def PE (X:Cx) (e:Expr) (t:TE):Prop :=
 ∀ (pins:List (Addr×Obj)) (s:Shared) (σ:St) (H:Hp) (Q:VK),Inv X pins σ H s->t σ H Q->wpAny (model X.prog X.w) X.A (eval e X.env) (EP X pins σ Q) X.xe s
def PT (X:Cx) (e:Expr) (t:TT):Prop :=
 ∀ (pins:List (Addr×Obj)) (s:Shared) (σ:St) (H:Hp) (Q:Bool->Hp->Prop),Inv X pins σ H s->t σ H Q->wpAny (model X.prog X.w) X.A (isTrue e X.env (eval e X.env)) (TP X pins σ Q) X.xe s
def PW (X:Cx) (e:Expr) (t:TT):Prop :=
 ∀ (whole:Sem Value) (pins:List (Addr×Obj)) (s:Shared) (σ:St) (H:Hp) (Q:Bool->Hp->Prop),Inv X pins σ H s->t σ H Q->wpAny (model X.prog X.w) X.A (isTrue e X.env whole) (TP X pins σ Q) X.xe s
theorem PW.pt {X:Cx} {e:Expr} {t:TT} (h:PW X e t):PT X e t:=h _
def PA (X:Cx) (es:List Expr) (t:TA):Prop :=
 ∀ (pos:Pos) (pins:List (Addr×Obj)) (s:Shared) (σ:St) (H:Hp) (Q:List V->Hp->Prop),Inv X pins σ H s->t σ H Q->wpAny (model X.prog X.w) X.A (spliced (backTo pos (starEach es X.env))) (AP X pins σ Q) X.xe s
def PS (X:Cx) (st:Stmt) (t:TS):Prop :=
 ∀ (pins:List (Addr×Obj)) (s:Shared) (σ:St) (H:Hp) (D:Ends),Inv X pins σ H s->t D σ H->wpAny (model X.prog X.w) X.A (exec st X.env) (SP X pins D) X.xe s
def PSs (X:Cx) (st:List Stmt) (t:TS):Prop :=
 ∀ (pins:List (Addr×Obj)) (s:Shared) (σ:St) (H:Hp) (D:Ends),Inv X pins σ H s->t D σ H->wpAny (model X.prog X.w) X.A (execs st X.env) (SP X pins D) X.xe s
theorem thn {α:Type} {t:Sem α} {Q Q':α->Shared->Prop} {M:Model} {A:Around} {E:Value->Shared->Prop} {s:Shared} (h:wpAny M A t Q E s) (hQ:∀ a s,Q a s->Q' a s):wpAny M A t Q' E s:=wpAny_mono h hQ λ_ _ x=>x
end L2
namespace L2
open PySem PySem.Spec PyProof.Rows
section
variable {X : Cx}
def tVar (i:Nat):TE:=λσ H Q=>∃ v,σ[i]?=some (some v)/\Q v H
def tC (v:V):TE:=λ_ H Q=>Q v H
theorem Cx2 {i:Nat} {x:Str} {pos:Pos} (hN:X.N[i]?=some x) (hv:Vis X.env.scope x) (hd:(x == ("__debug__":Str))=false:=by decide) (hcd:(x == ("__classdict__":Str))=false:=by decide):PE X (.Name x pos) (tVar i):=by
 intro pins s σ H Q I h
 obtain ⟨v,e,h⟩:=h
 obtain ⟨m,hn,hl⟩:=I.loc
 obtain ⟨u,r,l⟩:=hl i x v hN e hv
 have fin:EP X pins σ Q u s:=⟨v,H,I,r,h⟩
 rcases l with ⟨hk,hm⟩ | ⟨hk,c,hc,hcell⟩
 ·exact wpAny_Name (wpAny_loadName_local I.ok.kind hk hn hm fin) hd
 ·rcases hk with hk | hk
  ·exact wpAny_Name (wpAny_loadName_cell I.ok.kind hk hc hcell fin) hd
  ·exact wpAny_Name (wpAny_loadName_free I.ok.kind hk hc hcell fin hcd) hd
theorem Aa5 {i j pos}:PE X (.Constant (.int i) j pos) (tC (.int i)):=λ_ _ _ H _ I h=>wpAny_Constant_int ⟨.int i,H,I.tok _,⟨_,rfl⟩,h⟩
theorem Ah7 {b j pos}:PE X (.Constant (.bool b) j pos) (tC (.bl b)):=λ_ _ _ H _ I h=>Constant_bool ⟨.bl b,H,I,rfl,h⟩
theorem Ae8 {j pos}:PE X (.Constant .none j pos) (tC .non):=λ_ _ _ H _ I h=>Constant_none ⟨.non,H,I,rfl,h⟩
theorem Ab8 {x j pos}:PE X (.Constant (.str x) j pos) (tC (.str x)):=λ_ _ _ H _ I h=>Calls.Constant_str ⟨.str x,H,I.tok _,⟨_,rfl⟩,h⟩
def Gl (X:Cx) (x:Str):Prop:=X.env.kindOf x=some .globalImplicit
theorem Am0 {E:Value->Shared->Prop} {pins:List (Addr×Obj)} {s:Shared} {σ:St} {H:Hp} {x:Str} {u:Value} {pos:Pos} {Q:Value->Shared->Prop} (I:Inv X pins σ H s) (hg:Gl X x) (hm:X.mg x=some u) (h:Q u s)
  (hd:(x == ("__debug__":Str))=false:=by decide):wpAny (model X.prog X.w) X.A (eval (.Name x pos) X.env) Q E s :=
 Calls.Name_function_global I.ok.kind hg (Calls.loadGlobal_global (by rw [I.ok.glob]; exact I.mod.glob.keeps I.bk) hm h) hd
theorem Bn2 {E:Value->Shared->Prop} {pins:List (Addr×Obj)} {s:Shared} {σ:St} {H:Hp} {x:Str} {u:Value} {pos:Pos} {Q:Value->Shared->Prop} (I:Inv X pins σ H s) (hg:Gl X x) (hm:X.mg x=none) (hv:bootBuiltins x=some u) (h:Q u s)
  (hn:x≠"__name__":=by decide) (hd:(x == ("__debug__":Str))=false:=by decide):wpAny (model X.prog X.w) X.A (eval (.Name x pos) X.env) Q E s:=by
 obtain ⟨mb,h1,h2⟩:=I.mod.blt
 exact Calls.Name_function_global I.ok.kind hg (Calls.loadGlobal_builtin (by rw [I.ok.glob]; exact I.mod.glob.keeps I.bk) hm (by rw [I.ok.blt]; exact h1.keeps I.bk) ((h2 x hn).trans hv) h) hd
theorem Ad6 {x:Str} {v:V} {u:Value} {pos:Pos} (hg:Gl X x) (hm:X.mg x=some u) (r:RelV v u) (hd:(x == ("__debug__":Str))=false:=by decide):PE X (.Name x pos) (tC v) :=
 λ_ _ _ H _ I h=>Am0 I hg hm ⟨v,H,I,r,h⟩ hd
theorem Ag0 {x:Str} {v:V} {u:Value} {pos:Pos} (hg:Gl X x) (hm:X.mg x=none) (hv:bootBuiltins x=some u) (r:RelV v u) (hn:x≠"__name__":=by decide) (hd:(x == ("__debug__":Str))=false:=by decide):PE X (.Name x pos) (tC v) :=
 λ_ _ _ H _ I h=>Bn2 I hg hm hv ⟨v,H,I,r,h⟩ hn hd
variable {a b : Expr} {ta tb : TE} {pos : Pos}
def PC (X:Cx) (op:CmpOp) (a b:Expr) (t:TE):Prop :=
 ∀ (pins:List (Addr×Obj)) (s:Shared) (σ:St) (H:Hp) (Q:VK),Inv X pins σ H s->t σ H Q ->
  wpAny (model X.prog X.w) X.A (eval a X.env) (λv s₁=>wpAny (model X.prog X.w) X.A (eval b X.env) (λu s₂=>wpAny (model X.prog X.w) X.A (compareOp op v u) (EP X pins σ Q) X.xe s₂) X.xe s₁) X.xe s
def tB (t:TE):TT:=λσ H Q=>t σ H λx H1=>∃ c,x=.bl c/\Q c H1
theorem Cw6 {op:CmpOp} {t:TE} (h:PC X op a b t) (h1:behindInMarks op b=false:=by first | exact nobehind _ (by decide) (by decide) | rfl):PT X (.Compare a [op] [b] pos) (tB t):=by
 intro pins s σ H Q I hw
 refine wpAny_isTrue_Compare1 (thn (h pins s σ H _ I hw) λv s1 h1=>thn h1 λu s2 h2=>thn h2 λc s3 ⟨x,H1,I1,r1,q1⟩=>?_) h1
 obtain ⟨d,rfl,q⟩:=q1
 cases r1
 exact wpAny_truthy_bool ⟨H1,I1,q⟩
theorem Ad1 {e:Expr} {t:TE} (h:PE X e t) (he:∀ whole,isTrue e X.env whole=(do let v <- whole; standAt e.pos; holding [v] (truthy v)):=by intro _; rfl):PT X e (tB t):=by
 intro pins s σ H Q I hw
 refine isTrue_plain (thn (h pins s σ H _ I hw) λv s1 ⟨x,H1,I1,r1,q1⟩=>?_) (he _)
 obtain ⟨d,rfl,q⟩:=q1
 cases r1
 exact wpAny_truthy_bool ⟨H1,I1,q⟩
variable {tA tB' : TT} {rest : List Expr}
def tAnd (t u:TT):TT:=λσ H Q=>t σ H λc H1=>if c=true then u σ H1 Q else Q false H1
def tOr (t u:TT):TT:=λσ H Q=>t σ H λc H1=>if c=true then Q true H1 else u σ H1 Q
def tNot (t:TT):TT:=λσ H Q=>t σ H λc H1=>Q (!c) H1
theorem Af8 (ha:PT X a tA):PW X (.BoolOp .And [a] pos) tA:=by
 intro wh pins s σ H Q I h
 refine isTrue_and (thn (ha pins s σ H Q I h) λc s1 e=>?_)
 cases c with
 | true=>exact isTrue_and_nil e
 | false=>exact e
theorem Ai5 (ha:PT X a tA):PW X (.BoolOp .Or [a] pos) tA:=by
 intro wh pins s σ H Q I h
 refine isTrue_or (thn (ha pins s σ H Q I h) λc s1 e=>?_)
 cases c with
 | false=>exact isTrue_or_nil e
 | true=>exact e
theorem Ah1 (ha:PT X a tA) (hb:PW X (.BoolOp .And (b::rest) pos) tB'):PW X (.BoolOp .And (a::b::rest) pos) (tAnd tA tB'):=by
 intro wh pins s σ H Q I h
 refine isTrue_and (thn (ha pins s σ H _ I h) λc s1 ⟨H1,I1,q1⟩=>?_)
 cases c with
 | true=>exact hb wh pins s1 σ H1 Q I1 q1
 | false=>exact ⟨H1,I1,q1⟩
theorem Al7 (ha:PT X a tA) (hb:PW X (.BoolOp .Or (b::rest) pos) tB'):PW X (.BoolOp .Or (a::b::rest) pos) (tOr tA tB'):=by
 intro wh pins s σ H Q I h
 refine isTrue_or (thn (ha pins s σ H _ I h) λc s1 ⟨H1,I1,q1⟩=>?_)
 cases c with
 | true=>exact ⟨H1,I1,q1⟩
 | false=>exact hb wh pins s1 σ H1 Q I1 q1
theorem Ae0 (ha:PT X a tA):PT X (.UnaryOp .Not a pos) (tNot tA):=by
 intro pins s σ H Q I h
 exact isTrue_not (ha pins s σ H (λc H1=>Q (!c) H1) I h)
def Dc3 (ta tb:TE):TE:=λσ H Q=>ta σ H λx H1=>∃ c,x=.bl c/\if c=true then tb σ H1 Q else Q (.bl false) H1
def tOrV (ta tb:TE):TE:=λσ H Q=>ta σ H λx H1=>∃ c,x=.bl c/\if c=true then Q (.bl true) H1 else tb σ H1 Q
def Db8 (ta:TE):TE:=λσ H Q=>ta σ H λx H1=>∃ c,x=.bl c/\Q (.bl (!c)) H1
theorem Al9 {op} {t:TE} (h:PE X a t):PE X (.BoolOp op [a] pos) t:=λpins s σ H Q I hw=>BoolOp_one (h pins s σ H Q I hw)
theorem Aj7 (ha:PE X a ta) (hb:PE X (.BoolOp .And (b::rest) pos) tb):PE X (.BoolOp .And (a::b::rest) pos) (Dc3 ta tb):=by
 intro pins s σ H Q I h
 refine BoolOp_and (thn (ha pins s σ H _ I h) λv s1 ⟨x,H1,I1,r1,q1⟩=>?_)
 obtain ⟨c,rfl,q1⟩:=q1
 cases r1
 refine wpAny_truthy_bool ?_
 cases c with
 | true=>exact hb pins s1 σ H1 Q I1 q1
 | false=>exact ⟨.bl false,H1,I1,rfl,q1⟩
theorem Dd5 (ha:PE X a ta) (hb:PE X (.BoolOp .Or (b::rest) pos) tb):PE X (.BoolOp .Or (a::b::rest) pos) (tOrV ta tb):=by
 intro pins s σ H Q I h
 refine BoolOp_or (thn (ha pins s σ H _ I h) λv s1 ⟨x,H1,I1,r1,q1⟩=>?_)
 obtain ⟨c,rfl,q1⟩:=q1
 cases r1
 refine wpAny_truthy_bool ?_
 cases c with
 | false=>exact hb pins s1 σ H1 Q I1 q1
 | true=>exact ⟨.bl true,H1,I1,rfl,q1⟩
theorem Bw3 (ha:PE X a ta):PE X (.UnaryOp .Not a pos) (Db8 ta):=by
 intro pins s σ H Q I h
 refine UnaryOp_ (thn (ha pins s σ H _ I h) λv s1 ⟨x,H1,I1,r1,q1⟩=>?_)
 obtain ⟨c,rfl,q1⟩:=q1
 cases r1
 exact not_of (wpAny_truthy_bool ⟨.bl (!c),H1,I1,rfl,q1⟩)
def tIf (t:TT) (ta tb:TE):TE:=λσ H Q=>t σ H λc H1=>if c=true then ta σ H1 Q else tb σ H1 Q
theorem Ar8 {c:Expr} (hc:PT X c tA) (ha:PE X a ta) (hb:PE X b tb):PE X (.IfExp c a b pos) (tIf tA ta tb):=by
 intro pins s σ H Q I h
 refine wpAny_IfExp (thn (hc pins s σ H _ I h) λd s1 ⟨H1,I1,q1⟩=>?_)
 cases d with
 | true=>exact ha pins s1 σ H1 Q I1 q1
 | false=>exact hb pins s1 σ H1 Q I1 q1
end
end L2
namespace L2
open PySem PySem.Spec PyProof.Rows
def SqL (K:PySem.W.Frag) (H:Hp) (a:Addr) (xs:List V):Prop :=
 Rd H a (.lst xs) \/
  ∃ (o:Obj) (its:Array Value) (n:Nat),K.lookup a=some o/\o.cls=.type "list"/\o.dict=none/\o.data=.seq its n/\its.size<=sizeLine/\Vals xs its.toList
def SqT (K:PySem.W.Frag) (H:Hp) (a:Addr) (xs:List V):Prop :=
 Rd H a (.tup xs) \/
  ∃ (o:Obj) (its:Array Value) (n:Nat),K.lookup a=some o/\o.cls=.type "tuple"/\o.data=.seq its n/\its.size<=sizeLine/\Vals xs its.toList
def absV:Value->Option V
 | .none=>some .non
 | .bool b=>some (.bl b)
 | .int i _=>some (.int i)
 | .str x _=>some (.str x)
 | .bytes b _=>some (.byt b)
 | .float b _=>some (.flt b)
 | .ref a=>some (.ref a)
 | .type n=>some (.ty n)
 | _=>none
theorem RelV.abs {x:V} {u:Value} (r:RelV x u):absV u=some x:=by
 cases x with
 | non=>cases r; rfl
 | bl _=>cases r; rfl
 | int _=>obtain ⟨t,rfl⟩:=r; rfl
 | str _=>obtain ⟨t,rfl⟩:=r; rfl
 | byt _=>obtain ⟨t,rfl⟩:=r; rfl
 | flt _=>obtain ⟨t,rfl⟩:=r; rfl
 | ref _=>cases r; rfl
 | ty _=>cases r; rfl
theorem RelV.inj {x y:V} {u:Value} (r:RelV x u) (q:RelV y u):x=y:=Option.some.inj (r.abs.symm.trans q.abs)
theorem Vals.inj:∀ {xs ys:List V} {us:List Value},Vals xs us->Vals ys us->xs=ys
 | _,_,_,.nil,.nil=>rfl
 | _,_,_,.cons r t,.cons r' t'=>by rw [r.inj r',Vals.inj t t']
section
variable {X : Cx} {pins : List (Addr × Obj)} {σ : St} {H : Hp} {s : Shared} {a : Addr} {xs ys : List V}
theorem SqL.of {K:PySem.W.Frag} (h:H a=some (.lst xs)):SqL K H a xs:=.inl (.inl h)
theorem SqT.of {K:PySem.W.Frag} (h:H a=some (.tup xs)):SqT K H a xs:=.inl (.inl h)
theorem Inv.list (I:Inv X pins σ H s) (h:SqL X.K H a xs):∃ its:List Value,Vals xs its/\PlainL s.heap a its.toArray/\xs.length<=sizeLine:=by
 rcases h with h | ⟨o,its,n,hk,hc,hd,hs,hz,r⟩
 ·obtain ⟨z,its,n,r,e⟩:=h.ok I.hok
  exact ⟨its,r,⟨_,n,e,rfl,rfl,rfl⟩,z⟩
 ·refine ⟨its.toList,r,⟨o,n,I.kIn a o hk,hc,hd,by simpa using hs⟩,?_⟩
  have e:=r.length
  simp only [Array.length_toList] at e
  omega
theorem Inv.tuple (I:Inv X pins σ H s) (h:SqT X.K H a xs):∃ its:List Value,Vals xs its/\IsTup s.heap a its.toArray/\xs.length<=sizeLine:=by
 rcases h with h | ⟨o,its,n,hk,hc,hs,hz,r⟩
 ·obtain ⟨z,its,r,p⟩:=h.ok I.hok
  exact ⟨its,r,p,z⟩
 ·refine ⟨its.toList,r,⟨o,I.kIn a o hk,hc,n,by simpa using hs⟩,?_⟩
  have e:=r.length
  simp only [Array.length_toList] at e
  omega
theorem Inv.list_inj (I:Inv X pins σ H s) (h:SqL X.K H a xs) (h':SqL X.K H a ys):xs=ys:=by
 obtain ⟨its,r,⟨o,n,e,_,_,d⟩,_⟩:=I.list h
 obtain ⟨its',r',⟨o',n',e',_,_,d'⟩,_⟩:=I.list h'
 rw [e] at e'; cases e'
 rw [d] at d'
 injection d' with d1 _
 have:its=its':=by simpa using congrArg Array.toList d1
 subst this
 exact r.inj r'
theorem Inv.tuple_inj (I:Inv X pins σ H s) (h:SqT X.K H a xs) (h':SqT X.K H a ys):xs=ys:=by
 obtain ⟨its,r,⟨o,e,_,n,d⟩,_⟩:=I.tuple h
 obtain ⟨its',r',⟨o',e',_,n',d'⟩,_⟩:=I.tuple h'
 rw [e] at e'; cases e'
 rw [d] at d'
 injection d' with d1 _
 have:its=its':=by simpa using congrArg Array.toList d1
 subst this
 exact r.inj r'
end
abbrev Cx.wish (X:Cx) (E:Value->Shared->Prop):Cx:={ X with xe:=E }
abbrev Cx.nox (X:Cx):Cx:=X.wish λ_ _=>False
theorem Cx.Ok.wish {X:Cx} (ok:X.Ok) (E:Value->Shared->Prop):(X.wish E).Ok :=
 ⟨ok.mod,ok.kind,ok.glob,ok.blt,ok.above,ok.inj,ok.has,ok.cab,ok.hd,ok.frames,ok.stk,ok.exf,ok.bs,ok.bsz,ok.noex,ok.exfs,ok.funs,ok.frf⟩
theorem Cx.Ok.unwish {X:Cx} {E:Value->Shared->Prop} (ok:(X.wish E).Ok):X.Ok :=
 ⟨ok.mod,ok.kind,ok.glob,ok.blt,ok.above,ok.inj,ok.has,ok.cab,ok.hd,ok.frames,ok.stk,ok.exf,ok.bs,ok.bsz,ok.noex,ok.exfs,ok.funs,ok.frf⟩
section
variable {X : Cx} {pins : List (Addr × Obj)} {σ : St} {H : Hp} {s : Shared} {E : Value → Shared → Prop}
theorem Inv.wish (I:Inv X pins σ H s) (E:Value->Shared->Prop):Inv (X.wish E) pins σ H s:=⟨I.ok.wish E,I.os,I.bare,I.base,I.loc,I.cell,I.free,I.freeC,I.pin,I.hok,I.len⟩
theorem Inv.unwish (I:Inv (X.wish E) pins σ H s):Inv X pins σ H s:=⟨I.ok.unwish,I.os,I.bare,I.base,I.loc,I.cell,I.free,I.freeC,I.pin,I.hok,I.len⟩
theorem SP.unwish {D:Ends} {f:Flow} {s':Shared} (h:SP (X.wish E) pins D f s'):SP X pins D f s':=by
 cases f with
 | next=>obtain ⟨σ',H',I,q⟩:=h; exact ⟨σ',H',I.unwish,q⟩
 | brk=>obtain ⟨σ',H',I,q⟩:=h; exact ⟨σ',H',I.unwish,q⟩
 | cont=>obtain ⟨σ',H',I,q⟩:=h; exact ⟨σ',H',I.unwish,q⟩
 | ret u=>obtain ⟨v,σ',H',I,r,q⟩:=h; exact ⟨v,σ',H',I.unwish,r,q⟩
theorem PSs.nox {st:List Stmt} {t:TS} (h:PSs X.nox st t):PSs X st t:=λpins s σ H D I hw =>
 wpAny_mono (h pins s σ H D (I.wish _) hw) (λ_ _ q=>q.unwish) λ_ _ z=>False.elim z
end
section
variable {X : Cx} {st : Stmt} {rest : List Stmt} {t u : TS} {e : Expr} {te : TE} {pos : Pos}
def Cu6:TS:=λD σ H=>D.nx σ H
def tSeq (t u:TS):TS:=λD σ H=>t { D with nx:=u D } σ H
theorem Ab0:PSs X [] Cu6:=λ_ _ σ H _ I h=>wpAny_execs_nil ⟨σ,H,I,h⟩
theorem Aa2 (h1:PS X st t) (h2:PSs X rest u):PSs X (st::rest) (tSeq t u):=by
 intro pins s σ H D I h
 refine wpAny_execs_cons (thn (h1 pins s σ H { D with nx:=u D } I h) λf s1 q=>?_)
 cases f with
 | next =>
  obtain ⟨σ',H',I',q⟩:=q
  exact h2 pins s1 σ' H' D I' q
 | ret v=>exact q
 | brk=>exact q
 | cont=>exact q
theorem Aa4 (h1:PS X st t):PSs X [st] t:=by
 intro pins s σ H D I h
 refine wpAny_execs_cons (thn (h1 pins s σ H D I h) λf s1 q=>?_)
 cases f with
 | next=>exact wpAny_execs_nil q
 | ret v=>exact q
 | brk=>exact q
 | cont=>exact q
theorem Inv.quiet {pins:List (Addr×Obj)} {σ:St} {H:Hp} {s:Shared} (I:Inv X pins σ H s):interactive X.env=false:=by simp [interactive,I.ok.kind]
def Dc0 (te:TE):TS:=λD σ H=>te σ H λ_ H1=>D.nx σ H1
theorem Ad7 (he:PE X e te) (hs:swapsWith e none pos.line X.env=pure false:=by rfl):PS X (.Expr e pos) (Dc0 te):=by
 intro pins s σ H D I h
 exact wpAny_Expr_any (thn (he pins s σ H _ I h) λv s1 ⟨x,H1,I1,r1,q1⟩=>⟨σ,H1,I1,q1⟩) I.quiet hs
def tRet (te:TE):TS:=λD σ H=>te σ H D.rt
theorem Ab2 (he:PE X e te):PS X (.Return (some e) pos) (tRet te):=by
 intro pins s σ H D I h
 exact wpAny_Return_some (thn (he pins s σ H _ I h) λv s1 ⟨x,H1,I1,r1,q1⟩=>⟨x,σ,H1,I1,r1,q1⟩)
def tIfS (c:TT) (t u:TS):TS:=λD σ H=>c σ H λb H1=>if b=true then t D σ H1 else u D σ H1
theorem Ac8 {c:Expr} {a b:List Stmt} {tc:TT} (hc:PT X c tc) (ha:PSs X a t) (hb:PSs X b u):PS X (.If c a b pos) (tIfS tc t u):=by
 intro pins s σ H D I h
 refine wpAny_If (thn (hc pins s σ H _ I h) λd s1 ⟨H1,I1,q1⟩=>?_)
 cases d with
 | true=>exact ha pins s1 σ H1 D I1 q1
 | false=>exact hb pins s1 σ H1 D I1 q1
def Ck2:TS:=λ_ _ _=>False
theorem Ce4:PS X st Ck2:=λ_ _ _ _ _ _ h=>h.elim
theorem Bw1 {sts:List Stmt}:PSs X sts Ck2:=λ_ _ _ _ _ _ h=>h.elim
end
abbrev TG:=V->St->Hp->(St->Hp->Prop)->Prop
abbrev TGs:=List V->St->Hp->(St->Hp->Prop)->Prop
def PG (X:Cx) (target:Expr) (t:TG):Prop :=
 ∀ (pins:List (Addr×Obj)) (s:Shared) (σ:St) (H:Hp) (v:V) (u:Value) (Q:St->Hp->Prop),Inv X pins σ H s->RelV v u->t v σ H Q ->
  wpAny (model X.prog X.w) X.A (assign target X.env u) (λ_ s'=>∃ σ' H',Inv X pins σ' H' s'/\Q σ' H') X.xe s
def PGs (X:Cx) (ts:List Expr) (t:TGs):Prop :=
 ∀ (pins:List (Addr×Obj)) (s:Shared) (σ:St) (H:Hp) (vs:List V) (us:List Value) (Q:St->Hp->Prop),Inv X pins σ H s->Vals vs us->t vs σ H Q ->
  wpAny (model X.prog X.w) X.A (assignInOrder ((assignEach ts X.env).map (·.2)) us) (λ_ s'=>∃ σ' H',Inv X pins σ' H' s'/\Q σ' H') X.xe s
abbrev TSet:=V->V->V->Hp->(Hp->Prop)->Prop
def PSet (X:Cx) (t:TSet):Prop :=
 ∀ (pins:List (Addr×Obj)) (s:Shared) (σ:St) (H:Hp) (o i v:V) (ov iv u:Value) (Q:Hp->Prop),Inv X pins σ H s->RelV o ov->RelV i iv->RelV v u->t o i v H Q ->
  wpAny (model X.prog X.w) X.A (setItem ov iv u) (λ_ s'=>∃ H',Inv X pins σ H' s'/\Q H') X.xe s
section
variable {X : Cx} {pos : Pos}
def Bz1 (i:Nat):TG:=λv σ H Q=>Q (σ.set i (some v)) H
theorem Ad5 {i:Nat} {x:Str} (hN:X.N.Nodup) (hi:X.N[i]?=some x) (hx:Loc X.env.scope x) (hf:X.fn x=true\/X.env.scope.names.lookup x=some .local:=by first | exact .inl rfl | exact .inr rfl | assumption):PG X (.Name x pos) (Bz1 i):=by
 intro pins s σ H v u Q I r h
 exact wpAny_assign_Name (An8 I hN hi hx r (λs' I'=>⟨_,H,I',h⟩) hf)
def gNil:TGs:=λvs σ H Q=>vs=[]/\Q σ H
def De0 (t:TG) (u:TGs):TGs:=λvs σ H Q=>∃ v r,vs=v::r/\t v σ H λσ' H'=>u r σ' H' Q
theorem Al8:PGs X [] gNil:=by
 intro pins s σ H vs us Q I r h
 obtain ⟨e,h⟩:=h
 subst e
 cases r
 exact assignInOrder_nil ⟨σ,H,I,h⟩
theorem Ae1 {e:Expr} {es:List Expr} {t:TG} {u:TGs} (h1:PG X e t) (h2:PGs X es u)
  (hs:(assignEach (e::es) X.env).map (·.2)=assign e X.env::(assignEach es X.env).map (·.2):=by rfl):PGs X (e::es) (De0 t u):=by
 intro pins s σ H vs us Q I r h
 obtain ⟨v,vr,e1,h⟩:=h
 subst e1
 cases r with
 | cons r rr =>
  rw [hs]
  refine assignInOrder_cons (thn (h1 pins s σ H _ _ _ I r h) λ_ s1 ⟨σ1,H1,I1,q1⟩=>?_)
  exact h2 pins s1 σ1 H1 _ _ Q I1 rr q1
def gTup (K:PySem.W.Frag) (n:Nat) (t:TGs):TG:=λv σ H Q=>∃ a xs,v=.ref a/\SqT K H a xs/\xs.length=n/\t xs σ H Q
theorem Aq9 {es:List Expr} {k:Nat} {t:TGs} {n:Nat} (hc:X.calm=true) (h:PGs X es t)
  (hn:(assignEach es X.env).length=n:=by rfl) (hst:(assignEach es X.env).findIdx? (·.1)=none:=by rfl):PG X (.Tuple es k pos) (gTup X.K n t):=by
 intro pins s σ H v u Q I r hw
 obtain ⟨a,xs,e1,hq,hl,hw⟩:=hw
 subst e1
 cases r
 obtain ⟨its,rv,ht,hz⟩:=I.tuple hq
 refine assign_Tuple_tuple (I.ok.hd hc) ht (by simp [hn,<- hl,rv.length]) hst λh' hx=>?_
 have I1:Inv X pins σ H { s with heap:=h' }:=I.kept (t':=s.toks) λb o e=>hx b o (Nat.ne_of_lt (Heap.lt_size e)) e
 exact h pins _ σ H xs _ Q I1 (by simpa using rv) hw
def gSub (to ti:TE) (t:TSet):TG:=λv σ H Q=>to σ H λo H1=>ti σ H1 λi H2=>t o i v H2 λH3=>Q σ H3
theorem Ap2 {o i:Expr} {to ti:TE} {t:TSet} (ho:PE X o to) (hi:PE X i ti) (hs:PSet X t)
  (ha:∀ v,assign (.Subscript o i pos) X.env v=(do
   let ov <- holding [v] (eval o X.env)
   let iv <- holding [v,ov] (eval i X.env)
   standAt pos
   holding [v,ov,iv] (setItem ov iv v)
   release [v,ov,iv] []):=by intro _; rfl):PG X (.Subscript o i pos) (gSub to ti t):=by
 intro pins s σ H v u Q I r h
 rw [ha]
 refine wpAny_bind (wpAny_holding (thn (ho pins s σ H _ I h) λov s1 ⟨x,H1,I1,r1,q1⟩=>?_))
 refine wpAny_bind (wpAny_holding (thn (hi pins s1 σ H1 _ I1 q1) λiv s2 ⟨y,H2,I2,r2,q2⟩=>?_))
 refine wpAny_bind (wpAny_standAt (wpAny_bind (wpAny_holding (thn (hs pins s2 σ H2 x y v ov iv u _ I2 r1 r2 r q2) λ_ s3 ⟨H3,I3,q3⟩=>?_))))
 exact wpAny_release ⟨σ,H3,I3,q3⟩
def tAsg (te:TE) (g:TG):TS:=λD σ H=>te σ H λx H1=>g x σ H1 D.nx
theorem Al3 {tg e:Expr} {te:TE} {g:TG} (he:PE X e te) (hg:PG X tg g) (hs:swapsWithSole [tg] e pos.line X.env=pure false:=by rfl) (hw:swappedStores [tg] e X.env=pure none:=by rfl)
  (h1:(assignEach [tg] X.env).map (·.2)=[assign tg X.env]:=by rfl):PS X (.Assign [tg] e pos) (tAsg te g):=by
 intro pins s σ H D I h
 refine wpAny_Assign_stores (thn (he pins s σ H _ I h) λv s1 ⟨x,H1,I1,r1,q1⟩=>?_) hs hw
 rw [h1]
 exact thn (hg pins s1 σ H1 x v _ I1 r1 q1) λ_ s2 q=>q
theorem Ac5 {i:Nat} {x:Str} {e:Expr} {te:TE} {pos':Pos} (hN:X.N.Nodup) (hi:X.N[i]?=some x) (hx:Loc X.env.scope x) (he:PE X e te) (hs:swapsWith e (some (.Name x pos')) pos.line X.env=pure false:=by rfl) (hf:X.fn x=true\/X.env.scope.names.lookup x=some .local:=by first | exact .inl rfl | exact .inr rfl | assumption) :
  PS X (.Assign [.Name x pos'] e pos) (tAsg te (Bz1 i)):=by
 intro pins s σ H D I h
 refine wpAny_Assign_Name (thn (he pins s σ H _ I h) λv s1 ⟨y,H1,I1,r1,q1⟩=>?_) hs
 exact An8 I1 hN hi hx r1 (λs2 I2=>⟨_,H1,I2,q1⟩) hf
end
section
variable {X : Cx} {pos : Pos}
end
structure It where
 go:Nat->Hp->Prop
 yld:Nat->Hp->V->Hp->Prop
 stop:Nat->Hp->Prop
def FpOk (X:Cx) (pins:List (Addr×Obj)) (H:Hp) (b:Addr):Prop :=
 H b=none/\b≠X.env.locals/\b ∉ X.fs/\(b ∈ X.ex\/X.s₀.heap.objs.size<=b)/\(∀ x c,X.env.cells.lookup x=some c->c≠b)/\∀ p ∈ X.pn++pins,p.1≠b
theorem Inv.fpOk {X:Cx} {pins:List (Addr×Obj)} {σ:St} {H H':Hp} {s:Shared} {b:Addr} (I:Inv X pins σ H s) (hb:s.heap.objs.size<=b) (hn:H' b=none):FpOk X pins H' b:=by
 refine ⟨hn,Nat.ne_of_gt (Nat.lt_of_lt_of_le I.lt hb),I.nofs hb,.inr (Nat.le_trans I.sz hb),λx c e z=>?_,λp hp z=>?_⟩
 ·obtain ⟨v,q⟩:=I.cell x c e
  exact absurd (Nat.lt_of_lt_of_le q.lt (by rw [z]; exact hb)) (Nat.lt_irrefl _)
 ·exact absurd (Nat.lt_of_lt_of_le (Heap.lt_size (I.pin p hp).1) (by rw [z]; exact hb)) (Nat.lt_irrefl _)
structure Turn (P:Program) (w:World) (K:PySem.W.Frag) (tg:Expr) (J:It) (fp:List Addr) (it:Addr) (tn:Nat->Heap->Prop):Prop where
 mem:it ∈ fp
 obj:∀ i h,tn i h->∀ b ∈ fp,∃ o,h.get? b=some o/\∀ v,o.data≠.cell v
 keep:∀ i h h',tn i h->(∀ b ∈ fp,∀ o,h.get? b=some o->h'.get? b=some o)->tn i h'
 item:∀ (X:Cx),X.prog=P->X.w=w->X.K=K->X.calm=true->∀ (i:Nat) (pins:List (Addr×Obj)) (s:Shared) (σ:St) (H:Hp) (E:Value->Shared->Prop),Inv X pins σ H s->(∀ b ∈ fp,FpOk X pins H b)->tn i s.heap->J.go i H ->
  wpAny (model P w) X.A (pyNext (.ref it)) (λr s1=>∃ u,r=some u /\
   wpAny (model P w) X.A (letOwnedTupleGo tg (.ref it) u) (λ_ s2=>∃ x H',Inv X pins σ H' s2/\RelV x u/\J.yld i H x H'/\tn (i+1) s2.heap/\∀ b ∈ fp,H' b=none) E s1) E s
 done:∀ (X:Cx),X.prog=P->X.w=w->X.K=K->X.calm=true->∀ (i:Nat) (pins:List (Addr×Obj)) (s:Shared) (σ:St) (H:Hp) (E:Value->Shared->Prop),Inv X pins σ H s->(∀ b ∈ fp,FpOk X pins H b)->tn i s.heap->J.stop i H ->
  wpAny (model P w) X.A (pyNext (.ref it)) (λr s1=>r=none/\Inv X pins σ H s1) E s
 self:∀ (A:Around) (i:Nat) (s:Shared) (Q:Value->Shared->Prop) (E:Value->Shared->Prop),tn i s.heap->Q (.ref it) s->wpAny (model P w) A (pyIter (.ref it)) Q E s
abbrev TI:=St->Hp->(It->Hp->Prop)->Prop
def PIE (X:Cx) (pins:List (Addr×Obj)) (σ:St) (tg:Expr) (R:It->Hp->Prop) (itv:Value) (s2:Shared):Prop :=
 ∃ (it:Addr) (fp:List Addr) (tn:Nat->Heap->Prop) (J:It) (H':Hp),itv=.ref it/\Inv X pins σ H' s2/\Turn X.prog X.w X.K tg J fp it tn/\tn 0 s2.heap/\(∀ b ∈ fp,FpOk X pins H' b)/\R J H'
def PI (X:Cx) (tg iter:Expr) (wi:TI):Prop :=
 ∀ (pins:List (Addr×Obj)) (s:Shared) (σ:St) (H:Hp) (R:It->Hp->Prop),Inv X pins σ H s->wi σ H R ->
  wpAny (model X.prog X.w) X.A (eval iter X.env) (λv s1=>wpAny (model X.prog X.w) X.A (pyIter v) (PIE X pins σ tg R) X.xe s1) X.xe s
theorem Ct5 {M:Model} {A:Around} {E:Value->Shared->Prop} {s:Shared} {tg:Expr} {it:Addr} {u:Value} {o:Obj} {n:String} {vs:Array Value} {Q:Unit->Shared->Prop} (ho:s.heap.get? it=some o) (hc:o.cls=.type n) (hd:o.data=.fields vs)
  (hn:["enumerate","zip","dict_itemiterator","dict_reverseitemiterator","odict_iterator","itertools.zip_longest","itertools.pairwise"].contains n=false) (hQ:Q () s):wpAny M A (letOwnedTupleGo tg (.ref it) u) Q E s:=by
 unfold letOwnedTupleGo
 cases tg <;> first
  | exact wpAny_pure hQ
  | (cases u <;> first
    | exact wpAny_pure hQ
    | (refine wpAny_bind (wpAny_load ho ?_)
       rw [hc,hd]
       show wpAny M A (if (["enumerate","zip","dict_itemiterator","dict_reverseitemiterator","odict_iterator","itertools.zip_longest","itertools.pairwise"].contains n && vs[0]? == some (rawInt _))=true then _ else _) Q E s
       rw [if_neg (by intro h; rw [hn,Bool.false_and] at h; cases h)]
       exact wpAny_pure hQ))
def Itl (K:PySem.W.Frag) (a:Addr):It :=
 ⟨λi H=>∃ xs x,SqL K H a xs/\xs[i]?=some x,λi H x H'=>H'=H/\∀ xs,SqL K H a xs->xs[i]?=some x,λi H=>∃ xs,SqL K H a xs/\xs.length<=i⟩
def Itt (K:PySem.W.Frag) (a:Addr):It :=
 ⟨λi H=>∃ xs x,SqT K H a xs/\xs[i]?=some x,λi H x H'=>H'=H/\∀ xs,SqT K H a xs->xs[i]?=some x,λi H=>∃ xs,SqT K H a xs/\xs.length<=i⟩
def Itr (lo:Int) (n:Nat):It:=⟨λi _=>i<n,λi H x H'=>H'=H/\x=.int (lo+i),λi _=>n<=i⟩
theorem Bs2 {P:Program} {w:World} {K:PySem.W.Frag} {tg:Expr} (a it:Addr):Turn P w K tg (Itl K a) [it] it (λi h=>h.IsListIter it a i) where
 mem:=by simp
 obj:=λi h st b hb=>by
  have e:b=it:=by simpa using hb
  subst e
  obtain ⟨o,e,c,d⟩:=st
  exact ⟨o,e,λv z=>by rw [d] at z; cases z⟩
 keep:=λi h h' st k=>st.at λo e=>k it (by simp) o e
 item:=by
  intro X hP hw hK hc i pins s σ H E I hf st hg
  subst hP hw hK
  obtain ⟨xs,x,hq,hx⟩:=hg
  obtain ⟨its,rv,p,hz⟩:=I.list hq
  obtain ⟨u,hu,ru⟩:=rv.get hx
  obtain ⟨f0,f1,f2,f3,f4,f5⟩:=hf it (by simp)
  refine wpAny_pyNext_list_item st p.isList (x:=u) (by simpa using hu) λh' st' sb=>?_
  have I1:Inv X pins σ H { s with heap:=h' }:=I.turned (t':=s.toks) (λb o hb e=>(sb.2 b hb).trans e) f0 f1 f3 f4 f5
  obtain ⟨o,e,c,d⟩:=id st'
  exact ⟨u,rfl,Ct5 (s:={ s with heap:=h' }) e c d (by decide) ⟨x,H,I1,ru,⟨rfl,λys hy=>by rw [I.list_inj hy hq]; exact hx⟩,st',λb hb=>(hf b hb).1⟩⟩
 done:=by
  intro X hP hw hK hc i pins s σ H E I hf st hg
  subst hP hw hK
  obtain ⟨xs,hq,hx⟩:=hg
  obtain ⟨its,rv,p,hz⟩:=I.list hq
  obtain ⟨f0,f1,f2,f3,f4,f5⟩:=hf it (by simp)
  have hl:=rv.length
  exact wpAny_pyNext_list_end (I.ok.hd hc) st p.isList (by simp; omega) λh' eb=>⟨rfl,I.turned (t':=s.toks) (λb o hb e=>eb b o hb e) f0 f1 f3 f4 f5⟩
 self:=λ_ _ _ _ _ st h=>wpAny_pyIter_listiter st h
theorem Bp1 {P:Program} {w:World} {K:PySem.W.Frag} {tg:Expr} (a it:Addr):Turn P w K tg (Itt K a) [it] it (λi h=>h.IsTupleIter it a i) where
 mem:=by simp
 obj:=λi h st b hb=>by
  have e:b=it:=by simpa using hb
  subst e
  obtain ⟨o,e,c,d⟩:=st
  exact ⟨o,e,λv z=>by rw [d] at z; cases z⟩
 keep:=λi h h' st k=>st.at λo e=>k it (by simp) o e
 item:=by
  intro X hP hw hK hc i pins s σ H E I hf st hg
  subst hP hw hK
  obtain ⟨xs,x,hq,hx⟩:=hg
  obtain ⟨its,rv,p,hz⟩:=I.tuple hq
  obtain ⟨u,hu,ru⟩:=rv.get hx
  obtain ⟨f0,f1,f2,f3,f4,f5⟩:=hf it (by simp)
  refine wpAny_pyNext_tuple_item st (show s.heap.IsTuple a its.toArray from p) (x:=u) (by simpa using hu) λh' st' sb=>?_
  have I1:Inv X pins σ H { s with heap:=h' }:=I.turned (t':=s.toks) (λb o hb e=>(sb.2 b hb).trans e) f0 f1 f3 f4 f5
  obtain ⟨o,e,c,d⟩:=id st'
  exact ⟨u,rfl,Ct5 (s:={ s with heap:=h' }) e c d (by decide) ⟨x,H,I1,ru,⟨rfl,λys hy=>by rw [I.tuple_inj hy hq]; exact hx⟩,st',λb hb=>(hf b hb).1⟩⟩
 done:=by
  intro X hP hw hK hc i pins s σ H E I hf st hg
  subst hP hw hK
  obtain ⟨xs,hq,hx⟩:=hg
  obtain ⟨its,rv,p,hz⟩:=I.tuple hq
  obtain ⟨f0,f1,f2,f3,f4,f5⟩:=hf it (by simp)
  have hl:=rv.length
  exact wpAny_pyNext_tuple_end (I.ok.hd hc) st (show s.heap.IsTuple a its.toArray from p) (by simp; omega) λh' eb=>⟨rfl,I.turned (t':=s.toks) (λb o hb e=>eb b o hb e) f0 f1 f3 f4 f5⟩
 self:=λ_ _ _ _ _ st h=>wpAny_pyIter_tupleiter st h
theorem Bp2 {P:Program} {w:World} {K:PySem.W.Frag} {tg:Expr} (it:Addr) (lo:Int) (n:Nat):Turn P w K tg (Itr lo n) [it] it (λi h=>IsRangeIter h it (lo+(i:Nat) * 1) ((n:Int) - (i:Nat)) 1) where
 mem:=by simp
 obj:=λi h st b hb=>by
  have e:b=it:=by simpa using hb
  subst e
  exact ⟨_,st,λv z=>by
   have z':Data.fields _=Data.cell v:=z
   cases z'⟩
 keep:=λi h h' st k=>k it (by simp) _ st
 item:=by
  intro X hP hw hK hc i pins s σ H E I hf st hg
  subst hP hw hK
  obtain ⟨f0,f1,f2,f3,f4,f5⟩:=hf it (by simp)
  have W:=Walks.range (prog:=X.prog) (w:=X.w) (I.ok.hd hc) it lo 1 n
  refine W.item i s _ _ hg st λv h' tk hv st' kk=>?_
  obtain ⟨t,rfl⟩:=hv
  have I1:Inv X pins σ H { s with heap:=h',toks:=tk }:=I.turned (λb o hb e=>kk b o (by simpa using hb) e) f0 f1 f3 f4 f5
  refine ⟨_,rfl,Ct5 (s:={ s with heap:=h',toks:=tk }) (n:="range_iterator") st' rfl rfl (by decide) ⟨.int (lo+i),H,I1,⟨t,?_⟩,⟨rfl,rfl⟩,st',λb hb=>(hf b hb).1⟩⟩
  rw [Int.mul_one]
 done:=by
  intro X hP hw hK hc i pins s σ H E I hf st hg
  subst hP hw hK
  obtain ⟨f0,f1,f2,f3,f4,f5⟩:=hf it (by simp)
  exact wpAny_pyNext_range_end (I.ok.hd hc) st (by have:n<=i:=hg; omega) λh' eb=>⟨rfl,I.turned (t':=s.toks) (λb o hb e=>eb b o hb e) f0 f1 f3 f4 f5⟩
 self:=λ_ _ _ _ _ st h=>wpAny_pyIter_rangeiter st h
end L2
namespace L2
open PySem PySem.Spec PyProof.Rows
section
variable {X : Cx} {tg : Expr}
def Dd9 (K:PySem.W.Frag) (tl:TE):TI:=λσ H R=>tl σ H λx H1=>∃ a,x=.ref a/\(∃ xs,SqL K H1 a xs)/\R (Itl K a) H1
def iTup (K:PySem.W.Frag) (tl:TE):TI:=λσ H R=>tl σ H λx H1=>∃ a,x=.ref a/\(∃ xs,SqT K H1 a xs)/\R (Itt K a) H1
theorem Af9 {l:Expr} {tl:TE} (hl:PE X l tl):PI X tg l (Dd9 X.K tl):=by
 intro pins s σ H R I h
 refine thn (hl pins s σ H _ I h) λv s1 ⟨x,H1,I1,r1,q1⟩=>?_
 obtain ⟨a,e,⟨xs,hq⟩,q⟩:=q1
 subst e
 cases r1
 obtain ⟨its,rv,p,hz⟩:=I1.list hq
 refine wpAny_pyIter_list p.isList ?_
 refine ⟨s1.heap.objs.size,[s1.heap.objs.size],_,_,H1,rfl,I1.kept (t':=s1.toks) λb o e=>Heap.get?_push_of_some _ e,Bs2 a _,⟨_,Heap.get?_push_size _ rfl,rfl,rfl⟩,λb hb=>?_,q⟩
 have e:b=s1.heap.objs.size:=by simpa using hb
 subst e
 exact I1.fpOk (Nat.le_refl _) (I1.hok.fresh (Nat.le_refl _))
theorem Cx0 {l:Expr} {tl:TE} (hl:PE X l tl):PI X tg l (iTup X.K tl):=by
 intro pins s σ H R I h
 refine thn (hl pins s σ H _ I h) λv s1 ⟨x,H1,I1,r1,q1⟩=>?_
 obtain ⟨a,e,⟨xs,hq⟩,q⟩:=q1
 subst e
 cases r1
 obtain ⟨its,rv,p,hz⟩:=I1.tuple hq
 refine wpAny_pyIter_tuple (show s1.heap.IsTuple a its.toArray from p) ?_
 refine ⟨s1.heap.objs.size,[s1.heap.objs.size],_,_,H1,rfl,I1.kept (t':=s1.toks) λb o e=>Heap.get?_push_of_some _ e,Bp1 a _,⟨_,Heap.get?_push_size _ rfl,rfl,rfl⟩,λb hb=>?_,q⟩
 have e:b=s1.heap.objs.size:=by simpa using hb
 subst e
 exact I1.fpOk (Nat.le_refl _) (I1.hok.fresh (Nat.le_refl _))
theorem Ce1 {pins:List (Addr×Obj)} {σ:St} {H:Hp} {s:Shared} {R:It->Hp->Prop} {E:Value->Shared->Prop} {lo hi:Int} {t u v:Tok} {tk:Nat} (I:Inv X pins σ H s) (h1:-(2 ^ 62)<=lo) (h2:lo<2 ^ 62) (h3:-(2 ^ 62)<=hi) (h4:hi<2 ^ 62)
  (q:R (Itr lo (hi - lo).toNat) H):wpAny (model X.prog X.w) X.A (pyIter (.ref s.heap.objs.size)) (PIE X pins σ tg R) E { s with heap:=s.heap.push { cls:=.type "range",data:=.fields #[.int lo t,.int hi u,.int 1 v] },toks:=tk }:=by
 refine wpAny_pyIter_range (IsRange.new ..) (small_one h1 h2 h3 h4) ?_
 have I1:Inv X pins σ H { s with heap:=s.heap.push { cls:=.type "range",data:=.fields #[.int lo t,.int hi u,.int 1 v] },toks:=tk }:=I.kept λb o e=>Heap.get?_push_of_some _ e
 refine ⟨(s.heap.push { cls:=.type "range",data:=.fields #[.int lo t,.int hi u,.int 1 v] }).objs.size,[(s.heap.push { cls:=.type "range",data:=.fields #[.int lo t,.int hi u,.int 1 v] }).objs.size],_,_,H,rfl,
  I1.kept (t':=tk) λb o e=>Heap.get?_push_of_some _ e,Bp2 _ lo (hi - lo).toNat,?_,λb hb=>?_,q⟩
 ·have e1:lo+((0:Nat):Int) * 1=lo:=by simp
  have e2:(((hi - lo).toNat:Nat):Int) - ((0:Nat):Int)=Builtin.Range.rangeSize lo hi 1:=by rw [rangeSize_one]; split <;> omega
  show IsRangeIter _ _ (lo+((0:Nat):Int) * 1) ((((hi - lo).toNat:Nat):Int) - ((0:Nat):Int)) 1
  rw [e1,e2]
  exact Heap.get?_push_size _ rfl
 ·have e:b=(s.heap.push { cls:=.type "range",data:=.fields #[.int lo t,.int hi u,.int 1 v] }).objs.size:=by simpa using hb
  subst e
  exact I1.fpOk (Nat.le_refl _) (I1.hok.fresh (Nat.le_refl _))
def Dd8 (ta:TA):TI:=λσ H R=>ta σ H λvs H1=>∃ j:Int,vs=[.int j]/\-(2 ^ 62)<=j/\j<2 ^ 62/\R (Itr 0 j.toNat) H1
theorem Ak1 {a:Expr} {ta:TA} {p pos:Pos} (hg:Gl X "range") (hm:X.mg "range"=none) (ha:PA X [a] ta) (hs:starEach [a] X.env=[(false,eval a X.env)]:=by rfl):PI X tg (.Call (.Name "range" p) [a] [] pos) (Dd8 ta):=by
 intro pins s σ H R I h
 refine Call_ (Bn2 I hg hm boot_range (PyProof.Rows.callWith_type1 (thn (ha pos pins s σ H _ I h) λus s1 ⟨vs,H1,I1,r1,q1⟩=>?_) hs rfl))
 obtain ⟨j,e,q1,q2,q⟩:=q1
 subst e
 cases r1 with
 | cons r rr =>
  cases rr
  obtain ⟨t,rfl⟩:=r
  exact call_range_1 (Ce1 I1 (by omega) (by omega) q1 q2 (by simpa using q))
def tFor (wi:TI) (g:TG) (tb:TS):TS:=λD σ H=>wi σ H λJ H1=>∃ W:Nat->Nat->St->Hp->Prop,(∃ m,W 0 m σ H1)/\∀ i m σ H,W i m σ H ->
 (J.stop i H/\D.nx σ H)\/(J.go i H/\∃ N:St->Hp->Prop,(∀ σ' H',N σ' H'->∃ m',m'<m/\W (i+1) m' σ' H')/\∀ x H',J.yld i H x H'->g x σ H' λσ2 H2=>tb { D with nx:=N,ct:=N,bk:=D.nx } σ2 H2)
def Au2 (fp:List Addr) (h:Heap):List (Addr×Obj):=fp.filterMap λb=>(h.get? b).map λo=>(b,o)
theorem Ai3 {fp:List Addr} {h:Heap} {b:Addr} {o:Obj} (hb:b ∈ fp) (e:h.get? b=some o):(b,o) ∈ Au2 fp h:=List.mem_filterMap.mpr ⟨b,hb,by rw [e]; rfl⟩
theorem Bx5 {fp:List Addr} {h:Heap} {p:Addr×Obj} (hp:p ∈ Au2 fp h):p.1 ∈ fp/\h.get? p.1=some p.2:=by
 obtain ⟨b,hb,e⟩:=List.mem_filterMap.mp hp
 cases q:h.get? b with
 | none=>rw [q] at e; cases e
 | some o =>
  rw [q] at e
  have e':(b,o)=p:=Option.some.inj e
  subst e'
  exact ⟨hb,q⟩
theorem Inv.pinned {pins:List (Addr×Obj)} {σ:St} {H:Hp} {s:Shared} {fp:List Addr} (I:Inv X pins σ H s) (hf:∀ b ∈ fp,FpOk X pins H b) (ho:∀ b ∈ fp,∃ o,s.heap.get? b=some o/\∀ v,o.data≠.cell v):Inv X (pins++Au2 fp s.heap) σ H s :=
 I.pins_of λp hp=>(List.mem_append.mp hp).elim (λz=>I.pin p (List.mem_append_right _ z)) λz=>by
  obtain ⟨hb,e⟩:=Bx5 z
  obtain ⟨f0,f1,f2,_⟩:=hf p.1 hb
  obtain ⟨o,e',d⟩:=ho p.1 hb
  rw [e] at e'; cases e'
  exact ⟨e,f0,f1,f2,d⟩
theorem Inv.unpinned {pins pl:List (Addr×Obj)} {σ:St} {H:Hp} {s:Shared} (I:Inv X (pins++pl) σ H s):Inv X pins σ H s:=I.pins_of λp hp=>I.pin p (List.mem_append_right _ (List.mem_append_left _ hp))
theorem Ah9 {iter:Expr} {body:List Stmt} {wi:TI} {g:TG} {tb:TS} {pos:Pos} (hp:PassesOwn (model X.prog X.w) X.A X.env X.xe) (hc:X.calm=true) (hi:PI X tg iter wi) (hg:PG X tg g) (hb:PSs X body tb)
  (hs:∀ x,foldedSetIterable iter X.env x=pure x:=by intro _; rfl):PS X (.For tg iter body [] pos) (tFor wi g tb):=by
 intro pins s σ H D I h
 refine wpAny_For (thn (hi pins s σ H _ I h) λv s1 h1=>thn h1 λitv s2 h2=>?_) hs
 obtain ⟨it,fp,tn,J,H2,e,I2,T,st2,f2,W,⟨m0,w0⟩,turn⟩:=h2
 subst e
 have stat:∀ {H':Hp},(∀ b ∈ fp,H' b=none)->∀ b ∈ fp,FpOk X pins H' b:=λhn b hb=>⟨hn b hb,(f2 b hb).2⟩
 refine codeAny_forLoop_any (λn s'=>∃ i σ' H',Inv X pins σ' H' s'/\tn i s'.heap/\(∀ b ∈ fp,H' b=none)/\W i n σ' H') ?_ m0 ⟨0,σ,H2,I2,st2,λb hb=>(f2 b hb).1,w0⟩
 rintro n s3 ⟨i,σ3,H3,I3,st3,fr3,w3⟩
 rcases turn i n σ3 H3 w3 with ⟨stop,qn⟩ | ⟨go,N,hN,step⟩
 ·refine wpAny_passesOwn hp (thn (T.done X rfl rfl rfl hc i pins s3 σ3 H3 X.xe I3 (stat fr3) st3 stop) λr s4 ⟨hr,I4⟩=>?_)
  subst hr
  exact wpAny_execs_nil ⟨σ3,H3,I4,qn⟩
 ·refine wpAny_passesOwn hp (thn (T.item X rfl rfl rfl hc i pins s3 σ3 H3 X.xe I3 (stat fr3) st3 go) λr s4 ⟨u,hr,h4⟩=>?_)
  subst hr
  refine wpAny_passesOwn hp (thn h4 λ_ s5 ⟨x,H5,I5,r5,y5,st5,fr5⟩=>?_)
  have I5':=I5.pinned (stat fr5) (T.obj _ _ st5)
  refine wpAny_passesOwn hp (thn (hg _ s5 σ3 H5 x u _ I5' r5 (step x H5 y5)) λ_ s6 ⟨σ6,H6,I6,q6⟩=>?_)
  refine wpAny_passesOwn hp (thn (hb _ s6 σ6 H6 _ I6 q6) λf s7 q7=>?_)
  have again:∀ {σ7:St} {H7:Hp},Inv X (pins++Au2 fp s5.heap) σ7 H7 s7->N σ7 H7->∃ m,m<n/\∃ i σ' H',Inv X pins σ' H' s7/\tn i s7.heap/\(∀ b ∈ fp,H' b=none)/\W i m σ' H':=λ{σ7 H7} I7 n7=>by
   obtain ⟨m',hm,w7⟩:=hN σ7 H7 n7
   refine ⟨m',hm,i+1,σ7,H7,I7.unpinned,T.keep _ _ _ st5 λb hb o e=>(I7.pin (b,o) (List.mem_append_right _ (List.mem_append_right _ (Ai3 hb e)))).1,λb hb=>?_,w7⟩
   obtain ⟨o,e,d⟩:=T.obj _ _ st5 b hb
   exact (I7.pin (b,o) (List.mem_append_right _ (List.mem_append_right _ (Ai3 hb e)))).2.1
  cases f with
  | next=>obtain ⟨σ7,H7,I7,n7⟩:=q7; exact again I7 n7
  | cont=>obtain ⟨σ7,H7,I7,n7⟩:=q7; exact again I7 n7
  | brk=>obtain ⟨σ7,H7,I7,q7⟩:=q7; exact ⟨σ7,H7,I7.unpinned,q7⟩
  | ret v=>obtain ⟨x7,σ7,H7,I7,r7,q7⟩:=q7; exact ⟨x7,σ7,H7,I7.unpinned,r7,q7⟩
end
theorem Ah0 {K:PySem.W.Frag} {a:Addr} {xs:List V} {g:TG} {tb:TS} {D:Ends} {σ:St} {H:Hp} (Pv:Nat->St->Hp->Prop) (h0:Pv 0 σ H) (hl:∀ i σ H,i<=xs.length->Pv i σ H->SqL K H a xs)
  (hs:∀ i x σ H,xs[i]?=some x->Pv i σ H->g x σ H λσ2 H2=>tb { D with nx:=Pv (i+1),ct:=Pv (i+1),bk:=D.nx } σ2 H2) (hd:∀ σ H,Pv xs.length σ H->D.nx σ H) :
  ∃ W:Nat->Nat->St->Hp->Prop,(∃ m,W 0 m σ H)/\∀ i m σ H,W i m σ H ->
   ((Itl K a).stop i H/\D.nx σ H)\/((Itl K a).go i H/\∃ N:St->Hp->Prop,(∀ σ' H',N σ' H'->∃ m',m'<m/\W (i+1) m' σ' H')/\∀ x H',(Itl K a).yld i H x H'->g x σ H' λσ2 H2=>tb { D with nx:=N,ct:=N,bk:=D.nx } σ2 H2):=by
 refine ⟨λi m σ H=>m=xs.length - i/\i<=xs.length/\Pv i σ H,⟨xs.length,by simp,Nat.zero_le _,h0⟩,?_⟩
 rintro i m σ H ⟨rfl,hi,p⟩
 have q:=hl i σ H hi p
 by_cases hlt:i<xs.length
 ·refine .inr ⟨⟨xs,xs[i],q,by simp [hlt]⟩,Pv (i+1),λσ' H' p'=>⟨xs.length - (i+1),by omega,rfl,hlt,p'⟩,λx H' y=>?_⟩
  obtain ⟨e,y⟩:=y
  subst e
  exact hs i x σ _ (y xs q) p
 ·have e:i=xs.length:=by omega
  subst e
  exact .inl ⟨⟨xs,q,Nat.le_refl _⟩,hd σ H p⟩
theorem Ct7 {K:PySem.W.Frag} {a:Addr} {xs:List V} {g:TG} {tb:TS} {D:Ends} {σ:St} {H:Hp} (Pv:Nat->St->Hp->Prop) (h0:Pv 0 σ H) (hl:∀ i σ H,i<=xs.length->Pv i σ H->SqT K H a xs)
  (hs:∀ i x σ H,xs[i]?=some x->Pv i σ H->g x σ H λσ2 H2=>tb { D with nx:=Pv (i+1),ct:=Pv (i+1),bk:=D.nx } σ2 H2) (hd:∀ σ H,Pv xs.length σ H->D.nx σ H) :
  ∃ W:Nat->Nat->St->Hp->Prop,(∃ m,W 0 m σ H)/\∀ i m σ H,W i m σ H ->
   ((Itt K a).stop i H/\D.nx σ H)\/((Itt K a).go i H/\∃ N:St->Hp->Prop,(∀ σ' H',N σ' H'->∃ m',m'<m/\W (i+1) m' σ' H')/\∀ x H',(Itt K a).yld i H x H'->g x σ H' λσ2 H2=>tb { D with nx:=N,ct:=N,bk:=D.nx } σ2 H2):=by
 refine ⟨λi m σ H=>m=xs.length - i/\i<=xs.length/\Pv i σ H,⟨xs.length,by simp,Nat.zero_le _,h0⟩,?_⟩
 rintro i m σ H ⟨rfl,hi,p⟩
 have q:=hl i σ H hi p
 by_cases hlt:i<xs.length
 ·refine .inr ⟨⟨xs,xs[i],q,by simp [hlt]⟩,Pv (i+1),λσ' H' p'=>⟨xs.length - (i+1),by omega,rfl,hlt,p'⟩,λx H' y=>?_⟩
  obtain ⟨e,y⟩:=y
  subst e
  exact hs i x σ _ (y xs q) p
 ·have e:i=xs.length:=by omega
  subst e
  exact .inl ⟨⟨xs,q,Nat.le_refl _⟩,hd σ H p⟩
theorem Ap5 {lo:Int} {n:Nat} {g:TG} {tb:TS} {D:Ends} {σ:St} {H:Hp} (Pv:Nat->St->Hp->Prop) (h0:Pv 0 σ H)
  (hs:∀ i σ H,i<n->Pv i σ H->g (.int (lo+i)) σ H λσ2 H2=>tb { D with nx:=Pv (i+1),ct:=Pv (i+1),bk:=D.nx } σ2 H2) (hd:∀ σ H,Pv n σ H->D.nx σ H) :
  ∃ W:Nat->Nat->St->Hp->Prop,(∃ m,W 0 m σ H)/\∀ i m σ H,W i m σ H ->
   ((Itr lo n).stop i H/\D.nx σ H)\/((Itr lo n).go i H/\∃ N:St->Hp->Prop,(∀ σ' H',N σ' H'->∃ m',m'<m/\W (i+1) m' σ' H')/\∀ x H',(Itr lo n).yld i H x H'->g x σ H' λσ2 H2=>tb { D with nx:=N,ct:=N,bk:=D.nx } σ2 H2):=by
 refine ⟨λi m σ H=>m=n - i/\i<=n/\Pv i σ H,⟨n,by simp,Nat.zero_le _,h0⟩,?_⟩
 rintro i m σ H ⟨rfl,hi,p⟩
 by_cases hlt:i<n
 ·refine .inr ⟨hlt,Pv (i+1),λσ' H' p'=>⟨n - (i+1),by omega,rfl,hlt,p'⟩,λx H' y=>?_⟩
  obtain ⟨e,y⟩:=y
  subst e y
  exact hs i σ _ hlt p
 ·have e:i=n:=by omega
  subst e
  exact .inl ⟨Nat.le_refl _,hd σ H p⟩
end L2
namespace L2
open PySem PySem.Spec PyProof.Rows
abbrev R2:=V->V->Hp->VK->Prop
def OpR (X:Cx) (f:Value->Value->Sem Value) (r:R2):Prop :=
 ∀ (pins:List (Addr×Obj)) (s:Shared) (σ:St) (H:Hp) (x y:V) (v u:Value) (Q:VK),Inv X pins σ H s->RelV x v->RelV y u->r x y H Q ->
  wpAny (model X.prog X.w) X.A (f v u) (EP X pins σ Q) X.xe s
def UnR (X:Cx) (f:Value->Sem Value) (r:V->Hp->VK->Prop):Prop :=
 ∀ (pins:List (Addr×Obj)) (s:Shared) (σ:St) (H:Hp) (x:V) (v:Value) (Q:VK),Inv X pins σ H s->RelV x v->r x H Q ->
  wpAny (model X.prog X.w) X.A (f v) (EP X pins σ Q) X.xe s
def Aq4 (X:Cx) (f:Value) (r:List V->Hp->VK->Prop):Prop :=
 ∀ (pins:List (Addr×Obj)) (s:Shared) (σ:St) (H:Hp) (xs:List V) (us:List Value) (Q:VK),Inv X pins σ H s->Vals xs us->r xs H Q ->
  wpAny (model X.prog X.w) X.A (call f us) (EP X pins σ Q) X.xe s
def tOp (r:R2) (ta tb:TE):TE:=λσ H Q=>ta σ H λx H1=>tb σ H1 λy H2=>r x y H2 Q
def tUn (r:V->Hp->VK->Prop) (ta:TE):TE:=λσ H Q=>ta σ H λx H1=>r x H1 Q
def rI (C:Int->Int->Prop) (g:Int->Int->V):R2:=λx y H Q=>∃ i j,x=.int i/\y=.int j/\C i j/\Q (g i j) H
def rI0 (g:Int->Int->V):R2:=λx y H Q=>∃ i j,x=.int i/\y=.int j/\Q (g i j) H
def rU (g:Int->V):V->Hp->VK->Prop:=λx H Q=>∃ i,x=.int i/\Q (g i) H
section
variable {X : Cx} {a b c : Expr} {ta tb tc : TE} {pos : Pos}
theorem binT (ha:PE X a ta) (hb:PE X b tb) {pins:List (Addr×Obj)} {s:Shared} {σ:St} {H:Hp} {R:V->V->Hp->Prop} (I:Inv X pins σ H s)
  (h:ta σ H λx H1=>tb σ H1 λy H2=>R x y H2) {Q:Value->Shared->Prop} {f:Value->Value->Sem Value}
  (hf:∀ v u s2 x y H2,Inv X pins σ H2 s2->RelV x v->RelV y u->R x y H2->wpAny (model X.prog X.w) X.A (f v u) Q X.xe s2) :
  wpAny (model X.prog X.w) X.A (eval a X.env) (λv s₁=>wpAny (model X.prog X.w) X.A (eval b X.env) (λu s₂=>wpAny (model X.prog X.w) X.A (f v u) Q X.xe s₂) X.xe s₁) X.xe s:=by
 refine thn (ha pins s σ H _ I h) λv s1 ⟨x,H1,I1,r1,q1⟩=>?_
 refine thn (hb pins s1 σ H1 _ I1 q1) λu s2 ⟨y,H2,I2,r2,q2⟩=>?_
 exact hf v u s2 x y H2 I2 r1 r2 q2
theorem Ab9 {op:Operator} {r:R2} (ho:OpR X (binaryOp op) r) (ha:PE X a ta) (hb:PE X b tb):PE X (.BinOp a op b pos) (tOp r ta tb):=by
 intro pins s σ H Q I h
 exact wpAny_BinOp (binT ha hb I h λv u s2 x y H2 I2 rx ry q=>ho pins s2 σ H2 x y v u Q I2 rx ry q)
theorem Dd4 {op:UnaryOp} {r:V->Hp->VK->Prop} (ho:UnR X (unaryOp op) r) (ha:PE X a ta):PE X (.UnaryOp op a pos) (tUn r ta):=by
 intro pins s σ H Q I h
 exact UnaryOp_ (thn (ha pins s σ H _ I h) λv s1 ⟨x,H1,I1,r1,q1⟩=>ho pins s1 σ H1 x v Q I1 r1 q1)
theorem opI {f:Value->Value->Sem Value} {C:Int->Int->Prop} {g:Int->Int->Int}
  (rule:∀ (i j:Int) (t u:Tok) (s:Shared) (Q:Value->Shared->Prop) (E:Value->Shared->Prop),C i j->Q (.int (g i j) s.toks) { s with toks:=s.toks+1 }->wpAny (model X.prog X.w) X.A (f (.int i t) (.int j u)) Q E s) :
  OpR X f (rI C λi j=>.int (g i j)):=by
 intro pins s σ H x y v u Q I rx ry h
 obtain ⟨i,j,rfl,rfl,hc,q⟩:=h
 obtain ⟨t,rfl⟩:=rx
 obtain ⟨t',rfl⟩:=ry
 exact rule i j t t' s _ _ hc ⟨.int (g i j),H,I.tok _,⟨_,rfl⟩,q⟩
theorem opI0 {f:Value->Value->Sem Value} {g:Int->Int->Int}
  (rule:∀ (i j:Int) (t u:Tok) (s:Shared) (Q:Value->Shared->Prop) (E:Value->Shared->Prop),Q (.int (g i j) s.toks) { s with toks:=s.toks+1 }->wpAny (model X.prog X.w) X.A (f (.int i t) (.int j u)) Q E s) :
  OpR X f (rI0 λi j=>.int (g i j)):=by
 intro pins s σ H x y v u Q I rx ry h
 obtain ⟨i,j,rfl,rfl,q⟩:=h
 obtain ⟨t,rfl⟩:=rx
 obtain ⟨t',rfl⟩:=ry
 exact rule i j t t' s _ _ ⟨.int (g i j),H,I.tok _,⟨_,rfl⟩,q⟩
theorem opB0 {f:Value->Value->Sem Value} {g:Int->Int->Bool}
  (rule:∀ (i j:Int) (t u:Tok) (s:Shared) (Q:Value->Shared->Prop) (E:Value->Shared->Prop),Q (.bool (g i j)) s->wpAny (model X.prog X.w) X.A (f (.int i t) (.int j u)) Q E s) :
  OpR X f (rI0 λi j=>.bl (g i j)):=by
 intro pins s σ H x y v u Q I rx ry h
 obtain ⟨i,j,rfl,rfl,q⟩:=h
 obtain ⟨t,rfl⟩:=rx
 obtain ⟨t',rfl⟩:=ry
 exact rule i j t t' s _ _ ⟨.bl (g i j),H,I,rfl,q⟩
def CDiv (i j:Int):Prop:=0<j/\j<1073741824
def CPow (i j:Int):Prop:=0<=j/\j<=1000000/\i.natAbs<2 ^ 64
def CMul (i j:Int):Prop:=(-(2 ^ 64)<i/\i<2 ^ 64)\/(-(2 ^ 64)<j/\j<2 ^ 64)
theorem CMul.ok {i j:Int} (h:CMul i j):IntMulOk i j:=by
 rcases h with ⟨h1,h2⟩ | ⟨h1,h2⟩
 ·exact .of_left (intBits_le_64 h1 h2)
 ·exact .of_right (intBits_le_64 h1 h2)
theorem Ag8:OpR X (binaryOp .Add) (rI0 λi j=>.int (i+j)):=opI0 λ_ _ _ _ _ _ _ q=>add_int q
theorem Av6:OpR X (binaryOp .Sub) (rI0 λi j=>.int (i - j)):=opI0 λ_ _ _ _ _ _ _ q=>sub_int q
theorem Aj8:OpR X (binaryOp .Mult) (rI CMul λi j=>.int (i * j)):=opI λ_ _ _ _ _ _ _ hc q=>mul_int q hc.ok
theorem Ad9:OpR X (binaryOp .FloorDiv) (rI CDiv λi j=>.int (i / j)):=opI λi j _ _ _ _ _ hc q=>by
 have h1:(0:Int)<j:=hc.1
 have h2:j<1073741824:=hc.2
 exact floordiv_int (by omega) (by rw [Int.fdiv_eq_ediv_of_nonneg i (by omega)]; exact q) (.inl (PyProof.noPylong_small (by omega)))
theorem Ad0:OpR X (binaryOp .Mod) (rI (λ_ j=>0<j) λi j=>.int (i % j)):=opI λi j _ _ _ _ _ hc q=>by
 have h1:(0:Int)<j:=hc
 exact mod_int' (by omega) (by rw [Int.fmod_eq_emod_of_nonneg i (by omega)]; exact q)
theorem Am9:OpR X (binaryOp .Pow) (rI CPow λi j=>.int (i ^ j.toNat)):=opI λ_ _ _ _ _ _ _ hc q=>pow_int_small hc.1 hc.2.1 hc.2.2 q
theorem Bb6:OpR X (binaryOp .BitAnd) (rI0 λi j=>.int (Builtin.bitAnd i j)):=opI0 λ_ _ _ _ _ _ _ q=>and_int q
theorem Cf5:OpR X (binaryOp .BitOr) (rI0 λi j=>.int (Builtin.bitOr i j)):=opI0 λ_ _ _ _ _ _ _ q=>or_int q
theorem unI {f:Value->Sem Value} {g:Int->Int}
  (rule:∀ (i:Int) (t:Tok) (s:Shared) (Q:Value->Shared->Prop) (E:Value->Shared->Prop),Q (.int (g i) s.toks) { s with toks:=s.toks+1 }->wpAny (model X.prog X.w) X.A (f (.int i t)) Q E s) :
  UnR X f (rU λi=>.int (g i)):=by
 intro pins s σ H x v Q I rx h
 obtain ⟨i,rfl,q⟩:=h
 obtain ⟨t,rfl⟩:=rx
 exact rule i t s _ _ ⟨.int (g i),H,I.tok _,⟨_,rfl⟩,q⟩
theorem Cu2:UnR X (unaryOp .USub) (rU λi=>.int (-i)):=unI λ_ _ _ _ _ q=>neg_int q
end
def scal:V->V->Bool
 | .non,.non=>true | .non,.int _=>true | .int _,.non=>true | .non,.bl _=>true | .bl _,.non=>true | .non,.str _=>true | .str _,.non=>true
 | .int _,.int _=>true | .bl _,.bl _=>true | .str _,.str _=>true | .byt _,.byt _=>true
 | .int _,.str _=>true | .str _,.int _=>true | .bl _,.str _=>true | .str _,.bl _=>true
 | _,_=>false
def rEq:R2:=λx y H Q=>scal x y=true/\Q (.bl (decide (x=y))) H
def rNe:R2:=λx y H Q=>scal x y=true/\Q (.bl (!decide (x=y))) H
theorem Ca3 {i j:Int}:decide (V.int i=V.int j)=(i == j):=by
 rw [Bool.eq_iff_iff]
 simp
theorem Cl7 {i j:Bool}:decide (V.bl i=V.bl j)=(i == j):=by
 rw [Bool.eq_iff_iff]
 simp
theorem Ca2 {i j:Str}:decide (V.str i=V.str j)=(i == j):=by
 rw [Bool.eq_iff_iff]
 simp
theorem Ca4 {i j:Array UInt8}:decide (V.byt i=V.byt j)=(i.toList == j.toList):=by
 rw [Bool.eq_iff_iff]
 cases i
 cases j
 simp
section
variable {X : Cx} {a b c : Expr} {ta tb tc : TE} {pos : Pos}
theorem Ae5 {pins:List (Addr×Obj)} {σ:St} {H:Hp} {s:Shared} {Q:VK} {k k':Bool} (I:Inv X pins σ H s) (q:Q (.bl k) H) (e:k=k'):EP X pins σ Q (.bool k') s:=by
 subst e
 exact ⟨.bl k,H,I,rfl,q⟩
theorem Ae4:OpR X (compareOp .Eq) rEq:=by
 intro pins s σ H x y v u Q I rx ry h
 obtain ⟨hs,q⟩:=h
 cases x with
 | non =>
  cases rx
  cases y with
  | non=>cases ry; exact PySem.EqNone.eq_none_none (Ae5 I q (by simp))
  | bl j=>cases ry; exact PySem.EqNone.eq_none_bool (Ae5 I q (by simp))
  | int j=>obtain ⟨t',rfl⟩:=ry; exact PySem.EqNone.eq_none_int (Ae5 I q (by simp))
  | str j=>obtain ⟨t',rfl⟩:=ry; exact PySem.EqNone.eq_none_str (Ae5 I q (by simp))
  | _=>exact absurd (show false=true from hs) Bool.false_ne_true
 | bl i =>
  cases rx
  cases y with
  | non=>cases ry; exact PySem.EqNone.eq_bool_none (Ae5 I q (by simp))
  | bl j=>cases ry; exact eq_bool (Ae5 I q Cl7)
  | str j=>obtain ⟨t',rfl⟩:=ry; exact PySem.EqMixed.eq_bool_str (Ae5 I q (by simp))
  | _=>exact absurd (show false=true from hs) Bool.false_ne_true
 | int i =>
  obtain ⟨t,rfl⟩:=rx
  cases y with
  | non=>cases ry; exact PySem.EqNone.eq_int_none (Ae5 I q (by simp))
  | int j=>obtain ⟨t',rfl⟩:=ry; exact eq_int (Ae5 I q Ca3)
  | str j=>obtain ⟨t',rfl⟩:=ry; exact PySem.EqMixed.eq_int_str (Ae5 I q (by simp))
  | _=>exact absurd (show false=true from hs) Bool.false_ne_true
 | str i =>
  obtain ⟨t,rfl⟩:=rx
  cases y with
  | non=>cases ry; exact PySem.EqNone.eq_str_none (Ae5 I q (by simp))
  | bl j=>cases ry; exact PySem.EqMixed.eq_str_bool (Ae5 I q (by simp))
  | int j=>obtain ⟨t',rfl⟩:=ry; exact PySem.EqMixed.eq_str_int (Ae5 I q (by simp))
  | str j=>obtain ⟨t',rfl⟩:=ry; exact eq_str (Ae5 I q Ca2)
  | _=>exact absurd (show false=true from hs) Bool.false_ne_true
 | byt i =>
  obtain ⟨t,rfl⟩:=rx
  cases y with
  | byt j=>obtain ⟨t',rfl⟩:=ry; exact PySem.W.eq_bytes (Ae5 I q Ca4)
  | _=>exact absurd (show false=true from hs) Bool.false_ne_true
 | _=>cases y <;> exact absurd (show false=true from hs) Bool.false_ne_true
theorem Bq1:OpR X (compareOp .NotEq) rNe:=by
 intro pins s σ H x y v u Q I rx ry h
 obtain ⟨hs,q⟩:=h
 cases x with
 | non =>
  cases rx
  cases y with
  | non=>cases ry; exact PySem.EqNone.ne_none_none (Ae5 I q (by simp))
  | bl j=>cases ry; exact PySem.EqNone.ne_none_bool (Ae5 I q (by simp))
  | int j=>obtain ⟨t',rfl⟩:=ry; exact PySem.EqNone.ne_none_int (Ae5 I q (by simp))
  | str j=>obtain ⟨t',rfl⟩:=ry; exact PySem.EqNone.ne_none_str (Ae5 I q (by simp))
  | _=>exact absurd (show false=true from hs) Bool.false_ne_true
 | bl i =>
  cases rx
  cases y with
  | non=>cases ry; exact PySem.EqNone.ne_bool_none (Ae5 I q (by simp))
  | bl j=>cases ry; exact ne_bool (Ae5 I q (congrArg not Cl7))
  | str j=>obtain ⟨t',rfl⟩:=ry; exact PySem.EqMixed.ne_bool_str (Ae5 I q (by simp))
  | _=>exact absurd (show false=true from hs) Bool.false_ne_true
 | int i =>
  obtain ⟨t,rfl⟩:=rx
  cases y with
  | non=>cases ry; exact PySem.EqNone.ne_int_none (Ae5 I q (by simp))
  | int j=>obtain ⟨t',rfl⟩:=ry; exact ne_int (Ae5 I q (congrArg not Ca3))
  | str j=>obtain ⟨t',rfl⟩:=ry; exact PySem.EqMixed.ne_int_str (Ae5 I q (by simp))
  | _=>exact absurd (show false=true from hs) Bool.false_ne_true
 | str i =>
  obtain ⟨t,rfl⟩:=rx
  cases y with
  | non=>cases ry; exact PySem.EqNone.ne_str_none (Ae5 I q (by simp))
  | bl j=>cases ry; exact PySem.EqMixed.ne_str_bool (Ae5 I q (by simp))
  | int j=>obtain ⟨t',rfl⟩:=ry; exact PySem.EqMixed.ne_str_int (Ae5 I q (by simp))
  | str j=>obtain ⟨t',rfl⟩:=ry; exact ne_str (Ae5 I q (congrArg not Ca2))
  | _=>exact absurd (show false=true from hs) Bool.false_ne_true
 | byt i =>
  obtain ⟨t,rfl⟩:=rx
  cases y with
  | byt j=>obtain ⟨t',rfl⟩:=ry; exact PySem.W.ne_bytes (Ae5 I q (congrArg not Ca4))
  | _=>exact absurd (show false=true from hs) Bool.false_ne_true
 | _=>cases y <;> exact absurd (show false=true from hs) Bool.false_ne_true
theorem Bb5:OpR X (compareOp .Lt) (rI0 λi j=>.bl (decide (i<j))):=opB0 λ_ _ _ _ _ _ _ q=>lt_int q
theorem Bq2:OpR X (compareOp .LtE) (rI0 λi j=>.bl (decide (i<=j))):=opB0 λ_ _ _ _ _ _ _ q=>le_int q
theorem Bi6:OpR X (compareOp .Gt) (rI0 λi j=>.bl (decide (j<i))):=opB0 λ_ _ _ _ _ _ _ q=>gt_int q
theorem Cx5:OpR X (compareOp .GtE) (rI0 λi j=>.bl (decide (j<=i))):=opB0 λ_ _ _ _ _ _ _ q=>ge_int q
theorem Au3:OpR X (compareOp .Is) (λx y H Q=>y=.non/\Q (.bl (decide (x=.non))) H):=by
 intro pins s σ H x y v u Q I rx ry h
 obtain ⟨rfl,q⟩:=h
 cases ry
 refine is_none_gen (Ae5 I q ?_)
 cases x <;> first
  | (cases rx; rfl)
  | (obtain ⟨t,rfl⟩:=rx; rfl)
theorem Aq0:OpR X (compareOp .IsNot) (λx y H Q=>y=.non/\Q (.bl (!decide (x=.non))) H):=by
 intro pins s σ H x y v u Q I rx ry h
 obtain ⟨rfl,q⟩:=h
 cases ry
 refine isnot_none_gen (Ae5 I q ?_)
 cases x <;> first
  | (cases rx; rfl)
  | (obtain ⟨t,rfl⟩:=rx; rfl)
theorem Ac0 (b:Expr) {op:CmpOp} (h:op≠.In:=by decide) (h2:op≠.NotIn:=by decide):behindInMarks op b=false:=by
 have e1:(op == CmpOp.In)=false:=by cases op <;> first | rfl | exact absurd rfl h
 have e2:(op == CmpOp.NotIn)=false:=by cases op <;> first | rfl | exact absurd rfl h2
 cases b <;> simp [behindInMarks,e1,e2]
theorem Af6 {op:CmpOp} {r:R2} (ho:OpR X (compareOp op) r) (ha:PE X a ta) (hb:PE X b tb) (hm:behindInMarks op b=false):PE X (.Compare a [op] [b] pos) (tOp r ta tb):=by
 intro pins s σ H Q I h
 exact wpAny_Compare1 (binT ha hb I h λv u s2 x y H2 I2 rx ry q=>ho pins s2 σ H2 x y v u Q I2 rx ry q) hm
def Cc2 (t:TE):TT:=λσ H Q=>t σ H λx H'=>∃ k,x=.bl k/\Q k H'
theorem Ab6 {op:CmpOp} {r:R2} (ho:OpR X (compareOp op) r) (ha:PE X a ta) (hb:PE X b tb) (hm:behindInMarks op b=false):PT X (.Compare a [op] [b] pos) (Cc2 (tOp r ta tb)):=by
 intro pins s σ H Q I h
 refine wpAny_isTrue_Compare1 (thn (ha pins s σ H _ I h) λv s1 ⟨x,H1,I1,r1,q1⟩=>thn (hb pins s1 σ H1 _ I1 q1) λu s2 ⟨y,H2,I2,r2,q2⟩ =>
  thn (ho pins s2 σ H2 x y v u _ I2 r1 r2 q2) λc s3 ⟨z,H3,I3,r3,k,e,q3⟩=>?_) hm
 subst e
 cases r3
 exact wpAny_truthy_bool ⟨H3,I3,q3⟩
def Ck3 (r r':R2) (ta tb tc:TE):TE:=λσ H Q=>ta σ H λx H1=>tb σ H1 λy H2=>r x y H2 λz H3=>∃ k,z=.bl k /\
 (if k=true then tc σ H3 λw' H4=>r' y w' H4 Q else Q (.bl false) H3)
theorem Cf2 {op op':CmpOp} {r r':R2} (ho:OpR X (compareOp op) r) (ho':OpR X (compareOp op') r') (ha:PE X a ta) (hb:PE X b tb) (hc:PE X c tc)
  (hm:lastMarks [op,op'] [b,c]=false:=by with_unfolding_all rfl):PE X (.Compare a [op,op'] [b,c] pos) (Ck3 r r' ta tb tc):=by
 intro pins s σ H Q I h
 refine Compare_chain (thn (ha pins s σ H _ I h) λv s1 ⟨x,H1,I1,r1,q1⟩=>chain_link (thn (hb pins s1 σ H1 _ I1 q1) λu s2 ⟨y,H2,I2,r2,q2⟩ =>
  thn (ho pins s2 σ H2 x y v u _ I2 r1 r2 q2) λd s3 ⟨z,H3,I3,r3,k,e,q3⟩=>?_)) hm
 subst e
 cases r3
 refine wpAny_truthy_bool ?_
 cases k with
 | false=>exact ite_ff ⟨.bl false,H3,I3,rfl,q3⟩
 | true=>exact ite_tt (chain_last (thn (hc pins s3 σ H3 _ I3 q3) λw' s4 ⟨z',H4,I4,r4,q4⟩=>ho' pins s4 σ H4 y z' u w' Q I4 r2 r4 q4))
theorem Bm3 {op op':CmpOp} {r r':R2} (ho:OpR X (compareOp op) r) (ho':OpR X (compareOp op') r') (ha:PE X a ta) (hb:PE X b tb) (hc:PE X c tc)
  (hm:lastMarks [op,op'] [b,c]=false:=by with_unfolding_all rfl):PT X (.Compare a [op,op'] [b,c] pos) (Cc2 (Ck3 r r' ta tb tc)):=by
 intro pins s σ H Q I h
 refine isTrue_chain (thn (ha pins s σ H _ I h) λv s1 ⟨x,H1,I1,r1,q1⟩=>test_link (thn (hb pins s1 σ H1 _ I1 q1) λu s2 ⟨y,H2,I2,r2,q2⟩ =>
  thn (ho pins s2 σ H2 x y v u _ I2 r1 r2 q2) λd s3 ⟨z,H3,I3,r3,k,e,q3⟩=>?_)) hm
 subst e
 cases r3
 refine wpAny_truthy_bool ?_
 cases k with
 | false =>
  obtain ⟨k',e',q'⟩:=q3
  cases e'
  exact ite_ff ⟨H3,I3,q'⟩
 | true =>
  refine ite_tt (test_last (thn (hc pins s3 σ H3 _ I3 q3) λw' s4 ⟨z',H4,I4,r4,q4⟩=>thn (ho' pins s4 σ H4 y z' u w' _ I4 r2 r4 q4) λd' s5 ⟨z2,H5,I5,r5,k2,e2,q5⟩=>?_))
  subst e2
  cases r5
  exact wpAny_truthy_bool ⟨H5,I5,q5⟩
theorem Bn1:(sizeLine:Nat)<2 ^ 63:=by rw [sizeLine_eq]; decide
theorem Bp0 {x:V} {us:List Value} (r:Vals [x] us):∃ u,us=[u]/\RelV x u:=by
 cases r with
 | cons r1 r2=>cases r2; exact ⟨_,rfl,r1⟩
theorem Db5 {x y:V} {us:List Value} (r:Vals [x,y] us):∃ u w',us=[u,w']/\RelV x u/\RelV y w':=by
 cases r with
 | cons r1 r2 =>
  cases r2 with
  | cons r3 r4=>cases r4; exact ⟨_,_,rfl,r1,r3⟩
theorem Ca9 (hc:X.calm=true):Aq4 X (.builtin "max") (λxs H Q=>∃ i j,xs=[.int i,.int j]/\Q (.int (if j > i then j else i)) H):=by
 intro pins s σ H xs us Q I r h
 obtain ⟨i,j,rfl,q⟩:=h
 obtain ⟨u,w',rfl,⟨t,rfl⟩,⟨t',rfl⟩⟩:=Db5 r
 refine max_two_ints (I.ok.hd hc) λh' tk k=>⟨_,H,I.kept k,?_,q⟩
 by_cases hj:j > i
 ·rw [if_pos hj,if_pos hj]; exact ⟨_,rfl⟩
 ·rw [if_neg hj,if_neg hj]; exact ⟨_,rfl⟩
theorem Cb1:Aq4 X (.type "int") (λxs H Q=>(∃ i,xs=[.int i]/\Q (.int i) H)\/∃ k,xs=[.bl k]/\Q (.int (if k then 1 else 0)) H):=by
 intro pins s σ H xs us Q I r h
 rcases h with ⟨i,rfl,q⟩ | ⟨k,rfl,q⟩
 ·obtain ⟨u,rfl,t,rfl⟩:=Bp0 r
  exact call_int_int ⟨.int i,H,I,⟨_,rfl⟩,q⟩
 ·obtain ⟨u,rfl,r1⟩:=Bp0 r
  cases r1
  exact call_int_bool ⟨.int (if k then 1 else 0),H,I.tok _,⟨_,rfl⟩,q⟩
end
end L2
namespace L2
open PySem PySem.Spec PyProof.Rows
structure ObjM (h:Heap) (x dx C:Addr) (mA:Str->Option Value):Prop where
 obj:h.get? x=some (PySem.W.instObj C dx)
 ns:h.Ns1 dx mA
 ne:dx≠x
theorem Bb9 {h:Heap} {dx:Addr} {mA:Str->Option Value} (n:h.Ns1 dx mA):∃ od,h.get? dx=some od/\∀ name,PySem.W.lookIn name od=some (mA name):=by
 obtain ⟨o,es,ep,ho,hd,hk,_,hm⟩:=n
 refine ⟨o,ho,λname=>?_⟩
 have e:=hm name
 unfold nsFind findBy at e
 rw [<- Array.find?_toList] at e
 unfold PySem.W.lookIn
 rw [hd]
 dsimp only
 split
 ·rename_i y q
  rw [q] at e
  exact congrArg some e
 ·rename_i q
  rw [q] at e
  have a:es.toList.any (·.refKey)=false:=by
   rw [List.any_eq_false]
   intro y hy
   obtain ⟨z,t,hkey⟩:=hk y (Array.mem_toList_iff.mp hy)
   simp [DictEntry.refKey,hkey]
  have a':¬ es.toList.any (·.refKey)=true:=by rw [a]; exact Bool.false_ne_true
  rw [if_neg a']
  exact congrArg some e
theorem ObjM.look {h:Heap} {x dx C:Addr} {mA:Str->Option Value} (I:ObjM h x dx C mA):∃ od,PySem.W.InstAt h x (PySem.W.instObj C dx) C (some od)/\∀ name,PySem.W.lookIn name od=some (mA name) :=
 let ⟨od,ho,hl⟩:=Bb9 I.ns
 ⟨od,⟨I.obj,rfl,rfl,ho⟩,hl⟩
section
variable {prog : Program} {w : World} {A : Around} {E : Value → Shared → Prop} {s : Shared} {K : PySem.W.Frag} {x dx C f : Addr} {mA : Str → Option Value} {name : Str} {v : Value}
theorem Ct6 {expr:Bool} {Q:Value->Shared->Prop} (X:K.In s.heap) (I:ObjM s.heap x dx C mA) (hg:PySem.W.plainGet K C name=true) (hh:PySem.W.hasDictIn K C=true)
  (ha:PySem.W.findIn K (.ref C) name=some none) (hv:mA name=some v) (hv':PySem.W.handedIn v=true) (h:Q v { s with toks:=s.toks+1 }) :
  wpAny (model prog w) A (getAttr (.ref x) name expr) Q E s:=by
 obtain ⟨od,J,hl⟩:=I.look
 exact PySem.W.get_value X J (PySem.W.plainGet_of hg).1 (PySem.W.findObj_own hh ha rfl (by rw [hl,hv])) hv' h
theorem Cj6 {pl:Sem Bool} {Q:Value×List Value->Shared->Prop} (X:K.In s.heap) (I:ObjM s.heap x dx C mA) (hg:PySem.W.plainGet K C name=true)
  (hf:PySem.W.findIn K (.ref C) name=some (some (.ref f))) (ht:PySem.W.isFn K (.ref f)=true) (hv:mA name=none) (h:Q (.ref f,[.ref x]) s) :
  wpAny (model prog w) A (getMethod (.ref x) name pl) Q E s:=by
 obtain ⟨od,J,hl⟩:=I.look
 exact PySem.W.method_fn X J (PySem.W.plainGet_of hg).1 (PySem.W.plainGet_of hg).2 hf (beq_iff_eq.mp ht) (by show (PySem.W.lookIn name od).map (·.isSome)=some false; rw [hl,hv]; rfl) h
theorem Cn4 {ns:List Str} {Q:Unit->Shared->Prop} (X:K.In s.heap) (I:ObjM s.heap x dx C mA)
  (hs:PySem.W.findIn K (.ref C) "__setattr__"=some (some (.builtin "object.__setattr__"))) (hp:PySem.W.plainOver K C=true) (ht:PySem.W.takerIn K C name=some none) (hh:PySem.W.hasDictIn K C=true)
  (hw:PySem.Within mA ns) (hsz:ns.length<=sizeLine)
  (h:∀ h',ObjM h' x dx C (λy=>if y=name then some v else mA y)->Heap.SameBut dx s.heap h'->Q () { s with heap:=h',toks:=s.toks+2 }) :
  wpAny (model prog w) A (setAttr (.ref x) name v) Q E s:=by
 obtain ⟨od,J,hl⟩:=I.look
 refine PySem.W.set_plain X J hs (PySem.W.osa_open (s:={ s with toks:=s.toks+1 }) (r:=none) X J hp ht λb=>?_)
 obtain ⟨cd,hc,hd'⟩:=PySem.W.any_some hh
 have hx:s.heap.get? x=some ⟨.ref C,some dx,.plain,#[]⟩:=I.obj
 refine wpAny_bind (wpAny_pure (wpAny_bind (wpAny_bind (wpAny_loadPart hx (wpAny_bind (PySem.W.Looks.here (s:={ s with toks:=s.toks+1 }) (PySem.W.looks_clsIn X hc) ?_))))))
 rw [hd']
 refine wpAny_pure (a:=some dx) (wpAny_bind (wpAny_pure (wpAny_bind ?_)))
 refine wpAny_nsSet1 (s:={ s with toks:=s.toks+1 }) I.ns λh' hn2 hs2=>?_
 obtain ⟨oD,esD,epD,hoD,hdD,hcD⟩:=hn2.count (PySem.Within.cons name v hw)
 refine wpAny_bind (wpAny_lookBehind hoD (by rw [hdD]; exact pastItsLine_dict (Nat.le_trans hcD (by rw [List.length_cons]; omega))) ?_)
 exact wpAny_pure (h _ ⟨(hs2.2 _ (Ne.symm I.ne)).trans I.obj,hn2,I.ne⟩ hs2)
theorem Ci6 {R:Result->Shared->Prop} {vs:List Value} {kw:List (Str×Value)} (X:K.In s.heap) (hm:PySem.W.makesIn K C=true)
  (hi:PySem.W.findIn K (.ref C) "__init__"=some (some (.ref f))) (hf:PySem.W.typeIn K (.ref f)=some (.type "function"))
  (h:codeAny (model prog w) (A.under (.builtin "type.__call__" ⟨.ref C::vs,kw⟩)) (.call (.ref f) ⟨.ref (s.heap.objs.size+1)::vs,kw⟩) (PySem.W.InitBack (s.heap.objs.size+1) R)
   { s with heap:=(s.heap.push PySem.W.emptyDict).push (PySem.W.instObj C s.heap.objs.size) }) :
  codeAny (model prog w) A (.call (.ref C) ⟨vs,kw⟩) R s:=by
 obtain ⟨hh,g,d,t,os⟩:=s
 exact PySem.W.make_core (PySem.W.makes_of X hm) (PySem.W.looks_findIn X hi) (λself=>PySem.W.bind_fn X self hf) (.inl rfl) h
end
def putF (f:Str) (v:V):List (Str×V)->List (Str×V)
 | []=>[(f,v)]
 | (g,x)::r=>if g=f then (g,v)::r else (g,x)::putF f v r
theorem Ab7 (f g:Str) (v:V):∀ fs:List (Str×V),(putF f v fs).lookup g=if g=f then some v else fs.lookup g
 | []=>by
  show List.lookup g [(f,v)]=_
  by_cases h:g=f
  ·have hb:(g == f)=true:=beq_iff_eq.mpr h
   simp only [List.lookup,hb,if_pos h]
  ·have hb:(g == f)=false:=beq_eq_false_iff_ne.mpr h
   simp only [List.lookup,hb,if_neg h]
 | (k,x)::r=>by
  have ih:=Ab7 f g v r
  rw [show putF f v ((k,x)::r)=(if k=f then (k,v)::r else (k,x)::putF f v r) from rfl]
  by_cases hk:k=f
  ·rw [if_pos hk]
   by_cases h:g=k
   ·have hb:(g == k)=true:=beq_iff_eq.mpr h
    simp only [List.lookup,hb,if_pos (h.trans hk)]
   ·have hb:(g == k)=false:=beq_eq_false_iff_ne.mpr h
    simp only [List.lookup,hb,if_neg (λe:g=f=>h (e.trans hk.symm))]
  ·rw [if_neg hk]
   by_cases h:g=k
   ·have hb:(g == k)=true:=beq_iff_eq.mpr h
    simp only [List.lookup,hb,if_neg (λe:g=f=>hk (h.symm.trans e))]
   ·have hb:(g == k)=false:=beq_eq_false_iff_ne.mpr h
    simp only [List.lookup,hb]
    exact ih
theorem Am1 (f:Str) (v:V):∀ fs:List (Str×V),f ∈ (putF f v fs).map (·.1)/\∀ g,g ∈ fs.map (·.1)->g ∈ (putF f v fs).map (·.1)
 | []=>⟨by simp [putF],λg h=>by simp at h⟩
 | (k,x)::r=>by
  obtain ⟨i1,i2⟩:=Am1 f v r
  rw [show putF f v ((k,x)::r)=(if k=f then (k,v)::r else (k,x)::putF f v r) from rfl]
  by_cases hk:k=f
  ·rw [if_pos hk]
   subst hk
   exact ⟨by simp,λg h=>by simpa using h⟩
  ·rw [if_neg hk]
   refine ⟨?_,λg h=>?_⟩
   ·rw [List.map_cons]
    exact List.mem_cons_of_mem _ i1
   ·rw [List.map_cons] at h ⊢
    rcases List.mem_cons.mp h with e | e
    ·exact List.mem_cons.mpr (.inl e)
    ·exact List.mem_cons_of_mem _ (i2 g e)
theorem Af2 (f:Str) (v:V):∀ fs:List (Str×V),(putF f v fs).length<=fs.length+1
 | []=>by simp [putF]
 | (k,x)::r=>by
  have ih:=Af2 f v r
  rw [show putF f v ((k,x)::r)=(if k=f then (k,v)::r else (k,x)::putF f v r) from rfl]
  by_cases hk:k=f
  ·rw [if_pos hk,List.length_cons,List.length_cons]; omega
  ·rw [if_neg hk,List.length_cons,List.length_cons]; omega
theorem RelO.some_of {v:V} {o:Option Value} (r:RelO (some v) o):∃ u,o=some u/\RelV v u:=by
 cases o with
 | none=>exact (show False from r).elim
 | some u=>exact ⟨u,rfl,r⟩
theorem RelO.none_of {o:Option Value} (r:RelO none o):o=none:=by
 cases o with
 | none=>rfl
 | some u=>exact (show False from r).elim
theorem Bc9 {v:V} {u:Value} (r:RelV v u):PySem.W.handedIn u=true:=by
 cases v with
 | non=>cases (show u=Value.none from r); rfl
 | bl b=>cases (show u=Value.bool b from r); rfl
 | int i=>obtain ⟨t,e⟩:=(show ∃ t,u=Value.int i t from r); cases e; rfl
 | str x=>obtain ⟨t,e⟩:=(show ∃ t,u=Value.str x t from r); cases e; rfl
 | byt b=>obtain ⟨t,e⟩:=(show ∃ t,u=Value.bytes b t from r); cases e; rfl
 | flt b=>obtain ⟨t,e⟩:=(show ∃ t,u=Value.float b t from r); cases e; rfl
 | ref a=>cases (show u=Value.ref a from r); rfl
 | ty n=>cases (show u=Value.type n from r); rfl
section
variable {P : Program} {w : World} {H H' : Hp} {h h' : Heap} {a C dx : Addr} {fs fs' : List (Str × V)}
theorem Az3 (hok:HOk P w H h) (e:H a=some (.ins C dx fs)):∃ mA,ObjM h a dx C mA/\(∀ f,RelO (fs.lookup f) (mA f))/\PySem.Within mA (fs.map (·.1))/\fs.length<=1000/\H dx=some (.own a):=by
 obtain ⟨d,z,ne,ob,mA,n,r,q⟩:=(show ObjOk P w H h a (.ins C dx fs) from hok a _ e)
 exact ⟨mA,⟨ob,n,ne⟩,r,q,z,d⟩
end
structure Cls (K:PySem.W.Frag) (C:Addr):Prop where
 pg:PySem.W.plainGet K C Str.empty=true
 hd:PySem.W.hasDictIn K C=true
 po:PySem.W.plainOver K C=true
 sa:PySem.W.findIn K (.ref C) "__setattr__"=some (some (.builtin "object.__setattr__"))
theorem Cls.get {K:PySem.W.Frag} {C:Addr} (c:Cls K C) (f:Str):PySem.W.plainGet K C f=true:=c.pg
def NoAttr (K:PySem.W.Frag) (C:Addr) (f:Str):Prop:=PySem.W.findIn K (.ref C) f=some none
theorem NoAttr.taker {K:PySem.W.Frag} {C:Addr} {f:Str} (n:NoAttr K C f):PySem.W.takerIn K C f=some none:=by
 unfold PySem.W.takerIn
 rw [show PySem.W.findIn K (.ref C) f=some none from n]
 rfl
structure Con (K:PySem.W.Frag) (C:Addr) (f:Str) (v:V) (u:Value):Prop where
 at_:PySem.W.findIn K (.ref C) f=some (some u)
 rel:RelV v u
 get:PySem.W.specialIn K u "__get__"=some none
 cp:PySem.W.copiedNames.contains f=false
structure Meth (K:PySem.W.Frag) (C:Addr) (m:Str) (f:Addr):Prop where
 at_:PySem.W.findIn K (.ref C) m=some (some (.ref f))
 fn:PySem.W.isFn K (.ref f)=true
 kp:PySem.W.keepIn K (.ref f)=true
section
variable {X : Cx} {pins : List (Addr × Obj)} {σ : St} {H : Hp} {s : Shared} {a C dx : Addr} {fs : List (Str × V)} {f : Str} {v : V} {A : Around} {E : Value → Shared → Prop}
theorem Br4 {b:Bool} {Q:Value->Shared->Prop} (I:Inv X pins σ H s) (e:H a=some (.ins C dx fs)) (c:Cls X.K C) (n:NoAttr X.K C f) (l:fs.lookup f=some v)
  (h:∀ u s',Inv X pins σ H s'->RelV v u->Q u s'):wpAny (model X.prog X.w) A (getAttr (.ref a) f b) Q E s:=by
 obtain ⟨mA,O,r,_,_,_⟩:=Az3 I.hok e
 obtain ⟨u,hu,ru⟩:=RelO.some_of (v:=v) (o:=mA f) (by rw [<- l]; exact r f)
 exact Ct6 I.kIn O (c.get f) c.hd n hu (Bc9 ru) (h u _ (I.tok _) ru)
theorem Aq2 {m:Str} {g:Addr} {pl:Sem Bool} {Q:Value×List Value->Shared->Prop} (I:Inv X pins σ H s) (e:H a=some (.ins C dx fs)) (c:Cls X.K C) (k:Meth X.K C m g) (l:fs.lookup m=none)
  (h:Q (.ref g,[.ref a]) s):wpAny (model X.prog X.w) A (getMethod (.ref a) m pl) Q E s:=by
 obtain ⟨mA,O,r,_,_,_⟩:=Az3 I.hok e
 have hn:mA m=none:=RelO.none_of (by rw [<- l]; exact r m)
 exact Cj6 I.kIn O (c.get m) k.at_ k.fn hn h
theorem Bp7 {y:V} {u:Value} {Q:Unit->Shared->Prop} (I:Inv X pins σ H s) (e:H a=some (.ins C dx fs)) (c:Cls X.K C) (n:NoAttr X.K C f) (hl:fs.length<1000) (ry:RelV y u)
  (h:∀ s',Inv X pins σ (upd H a (.ins C dx (putF f y fs))) s'->Q () s'):wpAny (model X.prog X.w) A (setAttr (.ref a) f u) Q E s:=by
 obtain ⟨mA,O,r,wi,_,ho⟩:=Az3 I.hok e
 have hz:(fs.map (·.1)).length<=sizeLine:=by rw [List.length_map,sizeLine_eq]; omega
 refine Cn4 I.kIn O c.sa c.po n.taker c.hd wi hz λh' O' sb=>h _ ?_
 have hd:∃ o,h'.get? dx=some o:=let ⟨o,_,_,e',_⟩:=O'.ns; ⟨o,e'⟩
 refine I.write (x:=a) (e:=dx) (by rw [e]; exact True.intro) (.inr ho) (λb q hb z=>(sb.2 b hb).trans z) hd ?_
 refine ⟨by rw [Aa7 O.ne]; exact ho,?_,O.ne,O'.obj,_,O'.ns,λg=>?_,λg hg=>?_⟩
 ·have:=Af2 f y fs; omega
 ·show RelO ((putF f y fs).lookup g) (if g=f then some u else mA g)
  rw [Ab7]
  by_cases q:g=f
  ·rw [if_pos q,if_pos q]; exact ry
  ·rw [if_neg q,if_neg q]; exact r g
 ·by_cases q:g=f
  ·rw [q]; exact (Am1 f y fs).1
  ·refine (Am1 f y fs).2 g (wi g λz=>hg ?_)
   show (if g=f then some u else mA g)=none
   rw [if_neg q]; exact z
theorem Inv.made (I:Inv X pins σ H s):Inv X pins σ (upd (upd H s.heap.objs.size (.own (s.heap.objs.size+1))) (s.heap.objs.size+1) (.ins C s.heap.objs.size []))
  { s with heap:=(s.heap.push PySem.W.emptyDict).push (PySem.W.instObj C s.heap.objs.size) }:=by
 have e1:(s.heap.push PySem.W.emptyDict).get? s.heap.objs.size=some PySem.W.emptyDict:=Heap.get?_push_size s.heap rfl
 have e2:((s.heap.push PySem.W.emptyDict).push (PySem.W.instObj C s.heap.objs.size)).get? (s.heap.objs.size+1)=some (PySem.W.instObj C s.heap.objs.size):=by
  have:=Heap.get?_push_size (s.heap.push PySem.W.emptyDict) (o:=PySem.W.instObj C s.heap.objs.size) rfl
  rwa [Heap.size_push] at this
 have e3:(s.heap.push PySem.W.emptyDict).Ns s.heap.objs.size (λ_=>none):=⟨PySem.W.emptyDict,#[],_,e1,rfl,(λe he=>absurd he (by simp)),λ_=>rfl⟩
 have I1:=I.laid (a:=s.heap.objs.size) (o:=.own (s.heap.objs.size+1)) (h':=s.heap.push PySem.W.emptyDict) (t':=s.toks) (λb u q=>Heap.get?_push_of_some _ q) (Nat.le_refl _) ⟨_,e1⟩
 refine I1.laid (a:=s.heap.objs.size+1) (o:=.ins C s.heap.objs.size []) (t':=s.toks) (λb u q=>Heap.get?_push_of_some _ q) (Nat.le_of_eq (Heap.size_push _ _)) ?_
 have ne:s.heap.objs.size≠s.heap.objs.size+1:=Nat.ne_of_lt (Nat.lt_succ_self _)
 refine ⟨by rw [Aa7 ne,upd_same],Nat.zero_le _,ne,e2,λ_=>none,(Heap.Ns1.of_empty e3).at λo q=>Heap.get?_push_of_some _ q,λ_=>True.intro,λy hy=>absurd rfl hy⟩
theorem Cb4 {prog:Program} {w:World} {env:Env} {e:Expr} {f:Str} {pos:Pos} {s:Shared} {Q:Value->Shared->Prop} (hb:attributeBase e f env (eval e env)=eval e env)
  (h:wpAny (model prog w) A (eval e env) (λo s₁=>wpAny (model prog w) A (getAttr o f true) Q E s₁) E s):wpAny (model prog w) A (eval (.Attribute e f pos) env) Q E s :=
 Attribute_any_ h (by rw [arm_eval_Attribute,hb])
end
def tFld (K:PySem.W.Frag) (ta:TE) (f:Str):TE:=λσ H Q=>ta σ H λx H1=>∃ a C dx fs v,x=.ref a/\H1 a=some (.ins C dx fs)/\Cls K C/\NoAttr K C f/\fs.lookup f=some v/\Q v H1
def sFld (K:PySem.W.Frag) (ta tv:TE) (f:Str):TS:=λD σ H=>tv σ H λy H1=>ta σ H1 λx H2=>∃ a C dx fs,x=.ref a/\H2 a=some (.ins C dx fs)/\Cls K C/\NoAttr K C f/\fs.length<1000 /\
 D.nx σ (upd H2 a (.ins C dx (putF f y fs)))
section
variable {X : Cx} {o e value : Expr} {f : Str} {pos pos' tpos : Pos} {ta tv : TE}
theorem Af0 (he:PE X e ta) (hb:attributeBase e f X.env (eval e X.env)=eval e X.env):PE X (.Attribute e f pos) (tFld X.K ta f):=by
 intro pins s σ H Q I h
 refine Cb4 hb (thn (he pins s σ H _ I h) λu s1 ⟨x,H1,I1,rx,a,C,dx,fs,v,ex,ea,c,n,l,q⟩=>?_)
 subst ex
 obtain rfl:u=Value.ref a:=rx
 exact Br4 I1 ea c n l λu' s2 I2 ru=>⟨v,H1,I2,ru,q⟩
theorem Ap0 (ha:PE X o ta) (hv:PE X value tv) (hs:swapsWith value (some (.Attribute o f pos')) pos.line X.env=pure false):PS X (.Assign [.Attribute o f pos'] value pos) (sFld X.K ta tv f):=by
 intro pins s σ H D I h
 refine plainObj_wpAny_Assign_Attribute (thn (hv pins s σ H _ I h) λu s1 ⟨y,H1,I1,ry,q⟩=>thn (ha pins s1 σ H1 _ I1 q) λov s2 ⟨x,H2,I2,rx,a,C,dx,fs,ex,ea,c,n,l,q2⟩=>?_) hs
 subst ex
 obtain rfl:ov=Value.ref a:=rx
 exact Bp7 I2 ea c n l ry λs3 I3=>⟨σ,_,I3,q2⟩
end
section
variable {X : Cx} {pins : List (Addr × Obj)} {σ : St} {H : Hp} {s : Shared} {A : Around} {E : Value → Shared → Prop} {Q : Value → Shared → Prop} {c : Value} {b : Bool}
inductive TyOf (K:PySem.W.Frag) (H:Hp):V->Value->Prop where
 | non:TyOf K H .non (.type "NoneType")
 | bl (x:Bool):TyOf K H (.bl x) (.type "bool")
 | int (i:Int):TyOf K H (.int i) (.type "int")
 | str (x:Str):TyOf K H (.str x) (.type "str")
 | flt (x:UInt64):TyOf K H (.flt x) (.type "float")
 | lst {a:Addr} {xs:List V} (e:H a=some (.lst xs)):TyOf K H (.ref a) (.type "list")
 | frz {a:Addr} {o:Obj} {xs:List V} (e:H a=some (.frz o (.lst xs))):TyOf K H (.ref a) (.type "list")
 | tup {a:Addr} {xs:List V} (e:H a=some (.tup xs)):TyOf K H (.ref a) (.type "tuple")
 | dK {a:Addr} {kvs:List (Key×V)} (e:H a=some (.dK kvs)):TyOf K H (.ref a) (.type "dict")
 | dT {a:Addr} {kvs:List (List Key×V)} (e:H a=some (.dT kvs)):TyOf K H (.ref a) (.type "dict")
 | ins {a C dx:Addr} {fs:List (Str×V)} (e:H a=some (.ins C dx fs)) (cl:Cls K C) (ha:PySem.W.findIn K (.ref C) "__class__"=some (some (.builtin "object.__class__")))
   (hn:PySem.W.specialIn K (.builtin "object.__class__") "__get__"=some (some (.builtin "getset_descriptor.__get__"))) (htk:PySem.W.takesIn K (.builtin "object.__class__")=some true)
   (hm:PySem.W.mroIn K C (.type "object")=some true):TyOf K H (.ref a) (.ref C)
theorem Ac6 {x:V} {u t:Value} (I:Inv X pins σ H s) (rx:RelV x u) (ty:TyOf X.K H x t) (e:PySem.W.kitOne X.K t c=some b) (h:∀ tk,Q (.bool b) { s with toks:=tk }) :
  wpAny (model X.prog X.w) A (call (.builtin "isinstance") [u,c]) Q E s:=by
 cases ty with
 | non=>cases (show u=Value.none from rx); exact PySem.W.kia_one PySem.W.kitx_none I.kIn True.intro e (λz=>nomatch z) h
 | bl y=>cases (show u=Value.bool y from rx); exact PySem.W.kia_one PySem.W.kitx_bool I.kIn True.intro e (λz=>nomatch z) h
 | int i=>obtain ⟨t,q⟩:=(show ∃ t,u=Value.int i t from rx); cases q; exact PySem.W.kia_one PySem.W.kitx_int I.kIn True.intro e (λz=>nomatch z) h
 | str y=>obtain ⟨t,q⟩:=(show ∃ t,u=Value.str y t from rx); cases q; exact PySem.W.kia_one PySem.W.kitx_str I.kIn True.intro e (λz=>nomatch z) h
 | flt y=>obtain ⟨t,q⟩:=(show ∃ t,u=Value.float y t from rx); cases q; exact PySem.W.kia_one PySem.W.kitx_float I.kIn True.intro e (λz=>nomatch z) h
 | @lst a xs ea =>
  cases (show u=Value.ref a from rx)
  obtain ⟨_,_,n,_,h1⟩:=(show ObjOk X.prog X.w H s.heap a (.lst xs) from I.hok a _ ea)
  exact PySem.W.kia_one PySem.W.kitx_list I.kIn ⟨_,h1,rfl⟩ e (λz=>nomatch z) h
 | @frz a ob xs ea =>
  cases (show u=Value.ref a from rx)
  obtain ⟨_,_,_,n,_,h1⟩:=(show ObjOk X.prog X.w H s.heap a (.frz ob (.lst xs)) from I.hok a _ ea)
  exact PySem.W.kia_one PySem.W.kitx_list I.kIn ⟨_,h1,rfl⟩ e (λz=>nomatch z) h
 | @tup a xs ea =>
  cases (show u=Value.ref a from rx)
  obtain ⟨_,_,_,p⟩:=(show ObjOk X.prog X.w H s.heap a (.tup xs) from I.hok a _ ea)
  obtain ⟨o,h1,h2,_⟩:=p
  exact PySem.W.kia_one PySem.W.kitx_tuple I.kIn ⟨o,h1,h2⟩ e (λz=>nomatch z) h
 | @dK a kvs ea =>
  cases (show u=Value.ref a from rx)
  obtain ⟨_,_,vs,_,p⟩:=(show ObjOk X.prog X.w H s.heap a (.dK kvs) from I.hok a _ ea)
  obtain ⟨o,es,ep,h1,h2,_⟩:=p
  exact PySem.W.kia_one PySem.W.kitx_dict I.kIn ⟨o,h1,h2.1⟩ e (λz=>nomatch z) h
 | @dT a kvs ea =>
  cases (show u=Value.ref a from rx)
  obtain ⟨_,_,xs,_,o,es,ep,h1,h2,_⟩:=(show ObjOk X.prog X.w H s.heap a (.dT kvs) from I.hok a _ ea)
  exact PySem.W.kia_one PySem.W.kitx_dict I.kIn ⟨o,h1,h2.1⟩ e (λz=>nomatch z) h
 | @ins a C dx fs ea cl ha hn htk hm =>
  cases (show u=Value.ref a from rx)
  obtain ⟨mA,O,_⟩:=Az3 I.hok ea
  obtain ⟨od,J,_⟩:=O.look
  exact PySem.W.kia_one (PySem.W.kitx_own (cl.get _) cl.hd ha hn htk hm) I.kIn J e (λz=>nomatch z) h
end
end L2
namespace L2
open PySem PySem.Spec PyProof.Rows
structure Room (k:Nat) (A:Around):Prop where
 hd:A.handled=none
 dp:A.depth+3 * k+5<recursionLimit
 un:A.units+16 * k+200<cLine
theorem Room.mono {j k:Nat} {A:Around} (r:Room k A) (h:j<=k):Room j A:=⟨r.hd,by have:=r.dp; omega,by have:=r.un; omega⟩
theorem Room.deeper {k:Nat} {A:Around} (r:Room (k+1) A) (env:Env):Room k (A.deeper env) :=
 ⟨r.hd,by have:=r.dp; show A.depth+1+3 * k+5<_; omega,by have:=r.un; show A.units+3+16 * k+200<_; omega⟩
theorem Bq8 {A:Around} {C:Addr} {us:List Value} {kw:List (Str×Value)}:(A.under (.builtin "type.__call__" ⟨.ref C::us,kw⟩)).depth=A.depth+1:=by
 first | rfl | simp [Around.under,Code.weight,Code.isCreation,Code.isGuard,Code.isCaller,Code.frames,Code.isFrame,guardIds]
theorem Bq7 {A:Around} {C:Addr} {us:List Value} {kw:List (Str×Value)}:(A.under (.builtin "type.__call__" ⟨.ref C::us,kw⟩)).units=A.units+1:=by
 first | rfl | simp [Around.under,Code.cUnits,Code.frames,Code.isFrame]
theorem Room.make {k:Nat} {A:Around} (r:Room (k+1) A) (C:Addr) (us:List Value) (kw:List (Str×Value)):Room k (A.under (.builtin "type.__call__" ⟨.ref C::us,kw⟩)) :=
 ⟨r.hd,by have:=r.dp; rw [Bq8]; omega,by have:=r.un; rw [Bq7]; omega⟩
theorem Room.depth {k:Nat} {A:Around} (r:Room k A):A.depth<recursionLimit:=by have:=r.dp; omega
theorem Room.units {k:Nat} {A:Around} (r:Room k A):A.units+64<cLine:=by have:=r.un; omega
def tNil:TA:=λ_ H Q=>Q [] H
def Ap6 (ta:TE) (tr:TA):TA:=λσ H Q=>ta σ H λx H1=>tr σ H1 λxs H2=>Q (x::xs) H2
section
variable {X : Cx} {e : Expr} {es : List Expr} {te : TE} {t : TA} {pos : Pos}
theorem Aa3:PA X [] tNil:=λ_ _ _ _ H Q I h=>Calls.spliced_nil ⟨[],H,I,.nil,h⟩
theorem Aa0 (ha:PE X e te) (hr:PA X es t) (hs:starEach (e::es) X.env=(false,eval e X.env)::starEach es X.env:=by rfl):PA X (e::es) (Ap6 te t):=by
 intro pos pins s σ H Q I h
 rw [hs]
 show wpAny _ _ (spliced ((false,eval e X.env)::backTo pos (starEach es X.env))) _ _ s
 refine Calls.spliced_cons (thn (ha pins s σ H _ I h) λu s1 ⟨x,H1,I1,r1,q1⟩=>?_)
 exact thn (hr pos pins s1 σ H1 _ I1 q1) λus s2 ⟨xs,H2,I2,r2,q2⟩=>⟨x::xs,H2,I2,.cons r1 r2,q2⟩
def tTup (t:TA):TE:=λσ H Q=>t σ H λxs H1=>xs.length<=sizeLine/\∀ p,H1 p=none->Q (.ref p) (upd H1 p (.tup xs))
def tLst (t:TA):TE:=λσ H Q=>t σ H λxs H1=>xs.length<=sizeLine/\∀ p,H1 p=none->Q (.ref p) (upd H1 p (.lst xs))
theorem Af5 {x1} (h:PA X es t):PE X (.Tuple es x1 pos) (tTup t):=by
 intro pins s σ H Q I hq
 refine wpAny_Tuple_spliced (thn (h pos pins s σ H _ I hq) λus s1 ⟨xs,H1,I1,r,z,q⟩=>⟨by rw [<- r.length]; exact z,?_⟩)
 have hf:H1 s1.heap.objs.size=none:=I1.hok.fresh (Nat.le_refl _)
 refine ⟨.ref s1.heap.objs.size,upd H1 s1.heap.objs.size (.tup xs),I1.laid (t':=s1.toks) (λb u e=>Heap.get?_push_of_some _ e) (Nat.le_refl _) ?_,rfl,q _ hf⟩
 exact ⟨z,us,r,⟨_,Heap.get?_push_size _ rfl,rfl,_,rfl⟩⟩
theorem Ag1 (h:PA X es t):PE X (.List es pos) (tLst t):=by
 intro pins s σ H Q I hq
 refine wpAny_List_spliced (thn (h pos pins s σ H _ I hq) λus s1 ⟨xs,H1,I1,r,z,q⟩=>⟨by rw [<- r.length]; exact z,?_⟩)
 have hf:H1 s1.heap.objs.size=none:=I1.hok.fresh (Nat.le_refl _)
 refine ⟨.ref s1.heap.objs.size,upd H1 s1.heap.objs.size (.lst xs),I1.laid (t':=s1.toks) (λb u e=>Heap.get?_push_of_some _ e) (Nat.le_refl _) ?_,rfl,q _ hf⟩
 exact ⟨z,us,0,r,Heap.get?_push_size _ rfl⟩
end
abbrev Sp:=List V->Hp->VK->XK->Prop
abbrev CXT:=List Env->Hp->Shared->XK->Value->Shared->Prop
structure Env0 (P:Program) (w:World) (K:PySem.W.Frag) (mg:Str->Option Value) (base:Heap) (A:Around) (outer:List Env) (s:Shared) (H:Hp):Prop where
 frames:A.frames=some outer
 mod:Mod K mg base
 bs:∀ b o,base.get? b=some o->s.heap.get? b=some o/\H b=none
 bsz:base.objs.size<=s.heap.objs.size
 funs:s.heap.FunFrames base outer
 frf:∀ b ∈ frs outer,H b=none
 hok:HOk P w H s.heap
 bare:AllBare s.gens
def CE (outer:List Env) (P:Program) (w:World) (H:Hp) (s:Shared) (Q:VK) (u:Value) (s':Shared):Prop :=
 ∃ v H',s'.os=s.os/\AllBare s'.gens/\Un (frs outer) [] H H' s.heap s'.heap/\HOk P w H' s'.heap/\RelV v u/\Q v H'
def CR (CX:CXT) (outer:List Env) (P:Program) (w:World) (H:Hp) (s:Shared) (Q:VK) (E:XK) (r:Result) (s':Shared):Prop :=
 match r with
 | .ok (.ret u)=>CE outer P w H s Q u s'
 | .ok _=>False
 | .error e=>CX outer H s E e s'
structure FnOk (P:Program) (w:World) (K:PySem.W.Frag) (mg:Str->Option Value) (base:Heap) (CX:CXT) (k:Nat) (f:Addr) (fd:FuncData) (ps:List Str) (sp:Sp):Prop where
 len:∀ vs H Q E,sp vs H Q E->vs.length=ps.length
 run:∀ (A:Around) (outer:List Env) (s:Shared) (H:Hp) (args:Args) (us:List Value) (vs:List V) (Q:VK) (E:XK),Room k A->Env0 P w K mg base A outer s H->BindsTo s fd args (ps.zip us)->Vals vs us->sp vs H Q E ->
  codeAny (model P w) A (.call (.ref f) args) (CR CX outer P w H s Q E) s
theorem Env0.make {P:Program} {w:World} {K:PySem.W.Frag} {mg:Str->Option Value} {base:Heap} {A:Around} {outer:List Env} {s:Shared} {H:Hp} (e:Env0 P w K mg base A outer s H) (C:Addr) (us:List Value) (kw:List (Str×Value)) :
  Env0 P w K mg base (A.under (.builtin "type.__call__" ⟨.ref C::us,kw⟩)) outer s H:=⟨by first | exact e.frames | (simpa [Around.under,Code.envs,Code.isFrame,pushEnvs] using e.frames),e.mod,e.bs,e.bsz,e.funs,e.frf,e.hok,e.bare⟩
section
variable {X : Cx} {pins : List (Addr × Obj)} {σ : St} {H : Hp} {s s' : Shared}
theorem Inv.env0 (I:Inv X pins σ H s):Env0 X.prog X.w X.K X.mg X.base X.A X.stack s H :=
 ⟨I.ok.frames,I.ok.mod,I.bs,Nat.le_trans I.ok.bsz I.sz,I.stack,I.stkFree,I.hok,I.bare⟩
theorem Inv.after {Q:VK} {u:Value} (I:Inv X pins σ H s) (h:CE X.stack X.prog X.w H s Q u s'):EP X pins σ Q u s':=by
 obtain ⟨v,H',os,bare,un,hok,r,q⟩:=h
 obtain ⟨hh,g,d,t,os'⟩:=s'
 obtain rfl:os'=s.os:=os
 exact ⟨v,H',I.call (h':=hh) (g':=g) (d':=d) (t':=t) (ch:=[]) un hok bare (λb z=>absurd z (by simp)),r,q⟩
end
def Cc3 (sp:Sp) (dvs:List V) (E:XK) (t:TA):TE:=λσ H Q=>t σ H λvs H1=>sp (vs++dvs) H1 Q E
def Bs4 (C:Addr) (m:Str) (sp:Sp) (dvs:List V) (E:XK) (ta:TE) (t:TA):TE:=λσ H Q=>ta σ H λx H1=>∃ a dx fs,x=.ref a/\H1 a=some (.ins C dx fs)/\fs.lookup m=none /\
 t σ H1 λvs H2=>sp (x::(vs++dvs)) H2 Q E
def Db9 (C:Addr) (sp:Sp) (dvs:List V) (E:XK) (t:TA):TE:=λσ H Q=>t σ H λvs H1=>∀ x dx,H1 x=none->H1 dx=none->dx≠x ->
 sp (.ref x::(vs++dvs)) (upd (upd H1 dx (.own x)) x (.ins C dx [])) (λv H2=>v=.non/\Q (.ref x) H2) E
def Binds (K:PySem.W.Frag) (fd:FuncData) (ps:List Str) (ds:List Value):Prop :=
 ∀ (s:Shared) (us:List Value),K.In s.heap->(us++ds).length=ps.length->BindsTo s fd ⟨us,[]⟩ (ps.zip (us++ds))
theorem Binds.all {K:PySem.W.Frag} {fd:FuncData} {ps:List Str} (h:∀ us:List Value,us.length=ps.length->bindArgs fd ⟨us,[]⟩=pure (ps.zip us)):Binds K fd ps []:=λs us _ hl=>by
 rw [List.append_nil] at hl ⊢
 exact .of_eq (h us hl)
def An1 (CX:CXT) (X:Cx) (E:XK):Prop:=∀ (pins:List (Addr×Obj)) (σ:St) (H:Hp) (s:Shared) (e:Value) (s':Shared),Inv X pins σ H s->CX X.stack H s E e s'->X.xe e s'
section
variable {X : Cx} {CX : CXT} {k : Nat} {f C : Addr} {fd : FuncData} {ps : List Str} {sp : Sp} {dvs : List V} {ds : List Value} {E : XK} {x m : Str} {p pos apos : Pos} {e o : Expr} {es : List Expr} {ta : TE} {t : TA}
theorem Bm1 {pins:List (Addr×Obj)} {σ:St} {H:Hp} {s:Shared} {Q:VK} {us:List Value} {vs:List V} (F:FnOk X.prog X.w X.K X.mg X.base CX k f fd ps sp) (hr:Room k X.A) (hb:Binds X.K fd ps ds) (hd:Vals dvs ds) (hx:An1 CX X E)
  (I:Inv X pins σ H s) (r:Vals vs us) (h:sp (vs++dvs) H Q E):wpAny (model X.prog X.w) X.A (call (.ref f) us) (EP X pins σ Q) X.xe s:=by
 have r2:Vals (vs++dvs) (us++ds):=r.append hd
 have hl:(us++ds).length=ps.length:=by rw [<- r2.length]; exact F.len _ _ _ _ h
 refine wpAny_call (codeAny_mono (F.run X.A X.stack s H ⟨us,[]⟩ (us++ds) (vs++dvs) Q E hr I.env0 (hb s us I.kIn hl) r2 h) λr s' hq=>?_)
 cases r with
 | error e=>exact hx pins σ H s e s' I hq
 | ok fl =>
  cases fl with
  | ret u=>exact I.after hq
  | next=>exact False.elim hq
  | brk=>exact False.elim hq
  | cont=>exact False.elim hq
theorem Ab3 (F:FnOk X.prog X.w X.K X.mg X.base CX k f fd ps sp) (hr:Room k X.A) (hg:Gl X x) (hm:X.mg x=some (.ref f)) (hk:PySem.W.keepIn X.K (.ref f)=true) (hb:Binds X.K fd ps ds) (hd:Vals dvs ds) (hx:An1 CX X E)
  (ha:PA X (e::es) t) (hdb:(x == ("__debug__":Str))=false:=by decide) (he:starEach (e::es) X.env=(false,eval e X.env)::starEach es X.env:=by rfl) (hpl:(backTo pos (starEach es X.env)).any (·.1)=false:=by rfl) :
  PE X (.Call (.Name x p) (e::es) [] pos) (Cc3 sp dvs E t):=by
 intro pins s σ H Q I h
 refine wpAny_Call_Name_kw (Am0 I hg hm ?_ hdb)
 refine PySem.W.callWith_K (h₀:=X.base) I.ok.mod.kin hk (thn (ha pos pins s σ H _ I h) λus s1 ⟨vs,H1,I1,r,q⟩=>⟨I1.kIn,?_⟩) he hpl
 exact Bm1 F hr hb hd hx I1 r q
theorem Ac4 {pl:Sem Bool} (he:PE X o ta) (c:Cls X.K C) (hm:Meth X.K C m f) (F:FnOk X.prog X.w X.K X.mg X.base CX k f fd ps sp) (hr:Room k X.A) (hb:Binds X.K fd ps ds) (hd:Vals dvs ds) (hx:An1 CX X E) (ha:PA X (e::es) t)
  (hst:starEach (e::es) X.env=(false,eval e X.env)::starEach es X.env:=by rfl) (hpl:(backTo pos (starEach es X.env)).any (·.1)=false:=by rfl)
  (ht:eval (.Call (.Attribute o m apos) (e::es) [] pos) X.env=(do
   let ov <- eval o X.env
   standAt apos.atName
   let (f,first) <- holding [ov] (getMethod ov m pl)
   callWith pos f first (backTo pos (starEach (e::es) X.env)) (backToKw pos (keywordEach [] X.env))):=by rfl) :
  PE X (.Call (.Attribute o m apos) (e::es) [] pos) (Bs4 C m sp dvs E ta t):=by
 intro pins s σ H Q I h
 refine PySem.W.methodCall_KW (pl:=pl) (thn (he pins s σ H _ I h) λu s1 ⟨x,H1,I1,rx,a,dx,fs,ex,ea,l,q⟩=>?_) ht
 subst ex
 obtain rfl:u=Value.ref a:=rx
 refine Aq2 I1 ea c hm l ?_
 refine PySem.W.callWith_K (first:=[.ref a]) (h₀:=X.base) I.ok.mod.kin hm.kp (thn (ha pos pins s1 σ H1 _ I1 q) λus s2 ⟨vs,H2,I2,r,q2⟩=>⟨I2.kIn,?_⟩) hst hpl
 exact Bm1 (us:=.ref a::us) (vs:=.ref a::vs) F hr hb hd hx I2 (.cons rfl r) q2
theorem Ag3 {pl:Sem Bool} (he:PE X o ta) (c:Cls X.K C) (hm:Meth X.K C m f) (F:FnOk X.prog X.w X.K X.mg X.base CX k f fd ps sp) (hr:Room k X.A) (hb:Binds X.K fd ps ds) (hd:Vals dvs ds) (hx:An1 CX X E)
  (ht:eval (.Call (.Attribute o m apos) [] [] pos) X.env=(do
   let ov <- eval o X.env
   standAt apos.atName
   let (f,first) <- holding [ov] (getMethod ov m pl)
   callWith pos f first (backTo pos (starEach [] X.env)) (backToKw pos (keywordEach [] X.env))):=by rfl) :
  PE X (.Call (.Attribute o m apos) [] [] pos) (Bs4 C m sp dvs E ta tNil):=by
 intro pins s σ H Q I h
 refine PySem.W.methodCall_KW (pl:=pl) (thn (he pins s σ H _ I h) λu s1 ⟨x,H1,I1,rx,a,dx,fs,ex,ea,l,q⟩=>?_) ht
 subst ex
 obtain rfl:u=Value.ref a:=rx
 refine Aq2 I1 ea c hm l ?_
 exact PySem.W.callWith_K0 (first:=[.ref a]) I1.kIn hm.kp (Bm1 (us:=[.ref a]) (vs:=[.ref a]) F hr hb hd hx I1 (.cons rfl .nil) q)
structure Mk (K:PySem.W.Frag) (C f:Addr):Prop where
 makes:PySem.W.makesIn K C=true
 init:PySem.W.findIn K (.ref C) "__init__"=some (some (.ref f))
 fn:PySem.W.isFn K (.ref f)=true
 kp:PySem.W.keepIn K (.ref C)=true
theorem Cd7 {pins:List (Addr×Obj)} {σ:St} {H:Hp} {s:Shared} {Q:VK} {us:List Value} {vs:List V} (M:Mk X.K C f) (F:FnOk X.prog X.w X.K X.mg X.base CX k f fd ps sp) (hr:Room (k+1) X.A) (hb:Binds X.K fd ps ds) (hd:Vals dvs ds)
  (hx:An1 CX X E) (I:Inv X pins σ H s) (r:Vals vs us)
  (h:∀ x dx,H x=none->H dx=none->dx≠x->sp (.ref x::(vs++dvs)) (upd (upd H dx (.own x)) x (.ins C dx [])) (λv H2=>v=.non/\Q (.ref x) H2) E) :
  wpAny (model X.prog X.w) X.A (call (.ref C) us) (EP X pins σ Q) X.xe s:=by
 have hq:=h (s.heap.objs.size+1) s.heap.objs.size (I.hok.fresh (Nat.le_succ _)) (I.hok.fresh (Nat.le_refl _)) (Nat.ne_of_lt (Nat.lt_succ_self _))
 have I2:=Inv.made (C:=C) I
 have r2:Vals (V.ref (s.heap.objs.size+1)::(vs++dvs)) (Value.ref (s.heap.objs.size+1)::(us++ds)):=.cons rfl (r.append hd)
 have hl:(Value.ref (s.heap.objs.size+1)::us++ds).length=ps.length:=by
  have e:=r2.length
  rw [F.len _ _ _ _ hq] at e
  exact e.symm
 refine wpAny_call (Ci6 (f:=f) I.kIn M.makes M.init (beq_iff_eq.mp M.fn) (codeAny_mono (F.run _ X.stack _ _ ⟨Value.ref (s.heap.objs.size+1)::us,[]⟩ (Value.ref (s.heap.objs.size+1)::(us++ds)) _ _ E (hr.make C us [])
  (I2.env0.make C us []) (hb _ (Value.ref (s.heap.objs.size+1)::us) I2.kIn hl) r2 hq) λr s' hq'=>?_))
 cases r with
 | error e=>exact hx pins σ _ _ e s' I2 hq'
 | ok fl =>
  cases fl with
  | ret u =>
   obtain ⟨v,H',I3,rv,ev,q3⟩:=I2.after hq'
   subst ev
   exact ⟨rv,⟨V.ref (s.heap.objs.size+1),H',I3,rfl,q3⟩⟩
  | next=>exact False.elim hq'
  | brk=>exact False.elim hq'
  | cont=>exact False.elim hq'
theorem Bi5 (M:Mk X.K C f) (F:FnOk X.prog X.w X.K X.mg X.base CX k f fd ps sp) (hr:Room (k+1) X.A) (hg:Gl X x) (hm:X.mg x=some (.ref C)) (hb:Binds X.K fd ps ds) (hd:Vals dvs ds) (hx:An1 CX X E)
  (ha:PA X (e::es) t) (hdb:(x == ("__debug__":Str))=false:=by decide) (he:starEach (e::es) X.env=(false,eval e X.env)::starEach es X.env:=by rfl) (hpl:(backTo pos (starEach es X.env)).any (·.1)=false:=by rfl) :
  PE X (.Call (.Name x p) (e::es) [] pos) (Db9 C sp dvs E t):=by
 intro pins s σ H Q I h
 refine wpAny_Call_Name_kw (Am0 I hg hm ?_ hdb)
 refine PySem.W.callWith_K (h₀:=X.base) I.ok.mod.kin M.kp (thn (ha pos pins s σ H _ I h) λus s1 ⟨vs,H1,I1,r,q⟩=>⟨I1.kIn,?_⟩) he hpl
 exact Cd7 M F hr hb hd hx I1 r q
end
section
variable {X : Cx} {CX : CXT} {k : Nat} {f C : Addr} {fd : FuncData} {ps ks : List Str} {sp : Sp} {E : XK} {x m : Str} {p pos apos kpos : Pos} {e o : Expr} {es : List Expr} {kws : List Keyword} {te ta : TE} {t tk : TA} {nm : Option Str}
structure Df6 (K:PySem.W.Frag) (fd:FuncData) (ps ks:List Str) (g:List Value->List Value->List Value) (gV:List V->List V->List V):Prop where
 to:∀ (s:Shared) (us ws:List Value),K.In s.heap->(g us ws).length=ps.length->BindsTo s fd ⟨us,ks.zip ws⟩ (ps.zip (g us ws))
 rel:∀ {vs:List V} {us:List Value} {zs:List V} {ws:List Value},Vals vs us->Vals zs ws->Vals (gV vs zs) (g us ws)
variable {g : List Value → List Value → List Value} {gV : List V → List V → List V}
end
structure Ab5 (N P:List Str) (sc:Scope):Prop where
 kind:sc.kind=.function
 co:sc.isCoroutine=false
 gen:sc.isGenerator=false
 nd:N.Nodup
 pre:N.take P.length=P
 par:∀ x ∈ P,sc.names.lookup x=some .local\/sc.names.lookup x=some .cell
 nofree:∀ y ∈ sc.names,y.2≠.free
theorem FSc {N P:List Str} {sc:Scope} (a:sc.kind=.function:=by rfl) (b:sc.isCoroutine=false:=by rfl) (c:sc.isGenerator=false:=by rfl) (d:N.Nodup:=by decide +kernel) (e:N.take P.length=P:=by rfl) (f:∀ x ∈ P,sc.names.lookup x=some .local\/sc.names.lookup x=some .cell:=by decide +kernel) (g:∀ y ∈ sc.names,y.2≠.free:=by decide +kernel):Ab5 N P sc:=⟨a,b,c,d,e,f,g⟩
theorem Bd7 {kindOf:Str->Option NameKind} {x:Str}:∀ {binds:List (Str×Value)} {m:Str->Option Value},(∀ v,(x,v) ∉ binds)->bindL kindOf binds m x=m x
 | [],_,_=>rfl
 | (n,v)::r,m,h=>by
  unfold bindL
  rw [Bd7 λw hw=>h w (List.mem_cons_of_mem _ hw)]
  split
  ·have:x≠n:=by rintro rfl; exact h v List.mem_cons_self
   simp [this]
  ·rfl
theorem Bd9 {kindOf:Str->Option NameKind} {x:Str}:∀ {binds:List (Str×Value)} {m:Str->Option Value},(∀ v,(x,v) ∉ binds)->bindC kindOf binds m x=m x
 | [],_,_=>rfl
 | (n,v)::r,m,h=>by
  unfold bindC
  rw [Bd9 λw hw=>h w (List.mem_cons_of_mem _ hw)]
  split
  ·rfl
  ·have:x≠n:=by rintro rfl; exact h v List.mem_cons_self
   simp [this]
theorem Bd8 {kindOf:Str->Option NameKind} {x:Str} {v:Value}:∀ {P:List Str} {vs:List Value} {i:Nat} {m:Str->Option Value},P.Nodup->P[i]?=some x->vs[i]?=some v->kindOf x=some .local ->
  bindL kindOf (P.zip vs) m x=some v
 | [],_,_,_,_,h,_,_=>by simp at h
 | _::_,[],_,_,_,_,h,_=>by simp at h
 | p::P,w::vs,0,m,nd,h1,h2,hk=>by
  simp at h1 h2; subst h1; subst h2
  show bindL kindOf ((p,w)::P.zip vs) m p=_
  unfold bindL
  rw [Bd7 λv hv=>(List.nodup_cons.mp nd).1 (List.of_mem_zip hv).1,if_pos hk]
  simp
 | p::P,w::vs,i+1,m,nd,h1,h2,hk=>by
  show bindL kindOf ((p,w)::P.zip vs) m x=_
  unfold bindL
  exact Bd8 (i:=i) (List.nodup_cons.mp nd).2 (by simpa using h1) (by simpa using h2) hk
theorem Be0 {kindOf:Str->Option NameKind} {x:Str} {v:Value}:∀ {P:List Str} {vs:List Value} {i:Nat} {m:Str->Option Value},P.Nodup->P[i]?=some x->vs[i]?=some v->kindOf x≠some .local ->
  bindC kindOf (P.zip vs) m x=some v
 | [],_,_,_,_,h,_,_=>by simp at h
 | _::_,[],_,_,_,_,h,_=>by simp at h
 | p::P,w::vs,0,m,nd,h1,h2,hk=>by
  simp at h1 h2; subst h1; subst h2
  show bindC kindOf ((p,w)::P.zip vs) m p=_
  unfold bindC
  rw [Bd9 λv hv=>(List.nodup_cons.mp nd).1 (List.of_mem_zip hv).1,if_neg hk]
  simp
 | p::P,w::vs,i+1,m,nd,h1,h2,hk=>by
  show bindC kindOf ((p,w)::P.zip vs) m x=_
  unfold bindC
  exact Be0 (i:=i) (List.nodup_cons.mp nd).2 (by simpa using h1) (by simpa using h2) hk
def Aw7 (N:List Str) (vs:List V):St:=vs.map some++List.replicate (N.length - vs.length) none
def cxOf (CX:CXT) (P:Program) (w:World) (K:PySem.W.Frag) (mg:Str->Option Value) (base:Heap) (N:List Str) (qual:Str) (scope:Scope) (f:Addr) (cd:Value) (A:Around) (outer:List Env) (s:Shared) (H:Hp) (E:XK):Cx where
 prog:=P
 w:=w
 K:=K
 mg:=mg
 base:=base
 A:=A.deeper (envOfC qual scope s.heap.objs.size f cd)
 N:=N
 s₀:=s
 H₀:=H
 env:=envOfC qual scope s.heap.objs.size f cd
 outer:=outer
 stack:=envOfC qual scope s.heap.objs.size f cd::outer
 ex:=[]
 calm:=true
 fn:=λ_=>true
 pn:=[]
 xe:=λe s'=>wpAny (model P w) (A.deeper (envOfC qual scope s.heap.objs.size f cd)) (leaving (envOfC qual scope s.heap.objs.size f cd) e) (λ_ s''=>CX outer H s E e s'') (λe' s''=>CX outer H s E e' s'') s'
theorem Bo7 {sc:Scope} {n:Nat} {x:Str} (h:sc.names.lookup x=some .cell):∃ c,(cellsFrom n sc.names []).lookup x=some c:=by
 have q:=PySem.W.cellsFrom_some sc.names n [] (.inl h)
 exact Option.isSome_iff_exists.mp q
theorem By7 {CX:CXT} {P:Program} {w:World} {K:PySem.W.Frag} {mg:Str->Option Value} {base:Heap} {N ps:List Str} {qual:Str} {scope:Scope} {f:Addr} {cd:Value} {A:Around} {outer:List Env} {s s1:Shared} {H:Hp} {E:XK} {us:List Value} {vs:List V}
  (S:Ab5 N ps scope) (hd:A.handled=none) (e0:Env0 P w K mg base A outer s H) (hl:vs.length=ps.length) (r:Vals vs us)
  (x:InCallC s s.heap.objs.size (bindL (envOfC qual scope s.heap.objs.size f cd).kindOf (ps.zip us) λ_=>none) (cellsFrom (s.heap.objs.size+1) scope.names []) (bindC (envOfC qual scope s.heap.objs.size f cd).kindOf (ps.zip us) λ_=>none) s1) :
  Inv (cxOf CX P w K mg base N qual scope f cd A outer s H E) [] (Aw7 N vs) H s1:=by
 have hpl:ps.length<=N.length:=by have:=congrArg List.length S.pre; rw [List.length_take] at this; omega
 obtain ⟨h1,tk,rfl,hk⟩:=x.done
 have noA:∀ b:Addr,b ∉ (cxOf CX P w K mg base N qual scope f cd A outer s H E).ex:=λb z=>absurd (show b ∈ ([]:List Addr) from z) (by simp)
 refine ⟨⟨e0.mod,S.kind,rfl,rfl,Nat.le_refl _,λy z c h1 h2=>?_,λy hy=>?_,λy c _ h=>?_,λ_=>hd,Around.frames_deeper e0.frames,.inr ⟨rfl,rfl⟩,λb z=>absurd z (noA b),e0.bs,e0.bsz,λb _ _=>noA b,λb z=>absurd z (noA b),e0.funs,e0.frf⟩,
  rfl,e0.bare,Un.kept hk,⟨_,x.toInCall.ns,λi y v h1 h2 h3=>?_⟩,λy c h=>⟨_,x.cell y c h⟩,e0.hok.fresh (Nat.le_refl _),λy c h=>?_,λp hp=>absurd (show p ∈ ([]:List (Addr×Obj)) from hp) (by simp),e0.hok.kept hk,?_⟩
 ·exact name_of_addr x.apart (PySem.mem_of_lookup h1) (PySem.mem_of_lookup h2)
 ·have hy:scope.names.lookup y=some .cell\/scope.names.lookup y=some .free:=hy
  rcases hy with hy | hy
  ·exact Bo7 hy
  ·exact absurd rfl (S.nofree _ (PySem.mem_of_lookup hy))
 ·exact Nat.le_of_lt (x.above y c (PySem.mem_of_lookup h))
 ·have hi:i<vs.length:=by
   unfold Aw7 at h2
   by_cases hi:i<vs.length
   ·exact hi
   ·rw [List.getElem?_append_right (by simpa using hi)] at h2
    rw [List.getElem?_replicate] at h2
    split at h2 <;> cases h2
  have ha:vs[i]?=some v:=by
   unfold Aw7 at h2
   rw [List.getElem?_append_left (by simpa using hi),List.getElem?_map] at h2
   cases e:vs[i]? with
   | none=>rw [e] at h2; cases h2
   | some a=>rw [e] at h2; cases h2; rfl
  obtain ⟨u,hu,rv⟩:=r.get ha
  have hp:ps[i]?=some y:=by
   rw [<- S.pre,List.getElem?_take_of_lt (by omega)]; exact h1
  have ndP:ps.Nodup:=by rw [<- S.pre]; exact S.nd.sublist (List.take_sublist _ _)
  refine ⟨u,rv,?_⟩
  rcases S.par y (List.mem_of_getElem? hp) with k | k
  ·exact .inl ⟨k,Bd8 ndP hp hu k⟩
  ·obtain ⟨c,e⟩:=Bo7 (n:=s.heap.objs.size+1) k
   refine .inr ⟨.inl k,c,e,?_⟩
   have q:=x.cell y c e
   rw [Be0 ndP hp hu (by show scope.names.lookup y≠_; rw [k]; decide)] at q
   exact q
 ·exact e0.hok.fresh (Nat.le_of_lt (x.above y c (PySem.mem_of_lookup h)))
 ·unfold Aw7
  show _=N.length
  rw [List.length_append,List.length_map,List.length_replicate]
  omega
theorem Da1 {CX:CXT} {P:Program} {w:World} {K:PySem.W.Frag} {mg:Str->Option Value} {base:Heap} {k:Nat} {f:Addr} {name qual:Str} {params:Arguments} {body:List Stmt} {scope:Scope} {dV kV doc pm cdv ct oc:Value} {an od:Option Addr}
  {osl:Array (Option Value)} {N ps:List Str} {sp:Sp} (lk:K.lookup f=some ⟨oc,od,.func (PySem.W.fnOf name qual params body scope dV kV doc pm an cdv ct),osl⟩) (hcd:PySem.W.codeIn K cdv qual=true) (S:Ab5 N ps scope)
  (len:∀ vs H Q E,sp vs H Q E->vs.length=ps.length)
  (hbody:∀ (A:Around) (outer:List Env) (s:Shared) (H:Hp) (vs:List V) (Q:VK) (E:XK),Room k (A.deeper (envOfC qual scope s.heap.objs.size f cdv))->sp vs H Q E ->
   ∃ t,PSs (cxOf CX P w K mg base N qual scope f cdv A outer s H E) body t/\t { nx:=λ_ H'=>Q .non H',rt:=Q } (Aw7 N vs) H) :
  FnOk P w K mg base CX (k+1) f (PySem.W.fnOf name qual params body scope dV kV doc pm an cdv ct) ps sp:=by
 refine ⟨len,λA outer s H args us vs Q E hr e0 hb r hsp=>?_⟩
 have hl:=len _ _ _ _ hsp
 have KX:K.In s.heap:=e0.mod.kin.keeps λb o e=>(e0.bs b o e).1
 have lim:s.heap.NoLimit:=e0.mod.nolimit.keeps λb o e=>(e0.bs b o e).1
 have hkind:∀ y ∈ ps.zip us,scope.names.lookup y.1=some .local\/(scope.names.lookup y.1=some .cell/\((cellsFrom (s.heap.objs.size+1) scope.names []).lookup y.1).isSome=true):=λ⟨n,v⟩ hy=>by
  rcases S.par n (List.of_mem_zip hy).1 with q | q
  ·exact .inl q
  ·exact .inr ⟨q,PySem.W.cellsFrom_some _ _ _ (.inl q)⟩
 refine codeAny_call_function hr.depth (KX _ _ lk) rfl S.co S.gen rfl (PySem.W.codeRec_of KX hcd) (hb _ _ _ _ ?_)
 refine wpAny_newFunctionEnv_cells S.kind hkind λenv he s1 x=>?_
 subst he
 refine ⟨lim.keeps x.toInCall.keep,codeAny_func ?_⟩
 obtain ⟨t,ht,hq⟩:=hbody A outer s H vs Q E (hr.deeper _) hsp
 have I:Inv (cxOf CX P w K mg base N qual scope f cdv A outer s H E) [] (Aw7 N vs) H s1:=By7 S hr.hd e0 hl r x
 refine wpAny_mono (ht [] s1 (Aw7 N vs) H _ I hq) (λfl s' hs=>?_) λe s' hs=>hs
 have fin:∀ {σ':St} {H':Hp} {v:V} {u:Value},Inv (cxOf CX P w K mg base N qual scope f cdv A outer s H E) [] σ' H' s'->RelV v u->Q v H'->CE outer P w H s Q u s' :=
  λ{σ' H' v u} J rv q=>⟨v,H',J.os,J.bare,J.base,J.hok,rv,q⟩
 cases fl with
 | ret u =>
  obtain ⟨v,σ',H',J,rv,q⟩:=hs
  exact fin J rv q
 | next =>
  obtain ⟨σ',H',J,q⟩:=hs
  exact fin (v:=V.non) (u:=Value.none) J rfl q
 | brk =>
  obtain ⟨_,_,_,q⟩:=hs
  exact False.elim q
 | cont =>
  obtain ⟨_,_,_,q⟩:=hs
  exact False.elim q
end L2
namespace L2
open PySem PySem.Spec PyProof.Rows
section
variable {X : Cx} {x : Str} {p pos : Pos} {e : Expr} {es : List Expr} {t : TA} {id T : String} {r : List V → Hp → VK → Prop}
def tCB (r:List V->Hp->VK->Prop) (t:TA):TE:=λσ H Q=>t σ H λvs H1=>r vs H1 Q
theorem Ac9 (hc:Aq4 X (.builtin id) r) (hg:Gl X x) (hm:X.mg x=none) (hv:bootBuiltins x=some (.builtin id)) (ha:PA X (e::es) t) (hn:x≠"__name__":=by decide) (hdb:(x == ("__debug__":Str))=false:=by decide)
  (he:starEach (e::es) X.env=(false,eval e X.env)::starEach es X.env:=by rfl) (hpl:(backTo pos (starEach es X.env)).any (·.1)=false:=by rfl):PE X (.Call (.Name x p) (e::es) [] pos) (tCB r t):=by
 intro pins s σ H Q I h
 refine wpAny_Call_Name_kw (Bn2 I hg hm hv ?_ hn hdb)
 exact PyProof.Rows.callWith_builtin1 (thn (ha pos pins s σ H _ I h) λus s1 ⟨vs,H1,I1,r1,q1⟩=>hc pins s1 σ H1 vs us Q I1 r1 q1) he hpl
theorem Ah5 (hc:Aq4 X (.type T) r) (hg:Gl X x) (hm:X.mg x=none) (hv:bootBuiltins x=some (.type T)) (ha:PA X (e::es) t) (hn:x≠"__name__":=by decide) (hdb:(x == ("__debug__":Str))=false:=by decide)
  (he:starEach (e::es) X.env=(false,eval e X.env)::starEach es X.env:=by rfl) (hpl:(backTo pos (starEach es X.env)).any (·.1)=false:=by rfl):PE X (.Call (.Name x p) (e::es) [] pos) (tCB r t):=by
 intro pins s σ H Q I h
 refine wpAny_Call_Name_kw (Bn2 I hg hm hv ?_ hn hdb)
 exact PyProof.Rows.callWith_type1 (thn (ha pos pins s σ H _ I h) λus s1 ⟨vs,H1,I1,r1,q1⟩=>hc pins s1 σ H1 vs us Q I1 r1 q1) he hpl
end
end L2
namespace HT
open PySem PyProof.Rows
section
open PySem.SeqAt
open PySem.AutoSeq1 (wpAny_loadPart')
open PySem.MeetsSeq PySem.MeetsSeq2 PySem.MeetsSeq3
end
section
variable {prog : Program} {w : World} {A : Around} {E : Value → Shared → Prop} {s : Shared}
def sIx (n d:Nat):Option Int->Nat
 | none=>d
 | some v=>if v<0 then (v+(n:Int)).toNat else min v.toNat n
theorem sIx_none (n d:Nat):sIx n d none=d:=rfl
theorem sIx_nat (n d k:Nat):sIx n d (some (k:Int))=min k n:=by
 show (if (k:Int)<0 then ((k:Int)+(n:Int)).toNat else min (k:Int).toNat n)=min k n
 rw [if_neg (by omega),Int.toNat_natCast]
end
end HT
namespace L2
open PySem PySem.Spec PyProof.Rows
abbrev TO:=St->Hp->(Option Int->Hp->Prop)->Prop
def PO (X:Cx) (e:Option Expr) (t:TO):Prop :=
 ∀ (pins:List (Addr×Obj)) (s:Shared) (σ:St) (H:Hp) (Q:Option Int->Hp->Prop),Inv X pins σ H s->t σ H Q ->
  wpAny (model X.prog X.w) X.A (evalPart e X.env) (λu s'=>∃ o H',Inv X pins σ H' s'/\IsPart u o/\Q o H') X.xe s
def Cm1:TO:=λ_ H Q=>Q none H
def Db7 (t:TE):TO:=λσ H Q=>t σ H λx H1=>∃ i,x=.int i/\Q (some i) H1
section
variable {X : Cx} {e : Expr} {te : TE} {lo hi : Option Expr} {tl th : TO} {pos p2 : Pos}
theorem Au1:PO X none Cm1:=by
 intro pins s σ H Q I h
 rw [evalPart_none]
 exact wpAny_pure ⟨none,H,I,.none,h⟩
theorem An6 (h:PE X e te):PO X (some e) (Db7 te):=by
 intro pins s σ H Q I hw
 rw [evalPart_some]
 refine thn (h pins s σ H _ I hw) λu s1 ⟨x,H1,I1,r1,q1⟩=>?_
 obtain ⟨i,rfl,q⟩:=q1
 obtain ⟨t,rfl⟩:=r1
 exact ⟨some i,H1,I1,.int i t,q⟩
def SlR (X:Cx) (r:V->Option Int->Option Int->Hp->VK->Prop):Prop :=
 ∀ (pins:List (Addr×Obj)) (s:Shared) (σ:St) (H:Hp) (x:V) (v vl vu:Value) (lo hi:Option Int) (sl:Addr) (Q:VK),Inv X pins σ H s->RelV x v->s.heap.IsSliceOf sl vl vu .none->IsPart vl lo->IsPart vu hi->r x lo hi H Q ->
  ∃ T id,typeLookup (.type T) "__getitem__"=pure (some (.builtin id))/\s.TypeIs v T/\wpAny (model X.prog X.w) X.A (getItem v (.ref sl)) (EP X pins σ Q) X.xe s
def tSl (r:V->Option Int->Option Int->Hp->VK->Prop) (te:TE) (tl th:TO):TE:=λσ H Q=>te σ H λx H1=>tl σ H1 λl H2=>th σ H2 λu H3=>r x l u H3 Q
theorem Am6 {r:V->Option Int->Option Int->Hp->VK->Prop} (hr:SlR X r) (he:PE X e te) (hl:PO X lo tl) (hu:PO X hi th):PE X (.Subscript e (.Slice lo hi none p2) pos) (tSl r te tl th):=by
 intro pins s σ H Q I h
 refine Subscript_ (thn (he pins s σ H _ I h) λv s1 ⟨x,H1,I1,r1,q1⟩=>?_)
 refine wpAny_Slice (thn (hl pins s1 σ H1 _ I1 q1) λvl s2 ⟨l,H2,I2,pl,q2⟩=>thn (hu pins s2 σ H2 _ I2 q2) λvu s3 ⟨u,H3,I3,pu,q3⟩=>?_)
 rw [evalPart_none]
 refine wpAny_pure ?_
 have I4:Inv X pins σ H3 { s3 with heap:=s3.heap.push { cls:=.type "slice",data:=.fields #[vl,vu,.none] } }:=I3.kept (t':=s3.toks) λb ob q=>Heap.get?_push_of_some _ q
 obtain ⟨T,id,hT,ht,hg⟩:=hr pins { s3 with heap:=s3.heap.push { cls:=.type "slice",data:=.fields #[vl,vu,.none] } } σ H3 x v vl vu l u s3.heap.objs.size Q I4 r1 (Heap.IsSliceOf.new ..) pl pu q3
 show wpAny (model X.prog X.w) X.A (subscriptTail e (.Slice lo hi none p2) v (.ref s3.heap.objs.size)) (EP X pins σ Q) X.xe { s3 with heap:=s3.heap.push { cls:=.type "slice",data:=.fields #[vl,vu,.none] } }
 exact tail_any (ops:=[.ref s3.heap.objs.size,v]) ht hT hg (by with_unfolding_all rfl)
def cutV (xs:List V) (lo hi:Option Int):List V:=(xs.drop (HT.sIx xs.length 0 lo)).take (HT.sIx xs.length xs.length hi - HT.sIx xs.length 0 lo)
theorem Bl1 (xs:List V) (lo hi:Option Int):(cutV xs lo hi).length<=xs.length:=by
 unfold cutV
 rw [List.length_take,List.length_drop]
 omega
end
end L2
namespace L2
open PySem PySem.Spec PyProof.Rows
def ixN (n:Nat) (i:Int):Option Nat:=if 0<=i then (if i<n then some i.toNat else none) else if -(n:Int)<=i then some (i+n).toNat else none
def atI {α:Type} (xs:List α) (i:Int):Option α:=(ixN xs.length i).bind λj=>xs[j]?
theorem By6 {n:Nat} {i:Int} {j:Nat} (h:ixN n i=some j):seqIndex? i n=some j/\j<n/\-(n:Int)<=i/\i<n:=by
 unfold ixN at h
 by_cases h0:0<=i
 ·rw [if_pos h0] at h
  by_cases h1:i<n
  ·rw [if_pos h1] at h
   have e:i.toNat=j:=Option.some.inj h
   exact ⟨by rw [seqIndex_of h0 h1,e],by omega,by omega,h1⟩
  ·rw [if_neg h1] at h; cases h
 ·rw [if_neg h0] at h
  by_cases h1:-(n:Int)<=i
  ·rw [if_pos h1] at h
   have e:(i+n).toNat=j:=Option.some.inj h
   exact ⟨by rw [seqIndex_neg (by omega) h1,e],by omega,h1,by omega⟩
  ·rw [if_neg h1] at h; cases h
theorem Cb6 {α:Type} {xs:List α} {i:Int} {v:α} (h:atI xs i=some v):∃ j,seqIndex? i xs.length=some j/\xs[j]?=some v/\j<xs.length/\-(xs.length:Int)<=i/\i<xs.length:=by
 unfold atI at h
 cases e:ixN xs.length i with
 | none=>rw [e] at h; cases h
 | some j =>
  rw [e] at h
  obtain ⟨h1,h2,h3,h4⟩:=By6 e
  exact ⟨j,h1,h,h2,h3,h4⟩
theorem Aj1 {α:Type} {xs:List α} {j:Nat} {v:α} (h:xs[j]?=some v):atI xs (j:Int)=some v:=by
 have hj:j<xs.length:=(List.getElem?_eq_some_iff.mp h).1
 have e:ixN xs.length (j:Int)=some j:=by
  unfold ixN
  rw [if_pos (by omega),if_pos (by omega)]; simp
 unfold atI; rw [e]; exact h
def Cb8 (b:Expr):Prop:=∀ o i,subscripted b false o i=operate [o,i] (getItem o i)
def IxR (X:Cx) (r:R2):Prop :=
 ∀ (value slice:Expr) (pins:List (Addr×Obj)) (s:Shared) (σ:St) (H:Hp) (x y:V) (v u:Value) (Q:VK),Inv X pins σ H s->RelV x v->RelV y u->r x y H Q ->
  subscripted slice false v u=operate [v,u] (getItem v u)->wpAny (model X.prog X.w) X.A (subscriptTail value slice v u) (EP X pins σ Q) X.xe s
def MtR (X:Cx) (id:String) (r:V->List V->Hp->VK->Prop):Prop :=
 ∀ (pins:List (Addr×Obj)) (s:Shared) (σ:St) (H:Hp) (x:V) (xs:List V) (v:Value) (us:List Value) (Q:VK),Inv X pins σ H s->RelV x v->Vals xs us->r x xs H Q ->
  wpAny (model X.prog X.w) X.A (call (.builtin id) (v::us)) (EP X pins σ Q) X.xe s
section
variable {X : Cx} {a b : Expr} {ta tb : TE} {pos : Pos}
theorem Ad3 {r:R2} (hr:IxR X r) (ha:PE X a ta) (hb:PE X b tb) (hs:Cb8 b):PE X (.Subscript a b pos) (tOp r ta tb):=by
 intro pins s σ H Q I h
 exact Subscript_ (binT ha hb I h λv u s2 x y H2 I2 rx ry q=>hr a b pins s2 σ H2 x y v u Q I2 rx ry q (hs _ _))
def rIxL (K:PySem.W.Frag):R2:=λx y H Q=>∃ p xs i v,x=.ref p/\y=.int i/\SqL K H p xs/\atI xs i=some v/\Q v H
def rIxT (K:PySem.W.Frag):R2:=λx y H Q=>∃ p xs i v,x=.ref p/\y=.int i/\SqT K H p xs/\atI xs i=some v/\Q v H
theorem Ae2:IxR X (rIxL X.K):=by
 intro value slice pins s σ H x y v u Q I rx ry h hs
 obtain ⟨p,xs,i,z,rfl,rfl,hq,he,q⟩:=h
 cases rx
 obtain ⟨t,rfl⟩:=ry
 obtain ⟨its,r,pl,hz⟩:=I.list hq
 obtain ⟨j,h1,h2,h3,h4,h5⟩:=Cb6 he
 obtain ⟨w,ew,rw'⟩:=r.get h2
 have hl:=r.length
 have hn:=Bn1
 have fin:EP X pins σ Q w s:=⟨z,H,I,rw',q⟩
 by_cases h0:0<=i
 ·have hj:i.toNat=j:=by
   rw [seqIndex_of h0 h5] at h1
   exact Option.some.inj h1
  exact item_listR pl.isList h0 (by omega) (by rw [hj]; simpa using ew) fin hs
 ·have hj:(i+(its.toArray.size:Int)).toNat=j:=by
   rw [seqIndex_neg (by omega) h4] at h1
   rw [List.size_toArray,<- hl]
   exact Option.some.inj h1
  exact subscriptTail_builtinR (x:=w) pl.isList.typeIs slot_list_getitem.lookup
   (wpAny_getItem_list_neg (Q:=λr s'=>r=w/\EP X pins σ Q r s') pl.isList (by omega) (by rw [List.size_toArray] <;> omega) (by omega) (by rw [hj]; simpa using ew) ⟨rfl,fin⟩) hs
theorem Ad4:IxR X (rIxT X.K):=by
 intro value slice pins s σ H x y v u Q I rx ry h hs
 obtain ⟨p,xs,i,z,rfl,rfl,hq,he,q⟩:=h
 cases rx
 obtain ⟨t,rfl⟩:=ry
 obtain ⟨its,r,pl,hz⟩:=I.tuple hq
 obtain ⟨j,h1,h2,h3,h4,h5⟩:=Cb6 he
 obtain ⟨w,ew,rw'⟩:=r.get h2
 have hl:=r.length
 have hn:=Bn1
 have fin:EP X pins σ Q w s:=⟨z,H,I,rw',q⟩
 exact subscriptTail_builtinR (x:=w) pl.typeIs slot_tuple_getitem.lookup
  (getItem_tuple (j:=j) (Q:=λr s'=>r=w/\EP X pins σ Q r s') pl (by omega) (by omega) (by rw [List.size_toArray,<- hl]; exact h1) (by simpa using ew) ⟨rfl,fin⟩) hs
theorem Bq6 (its:List Value) (n j:Nat) (u:Value):Obj.mapSeq (·.setIfInBounds j u) { cls:=.type "list",data:=.seq its.toArray n }={ cls:=.type "list",data:=.seq (its.set j u).toArray n }:=by
 simp [Obj.mapSeq]
theorem Inv.lst {pins:List (Addr×Obj)} {σ:St} {H:Hp} {s:Shared} {p:Addr} {xs:List V} (I:Inv X pins σ H s) (h:H p=some (.lst xs)) :
  ∃ (its:List Value) (n:Nat),Vals xs its/\s.heap.get? p=some { cls:=.type "list",data:=.seq its.toArray n }/\xs.length<=sizeLine:=by
 obtain ⟨z,its,n,r,e⟩:=I.hok p _ h
 exact ⟨its,n,r,e,z⟩
theorem Inv.lstUpd {pins:List (Addr×Obj)} {σ:St} {H:Hp} {s:Shared} {p:Addr} {xs ys:List V} {its its':List Value} {n n':Nat} {f:Obj->Obj} (I:Inv X pins σ H s) (h:H p=some (.lst xs))
  (ho:s.heap.get? p=some { cls:=.type "list",data:=.seq its.toArray n }) (hf:f { cls:=.type "list",data:=.seq its.toArray n }={ cls:=.type "list",data:=.seq its'.toArray n' }) (r:Vals ys its') (hz:ys.length<=sizeLine) (t:Nat) :
  Inv X pins σ (upd H p (.lst ys)) { s with heap:=s.heap.update p f,toks:=t }:=by
 have e:(s.heap.update p f).get? p=some { cls:=.type "list",data:=.seq its'.toArray n' }:=by
  rw [Heap.get?_update_self f ho (by rw [hf] <;> rfl),hf]
 refine I.write (x:=p) (e:=p) (by rw [h]; trivial) (.inl rfl) (λb u hb q=>(Heap.get?_update_other _ _ (Ne.symm hb)).trans q) ⟨_,e⟩ ?_
 exact ⟨hz,its',n',r,e⟩
def Dd3:V->V->V->Hp->(Hp->Prop)->Prop:=λo i v H Q=>∃ p xs k j,o=.ref p/\i=.int k/\H p=some (.lst xs)/\ixN xs.length k=some j/\Q (upd H p (.lst (xs.set j v)))
theorem Ai0:PSet X Dd3:=by
 intro pins s σ H o i v ov iv u Q I ro ri rv h
 obtain ⟨p,xs,k,j,rfl,rfl,hp,hj,q⟩:=h
 cases ro
 obtain ⟨t,rfl⟩:=ri
 obtain ⟨its,n,r,ho,hz⟩:=I.lst hp
 obtain ⟨h1,h2,h3,h4⟩:=By6 hj
 have hl:=r.length
 have hn:=Bn1
 have I':Inv X pins σ (upd H p (.lst (xs.set j v))) { s with heap:=s.heap.update p (Obj.mapSeq (·.setIfInBounds j u)) } :=
  I.lstUpd hp ho (Bq6 its n j u) (r.set rv j) (by rw [List.length_set]; exact hz) s.toks
 by_cases h0:0<=k
 ·have hk:k.toNat=j:=by
   rw [seqIndex_of h0 h4] at h1
   exact Option.some.inj h1
  exact PySem.W.ki_setAt ho h0 (by omega) (by rw [List.size_toArray,<- hl]; exact h4) (by rw [hk]; exact ⟨_,I',q⟩)
 ·have hk:(k+(its.toArray.size:Int)).toNat=j:=by
   rw [seqIndex_neg (by omega) h3] at h1
   rw [List.size_toArray,<- hl]
   exact Option.some.inj h1
  exact PySem.W.ki_setBack ho (by omega) (by rw [List.size_toArray,<- hl]; exact h3) (by omega) (by rw [hk]; exact ⟨_,I',q⟩)
theorem Ba3 (lo hi:Option Int) (n:Nat):(sliceBounds lo hi none n).1=((HT.sIx n 0 lo:Nat):Int)/\(sliceBounds lo hi none n).2.1=((HT.sIx n n hi:Nat):Int)/\(sliceBounds lo hi none n).2.2=1:=by
 refine ⟨?_,?_,rfl⟩
 ·cases lo with
  | none=>simp [sliceBounds,HT.sIx]
  | some i =>
   simp only [sliceBounds,HT.sIx,Option.getD_none,show (1:Int) > 0 by decide,if_true]
   by_cases h:i<0
   ·simp only [h,if_true] <;> omega
   ·simp only [h,if_false] <;> omega
 ·cases hi with
  | none=>simp [sliceBounds,HT.sIx]
  | some i =>
   simp only [sliceBounds,HT.sIx,Option.getD_none,show (1:Int) > 0 by decide,if_true]
   by_cases h:i<0
   ·simp only [h,if_true] <;> omega
   ·simp only [h,if_false] <;> omega
theorem Ax9 (its:List Value) (lo hi:Option Int):slicePick its.toArray lo hi none=((its.drop (HT.sIx its.length 0 lo)).take (HT.sIx its.length its.length hi - HT.sIx its.length 0 lo)).toArray:=by
 obtain ⟨h1,h2,h3⟩:=Ba3 lo hi its.toArray.size
 unfold slicePick
 rw [h1,h2,h3]
 simp only [sliceRange_one,pick_run,List.size_toArray] <;> rfl
def rSlL (K:PySem.W.Frag):V->Option Int->Option Int->Hp->VK->Prop:=λx lo hi H Q=>∃ a xs,x=.ref a/\SqL K H a xs/\∀ p,H p=none->Q (.ref p) (upd H p (.lst (cutV xs lo hi)))
theorem Ap8:SlR X (rSlL X.K):=by
 intro pins s σ H x v vl vu lo hi sl Q I rx hs pl pu h
 obtain ⟨a,xs,rfl,hx,q⟩:=h
 cases rx
 obtain ⟨its,r,ht,hz⟩:=I.list hx
 have hlen:=r.length
 refine ⟨"list",_,slot_list_getitem.lookup,ht.isList.typeIs,?_⟩
 refine wpAny_getItem_list_slice ht.isList hs pl pu .none (by simp) ?_ (by rw [List.size_toArray] <;> omega)
 rw [Ax9,<- hlen]
 refine ⟨.ref s.heap.objs.size,_,I.laid (t':=s.toks) (o:=.lst (cutV xs lo hi)) (λb ob q=>Heap.get?_push_of_some _ q) (Nat.le_refl _) ?_,rfl,q _ (I.hok.fresh (Nat.le_refl _))⟩
 exact ⟨Nat.le_trans (Bl1 xs lo hi) hz,_,0,(r.drop (HT.sIx xs.length 0 lo)).take (HT.sIx xs.length xs.length hi - HT.sIx xs.length 0 lo),Heap.get?_push_size _ rfl⟩
def Bd1:V->Bool
 | .non=>true
 | .bl _=>true
 | .int _=>true
 | .str _=>true
 | _=>false
def eqV:V->V->Bool
 | .non,.non=>true
 | .bl a,.bl b=>a == b
 | .bl a,.int b=>(if a then 1 else 0) == b
 | .int a,.bl b=>a == (if b then 1 else 0)
 | .int a,.int b=>a == b
 | .str a,.str b=>a == b
 | _,_=>false
theorem Da3 {A:Around} {s:Shared} {y x:V} {u v:Value} (ry:RelV y u) (rx:RelV x v) (fy:Bd1 y=true) (fx:Bd1 x=true):SeqAt.EqAt A s u v (eqV y x):=by
 cases y with
 | non =>
  cases ry
  cases x with
  | non=>cases rx; exact SeqAt.EqAt.same _
  | bl b=>cases rx; exact SeqAt.EqAt.none_bool b
  | int b=>obtain ⟨t,rfl⟩:=rx; exact SeqAt.EqAt.none_int b t
  | str b=>obtain ⟨t,rfl⟩:=rx; exact SeqAt.EqAt.none_str b t
  | _=>exact absurd (show false=true from fx) Bool.false_ne_true
 | bl a =>
  cases ry
  cases x with
  | non=>cases rx; exact SeqAt.EqAt.bool_none a
  | bl b=>cases rx; exact SeqAt.EqAt.bool_bool a b
  | int b=>obtain ⟨t,rfl⟩:=rx; exact SeqAt.EqAt.bool_int a b t
  | str b=>obtain ⟨t,rfl⟩:=rx; exact SeqAt.EqAt.bool_str a b t
  | _=>exact absurd (show false=true from fx) Bool.false_ne_true
 | int a =>
  obtain ⟨t',rfl⟩:=ry
  cases x with
  | non=>cases rx; exact SeqAt.EqAt.int_none a t'
  | bl b=>cases rx; exact SeqAt.EqAt.int_bool a t' b
  | int b=>obtain ⟨t,rfl⟩:=rx; exact SeqAt.EqAt.int_int a t' b t
  | str b=>obtain ⟨t,rfl⟩:=rx; exact SeqAt.EqAt.int_str a t' b t
  | _=>exact absurd (show false=true from fx) Bool.false_ne_true
 | str a =>
  obtain ⟨t',rfl⟩:=ry
  cases x with
  | non=>cases rx; exact SeqAt.EqAt.str_none a t'
  | bl b=>cases rx; exact SeqAt.EqAt.str_bool a t' b
  | int b=>obtain ⟨t,rfl⟩:=rx; exact SeqAt.EqAt.str_int a t' b t
  | str b=>obtain ⟨t,rfl⟩:=rx; exact SeqAt.EqAt.str_str a t' b t
  | _=>exact absurd (show false=true from fx) Bool.false_ne_true
 | _=>exact absurd (show false=true from fy) Bool.false_ne_true
def eqU (x:V) (u:Value):Bool:=match u with
 | .none=>eqV .non x
 | .bool b=>eqV (.bl b) x
 | .int i _=>eqV (.int i) x
 | .str z _=>eqV (.str z) x
 | _=>false
theorem Cl4 {x y:V} {u:Value} (r:RelV y u) (f:Bd1 y=true):eqU x u=eqV y x:=by
 cases y with
 | non=>cases r; rfl
 | bl b=>cases r; rfl
 | int i=>obtain ⟨t,rfl⟩:=r; rfl
 | str z=>obtain ⟨t,rfl⟩:=r; rfl
 | _=>exact absurd (show false=true from f) Bool.false_ne_true
theorem Bl3 {x:V}:∀ {xs:List V} {us:List Value},Vals xs us->xs.all Bd1=true->us.any (eqU x)=xs.any λy=>eqV y x
 | _,_,.nil,_=>rfl
 | y::xs,u::us,.cons r t,f=>by
  rw [List.all_cons,Bool.and_eq_true] at f
  rw [List.any_cons,List.any_cons,Cl4 r f.1,Bl3 t f.2]
theorem Az1 {A:Around} {s:Shared} {x:V} {v:Value} (rx:RelV x v) (fx:Bd1 x=true):∀ {xs:List V} {us:List Value},Vals xs us->xs.all Bd1=true->∀ u ∈ us,SeqAt.EqAt A s u v (eqU x u)
 | _,_,.nil,_=>λu hu=>by cases hu
 | y::xs,u::us,.cons r t,f=>λu' hu=>by
  rw [List.all_cons,Bool.and_eq_true] at f
  rcases List.mem_cons.mp hu with rfl | hu
  ·rw [Cl4 r f.1]; exact Da3 r rx f.1 fx
  ·exact Az1 rx fx t f.2 u' hu
def inV (x:V) (xs:List V):Bool:=xs.any λy=>eqV y x
def rIn (K:PySem.W.Frag) (neg:Bool):R2:=λx y H Q=>∃ p xs,y=.ref p/\(SqL K H p xs\/SqT K H p xs)/\Bd1 x=true/\xs.all Bd1=true/\Q (.bl (if neg then !inV x xs else inV x xs)) H
theorem Bw7:OpR X (compareOp .In) (rIn X.K false):=by
 intro pins s σ H x y v u Q I rx ry h
 obtain ⟨p,xs,rfl,hq,fx,fs,q⟩:=h
 cases ry
 rcases hq with hq | hq
 ·obtain ⟨its,r,pl,hz⟩:=I.list hq
  refine SeqAt.in_listAt (eqU x) pl.isList (λw hw=>Az1 rx fx r fs w (by simpa using hw)) ⟨.bl _,H,I,rfl,?_⟩
  rw [show its.toArray.any (eqU x)=its.any (eqU x) by simp,Bl3 r fs]
  exact q
 ·obtain ⟨its,r,pl,hz⟩:=I.tuple hq
  refine SeqAt.in_tupleAt (eqU x) pl (λw hw=>Az1 rx fx r fs w (by simpa using hw)) ⟨.bl _,H,I,rfl,?_⟩
  rw [show its.toArray.any (eqU x)=its.any (eqU x) by simp,Bl3 r fs]
  exact q
theorem Ad2:Aq4 X (.builtin "len") (λxs H Q=>∃ p ys,xs=[.ref p]/\(SqL X.K H p ys\/SqT X.K H p ys)/\Q (.int ys.length) H):=by
 intro pins s σ H xs us Q I r h
 obtain ⟨p,ys,rfl,hq,q⟩:=h
 obtain ⟨u,rfl,rx⟩:=Bp0 r
 cases rx
 have hn:=Bn1
 rcases hq with hq | hq
 ·obtain ⟨its,r',pl,hz⟩:=I.list hq
  have hlen:=r'.length
  exact Calls.call_len_list pl.isList (by simp only [List.size_toArray] <;> omega) ⟨.int ys.length,H,I.tok _,⟨s.toks+1,by rw [List.size_toArray,hlen]⟩,q⟩
 ·obtain ⟨its,r',pl,hz⟩:=I.tuple hq
  have hlen:=r'.length
  exact len_tuple pl (by simp only [List.size_toArray] <;> omega) ⟨.int ys.length,H,I.tok _,⟨s.toks+1,by rw [List.size_toArray,hlen]⟩,q⟩
theorem Ag6:Aq4 X (.type "list") (λxs H Q=>∃ p ys,xs=[.ref p]/\(SqL X.K H p ys\/SqT X.K H p ys)/\∀ l,H l=none->Q (.ref l) (upd H l (.lst ys))):=by
 intro pins s σ H xs us Q I r h
 obtain ⟨p,ys,rfl,hq,q⟩:=h
 obtain ⟨u,rfl,rx⟩:=Bp0 r
 cases rx
 have fin:∀ (its:List Value),Vals ys its->ys.length<=sizeLine->∀ (h':Heap) (c':Nat),(∀ b o',s.heap.get? b=some o'->h'.get? b=some o') ->
   h'.get? s.heap.objs.size=some { cls:=.type "list",dict:=none,data:=.seq its.toArray c',slots:=#[] }->EP X pins σ Q (.ref s.heap.objs.size) { s with heap:=h' }:=λits r' hz h' c' kp e =>
  ⟨.ref s.heap.objs.size,_,I.laid (t':=s.toks) kp (Nat.le_refl _) (show ObjOk X.prog X.w _ h' _ (.lst ys) from ⟨hz,its,c',r',e⟩),rfl,q _ (I.hok.fresh (Nat.le_refl _))⟩
 rcases hq with hq | hq
 ·obtain ⟨its,r',pl,hz⟩:=I.list hq
  have hlen:=r'.length
  obtain ⟨o,ho,hc,n,hd⟩:=pl.isList
  exact call_list_seq p (.inl rfl) ho hc hd (λh' c' kp e=>fin its r' hz h' c' kp e) (by simp only [List.size_toArray] <;> omega)
 ·obtain ⟨its,r',pl,hz⟩:=I.tuple hq
  have hlen:=r'.length
  obtain ⟨o,ho,hc,n,hd⟩:=pl
  exact call_list_seq p (.inr rfl) ho hc hd (λh' c' kp e=>fin its r' hz h' c' kp e) (by simp only [List.size_toArray] <;> omega)
def tyV (K:PySem.W.Frag) (T:String) (x:V) (H:Hp):Prop:=match x with
 | .str _=>T = "str"
 | .int _=>T = "int"
 | .ref p=>(T = "list"/\∃ xs,SqL K H p xs)\/(T = "tuple"/\∃ o,K.lookup p=some o/\o.cls=.type "tuple"/\o.dict=none) \/
   (T = "dict"/\((∃ kvs,H p=some (.dK kvs))\/∃ kvs,H p=some (.dT kvs)))\/(T = "set"/\∃ S n,H p=some (.set S n))
 | _=>False
theorem Ck1 {pins:List (Addr×Obj)} {σ:St} {H:Hp} {s:Shared} {T:String} {x:V} {v:Value} (I:Inv X pins σ H s) (r:RelV x v) (ty:tyV X.K T x H) :
  s.TypeIs v T/\∀ a,v=.ref a->∃ ob,s.heap.get? a=some ob/\ob.dict=none:=by
 cases x with
 | str z =>
  obtain ⟨t,rfl⟩:=r
  cases (show T = "str" from ty)
  exact ⟨typeIs_str s z t,λ_ e=>nomatch e⟩
 | int i =>
  obtain ⟨t,rfl⟩:=r
  cases (show T = "int" from ty)
  exact ⟨typeIs_int s i t,λ_ e=>nomatch e⟩
 | ref p =>
  cases r
  rcases ty with ⟨rfl,xs,hq⟩ | ⟨rfl,o,hk,hc,hd⟩ | ⟨rfl,hk⟩ | ⟨rfl,S,n,hk⟩
  ·obtain ⟨its,_,pl,_⟩:=I.list hq
   refine ⟨pl.isList.typeIs,λa e=>?_⟩
   cases e
   obtain ⟨o,n,e,c,hd,_⟩:=pl
   exact ⟨o,e,hd⟩
  ·refine ⟨⟨o,I.kIn p o hk,hc⟩,λa e=>?_⟩
   cases e
   exact ⟨o,I.kIn _ o hk,hd⟩
  ·have z:∃ o,s.heap.get? p=some o/\o.ExactDict:=by
    rcases hk with ⟨kvs,hk⟩ | ⟨kvs,hk⟩
    ·obtain ⟨_,_,_,_,o,_,_,e,ex,_⟩:=I.hok p _ hk
     exact ⟨o,e,ex⟩
    ·obtain ⟨_,_,_,_,o,_,_,e,ex,_⟩:=I.hok p _ hk
     exact ⟨o,e,ex⟩
   obtain ⟨o,e,ex⟩:=z
   refine ⟨⟨o,e,ex.1⟩,λa e2=>?_⟩
   cases e2
   exact ⟨o,e,ex.2.1⟩
  ·obtain ⟨o,_,_,_,e,ex,_⟩:=I.hok p _ hk
   refine ⟨⟨o,e,ex.1⟩,λa e2=>?_⟩
   cases e2
   exact ⟨o,e,ex.2.1⟩
 | _=>exact False.elim ty
def tBM0 (K:PySem.W.Frag) (T:String) (r:V->List V->Hp->VK->Prop) (to:TE):TE:=λσ H Q=>to σ H λx H1=>tyV K T x H1/\r x [] H1 Q
def tBM (K:PySem.W.Frag) (T:String) (r:V->List V->Hp->VK->Prop) (to:TE) (t:TA):TE:=λσ H Q=>to σ H λx H1=>tyV K T x H1/\t σ H1 λxs H2=>r x xs H2 Q
variable {o e : Expr} {es : List Expr} {to : TE} {t : TA} {name : Str} {apos cpos : Pos} {T id : String} {r : V → List V → Hp → VK → Prop}
theorem Cx3 (pa:PlainAttrs T) (slot:Slot T name id) (hty:typeOf (.builtin id)=pure (.type "method_descriptor")) (hm:MtR X id r) (ho:PE X o to)
  (hbase:attributeBase o name X.env (eval o X.env)=eval o X.env:=by rfl) (hline:(apos.endLine == cpos.line)=true:=by rfl):PE X (.Call (.Attribute o name apos) [] [] cpos) (tBM0 X.K T r to):=by
 intro pins s σ H Q I h
 refine wpAny_Call_method0_late hbase hline (thn (ho pins s σ H _ I h) λv s1 ⟨x,H1,I1,r1,ty,q1⟩=>?_)
 obtain ⟨h1,h2⟩:=Ck1 I1 r1 ty
 exact ⟨T,id,pa,slot,hty,h1,h2,Calls.callWith_builtin rfl (PySem.evalArgs_none (hm pins s1 σ H1 x [] v [] Q I1 r1 .nil q1))⟩
theorem Bb2 (pa:PlainAttrs T) (slot:Slot T name id) (hty:typeOf (.builtin id)=pure (.type "method_descriptor")) (hm:MtR X id r) (ho:PE X o to) (ha:PA X (e::es) t)
  (hbase:attributeBase o name X.env (eval o X.env)=eval o X.env:=by rfl)
  (hfew:((backTo cpos (starEach (e::es) X.env)).all (λx=>!x.1) && (backToKw cpos (keywordEach [] X.env)).all (λx=>x.1.isSome)
   && decide ((e::es).length+([]:List Keyword).length+(if ([]:List Keyword).isEmpty then 0 else 1)<30))=true:=by rfl)
  (hline:(apos.endLine == cpos.line)=true:=by rfl) (hs:starEach (e::es) X.env=(false,eval e X.env)::starEach es X.env:=by rfl) (hplain:(backTo cpos (starEach es X.env)).any (·.1)=false:=by rfl) :
  PE X (.Call (.Attribute o name apos) (e::es) [] cpos) (tBM X.K T r to t):=by
 intro pins s σ H Q I h
 refine wpAny_Call_method_late hbase hfew hline rfl (thn (ho pins s σ H _ I h) λv s1 ⟨x,H1,I1,r1,ty,q1⟩=>?_)
 obtain ⟨h1,h2⟩:=Ck1 I1 r1 ty
 refine ⟨T,id,pa,slot,hty,h1,h2,?_⟩
 have hA:=ha cpos pins s1 σ H1 _ I1 q1
 rw [hs] at hA ⊢
 refine Calls.callWith_builtin (by show (false || (backTo cpos (starEach es X.env)).any (·.1))=false; rw [hplain] <;> rfl) (Calls.evalArgs_plain ?_)
 exact thn hA λus s2 ⟨vs,H2,I2,r2,q2⟩=>hm pins s2 σ H2 x vs v us Q I2 r1 r2 q2
/- xs.append(e),list.index on a module's tuple .. are MtR facts of 06m -/
end
end L2
namespace L2
open PySem PySem.Spec PyProof.Rows
def MtM (X:Cx) (id:String) (r:V->List V->Hp->VK->Prop):Prop :=
 ∀ (pins:List (Addr×Obj)) (s:Shared) (σ:St) (H:Hp) (x:V) (xs:List V) (v:Value) (us:List Value) (Q:VK),Inv X pins σ H s->RelV x v->Vals xs us->r x xs H Q ->
  wpAny (model X.prog X.w) X.A (call (.builtin id) (v::us)) (EP X pins σ Q) X.xe s
theorem Vals.one:∀ {x:V} {us:List Value},Vals [x] us->∃ u,us=[u]/\RelV x u
 | _,_,.cons r .nil=>⟨_,rfl,r⟩
theorem Vals.two:∀ {x y:V} {us:List Value},Vals [x,y] us->∃ u v,us=[u,v]/\RelV x u/\RelV y v
 | _,_,_,.cons r (.cons q .nil)=>⟨_,_,rfl,r,q⟩
theorem Vals.eraseIdx:∀ {xs:List V} {us:List Value} (i:Nat),Vals xs us->Vals (xs.eraseIdx i) (us.eraseIdx i)
 | _,_,_,.nil=>.nil
 | _,_,0,.cons _ t=>t
 | _,_,i+1,.cons r t=>.cons r (Vals.eraseIdx i t)
theorem Vals.rep {xs:List V} {us:List Value} (h:Vals xs us):∀ k:Nat,Vals (List.replicate k xs).flatten (List.replicate k us).flatten
 | 0=>.nil
 | k+1=>by
  rw [List.replicate_succ,List.replicate_succ,List.flatten_cons,List.flatten_cons]
  exact Vals.append h (Vals.rep h k)
theorem Bc0 {α:Type}:∀ (l:List α) (i:Nat),(l.eraseIdx i).length<=l.length
 | [],_=>Nat.le_refl _
 | _::_,0=>Nat.le_succ _
 | _::r,i+1=>Nat.succ_le_succ (Bc0 r i)
theorem Bd0 (its:List Value):∀ (k:Nat) (acc:List Value),
  List.foldl (λx1 x2=>x1++x2) acc.toArray (List.replicate k its.toArray)=(acc++(List.replicate k its).flatten).toArray
 | 0,acc=>by simp
 | k+1,acc=>by
  have e:acc.toArray++its.toArray=(acc++its).toArray:=by simp
  have e2:(acc++its)++(List.replicate k its).flatten=acc++(List.replicate (k+1) its).flatten:=by
   rw [List.replicate_succ,List.flatten_cons,List.append_assoc]
  rw [<- e2,<- Bd0 its k (acc++its),<- e,List.replicate_succ,List.foldl_cons]
section
variable {X : Cx} {pins : List (Addr × Obj)} {σ : St} {H : Hp} {s : Shared} {l b : Addr} {xs ys zs : List V}
theorem Inv.lset {its its':List Value} {n:Nat} {f:Array Value->Array Value} {t':Nat} (I:Inv X pins σ H s) (hH:H l=some (.lst xs))
  (e:s.heap.get? l=some { cls:=.type "list",data:=.seq its.toArray n }) (hf:f its.toArray=its'.toArray) (hv:Vals ys its') (hz:ys.length<=sizeLine) :
  Inv X pins σ (upd H l (.lst ys)) { s with heap:=s.heap.update l (Obj.mapSeq f),toks:=t' }:=by
 have q:=PySem.IsL.update e f
 rw [hf] at q
 refine I.write (x:=l) (e:=l) (by rw [hH]; exact trivial) (.inl rfl) (λb' u hb hu=>(Heap.get?_update_other s.heap (Obj.mapSeq f) (Ne.symm hb)).trans hu) ⟨_,q⟩ ?_
 exact ⟨hz,its',_,hv,q⟩
theorem Inv.lnew {its:List Value} {t':Nat} (I:Inv X pins σ H s) (hv:Vals ys its) (hz:ys.length<=sizeLine) :
  Inv X pins σ (upd H s.heap.objs.size (.lst ys)) { s with heap:=s.heap.push { cls:=.type "list",data:=.seq its.toArray },toks:=t' } :=
 I.laid (λ_ _ q=>Heap.get?_push_of_some _ q) (Nat.le_refl _) ⟨hz,its,0,hv,Heap.get?_push_size _ rfl⟩
theorem Inv.fresh (I:Inv X pins σ H s):H s.heap.objs.size=none:=I.hok.fresh (Nat.le_refl _)
theorem Inv.lstM (I:Inv X pins σ H s) (hH:H l=some (.lst xs)):xs.length<=sizeLine/\∃ (its:List Value) (n:Nat),Vals xs its/\xs.length=its.length/\s.heap.get? l=some { cls:=.type "list",data:=.seq its.toArray n }:=by
 obtain ⟨z,its,n,r,e⟩:=I.hok l _ hH
 exact ⟨z,its,n,r,r.length,e⟩
theorem Ci2 {n:Nat} (h:n<=sizeLine):Builtin.List.listTooLong n=false:=by
 unfold Builtin.List.listTooLong
 exact decide_eq_false (by omega)
end
section
variable {X : Cx}
def Co8:V->List V->Hp->VK->Prop:=λx vs H Q=>∃ l xs y,x=.ref l/\vs=[y]/\H l=some (.lst xs)/\xs.length<sizeLine/\Q .non (upd H l (.lst (xs++[y])))
theorem Ah6:MtM X "list.append" Co8:=by
 intro pins s σ H x vs v us Q I rx rv h
 obtain ⟨l,xs,y,rfl,rfl,hH,hz,q⟩:=h
 cases rx
 obtain ⟨u,rfl,ru⟩:=rv.one
 obtain ⟨z,its,n,r,hl,e⟩:=I.lstM hH
 refine call_meets F.slot_list_append ⟨_,e,rfl⟩ F.entry_list_append (F.args_list_append_2 _ _) (PySem.list_append l its.toArray n u (by rw [List.size_toArray]; omega)) ⟨e,?_⟩
 refine ⟨.non,_,I.lset (its':=its++[u]) hH e (by simp) (r.append (.cons ru .nil)) ?_,rfl,q⟩
 rw [List.length_append,List.length_singleton]
 omega
def Cw4:V->List V->Hp->VK->Prop:=λx vs H Q=>∃ l xs i k y,x=.ref l/\vs=[.int i]/\H l=some (.lst xs)/\-(2 ^ 63)<=i/\i<2 ^ 63/\seqIndex? i xs.length=some k/\xs[k]?=some y/\Q y (upd H l (.lst (xs.eraseIdx k)))
theorem Bm9:MtM X "list.pop" Cw4:=by
 intro pins s σ H x vs v us Q I rx rv h
 obtain ⟨l,xs,i,k,y,rfl,rfl,hH,h1,h2,hk,hy,q⟩:=h
 cases rx
 obtain ⟨u,rfl,ru⟩:=rv.one
 obtain ⟨t,rfl⟩:=ru
 obtain ⟨z,its,n,r,hl,e⟩:=I.lstM hH
 obtain ⟨w,hw,rw'⟩:=r.get hy
 refine call_meets F.slot_list_pop ⟨_,e,rfl⟩ F.entry_list_pop (F.args_list_pop_2 _ _)
  (MeetsSeq.list_pop_at l its.toArray n i t k w (fitsIndex_both h1 h2) (by rw [List.size_toArray,<- hl]; exact hk) (by rw [<- Array.getElem?_toList]; exact hw) (by rw [List.size_toArray]; omega)) ⟨e,?_⟩
 refine ⟨y,_,I.lset (its':=its.eraseIdx k) hH e ?_ (r.eraseIdx k) ?_,rw',q⟩
 ·show its.toArray.eraseIdxIfInBounds k=(its.eraseIdx k).toArray
  rw [List.eraseIdxIfInBounds_toArray]
 ·have:=Bc0 xs k
  omega
def rCat:R2:=λx y H Q=>∃ l b xs zs,x=.ref l/\y=.ref b/\H l=some (.lst xs)/\H b=some (.lst zs)/\xs.length+zs.length<=sizeLine/\∀ p,H p=none->Q (.ref p) (upd H p (.lst (xs++zs)))
theorem Bm6:OpR X (binaryOp .Add) rCat:=by
 intro pins s σ H x y v u Q I rx ry h
 obtain ⟨l,b,xs,zs,rfl,rfl,hH,hB,hz,q⟩:=h
 cases rx
 cases ry
 obtain ⟨z,its,n,r,hl,e⟩:=I.lstM hH
 obtain ⟨z2,its2,n2,r2,hl2,e2⟩:=I.lstM hB
 refine PySem.P.add_list e e2 ?_ (by rw [List.size_toArray,List.size_toArray]; omega)
 have ea:its.toArray++its2.toArray=(its++its2).toArray:=by simp
 rw [ea]
 exact ⟨.ref _,_,I.lnew (t':=s.toks) (r.append r2) (by rw [List.length_append]; omega),rfl,q _ I.fresh⟩
def rRep:R2:=λx y H Q=>∃ l k xs,x=.ref l/\y=.int k/\H l=some (.lst xs)/\-(2 ^ 63)<=k/\k<2 ^ 63/\xs.length * k.toNat<=sizeLine /\
 ∀ p,H p=none->Q (.ref p) (upd H p (.lst (List.replicate k.toNat xs).flatten))
theorem Ct2 {α:Type} (xs:List α) (k:Nat):(List.replicate k xs).flatten.length=k * xs.length:=by
 induction k with
 | zero=>simp
 | succ k ih=>rw [List.replicate_succ,List.flatten_cons,List.length_append,ih,Nat.succ_mul,Nat.add_comm]
theorem Ck7:OpR X (binaryOp .Mult) rRep:=by
 intro pins s σ H x y v u Q I rx ry h
 obtain ⟨l,k,xs,rfl,rfl,hH,h1,h2,hz,q⟩:=h
 cases rx
 obtain ⟨t,rfl⟩:=ry
 obtain ⟨z,its,n,r,hl,e⟩:=I.lstM hH
 have hlen:its.toArray.size * k.toNat<=sizeLine:=by rw [List.size_toArray,<- hl]; exact hz
 have hcap:¬ its.toArray.size * k.toNat > (2 ^ 63 - 1) / 8:=by
  have:(sizeLine:Nat)<=(2 ^ 63 - 1) / 8:=by decide
  omega
 have hfit:¬ (!Builtin.List.listFitsIndex k)=true:=by
  rw [fitsIndex_both h1 h2]
  exact Bool.false_ne_true
 have hlong:¬ Builtin.List.listTooLong (its.toArray.size * k.toNat)=true:=by
  rw [Ci2 hlen]
  exact Bool.false_ne_true
 have hnew:List.foldl (λx1 x2=>x1++x2) #[] (List.replicate (if its.toArray.isEmpty=true then 0 else k.toNat) its.toArray)=(List.replicate k.toNat its).flatten.toArray:=by
  have f0:∀ m:Nat,List.foldl (λx1 x2=>x1++x2) #[] (List.replicate m its.toArray)=(List.replicate m its).flatten.toArray:=λm=>by
   have:=Bd0 its m []
   rw [List.nil_append] at this
   exact this
  rw [f0]
  cases its with
  | nil=>simp
  | cons a r'=>rw [if_neg (by simp)]
 refine wpAny_binaryOp_repeat_ref (T:="list") (U:="int") (by decide) ⟨_,e,rfl⟩ (λs'=>typeIs_int s' k t) noFill_list_mul F.fills_int_mul F.slot_int_rmul repeat_list F.slot_int_index.lookup
  (call_meets F.slot_int_rmul (typeIs_int s k t) F.entry_int_rmul (F.args_int_rmul_2 _ _) (int___rmul___int_list k t l its.toArray n)
   ⟨e,rfl,⟨_,e,rfl⟩,call_meets F.slot_list_mul ⟨_,e,rfl⟩ F.entry_list_mul (F.args_list_mul_2 _ _) (AutoListH.list___mul___list_int_3 l its.toArray n k t hfit hcap hlong) ⟨e,?_⟩⟩)
 rw [hnew]
 exact ⟨.ref _,_,I.lnew (t':=s.toks) (r.rep k.toNat) (by rw [Ct2,Nat.mul_comm]; exact hz),rfl,q _ I.fresh⟩
end
section
variable {prog : Program} {w : World} {A : Around} {E : Value → Shared → Prop} {s : Shared}
set_option maxRecDepth 100000 in
end
section
variable {X : Cx}
end
end L2
namespace Att
open PySem PySem.W PySem.Calls PyProof.Rows
theorem Au7 {P:Params} {h:Heap}:∀ (ns:List Int) (vs:List Value),WellAll P h vs (ns.map WData.int)->IntsAre vs ns:=by
 intro ns
 induction ns with
 | nil =>
  intro vs w
  rw [List.map_nil] at w
  cases w
  exact .nil
 | cons n ns ih =>
  intro vs w
  rw [List.map_cons] at w
  cases w with
  | cons a b =>
   cases a
   exact .cons _ _ (ih _ b)
theorem Bv3 {l:OpenLaw} {n:Nat} (hn:l.most=some n) {P:Params} {h:Heap} {args:List WData} {vals:List Value}
  (hpre:l.row.toRowW.claim.pre args=true) (hwl:WellAll P h vals args) :
  ∃ a vs ns,vals=[Value.ref a]/\args=[WData.list (ns.map WData.int)]/\h.get? a=some { cls:=.type "list",data:=.seq vs.toArray }/\IntsAre vs ns/\ns.length<=n:=by
 have hsh:WShape.hasAll [] args [.list .int]=true:=(pre_splitW hpre).1
 have hc:l.pre.holds [] { args:=args }=true:=(pre_splitW hpre).2
 obtain ⟨d,r,rfl,h1,h2⟩:=hasAllW_cons hsh
 obtain rfl:=hasAllW_nil h2
 obtain ⟨xs,rfl,h3⟩:=hasW_list h1
 obtain ⟨ns,rfl⟩:=items_int h3
 have hlen:ns.length<=n:=by
  unfold OpenLaw.pre at hc
  have h4:(WTm.not (.lt (.lit (.int (n:Int))) (.len (.arg 0)))).holds [] { args:=[.list (ns.map .int)] }=true:=by
   have h4:=(holds_andW hc).1
   rw [hn] at h4
   exact h4
  have h5:=condW_of h4 (w_not (w_lt w_lit (w_len_list (w_arg rfl))))
  rw [List.length_map] at h5
  refine Nat.le_of_not_lt λq=>?_
  have q':(n:Int)<((ns.length:Nat):Int):=by omega
  first
   | (rw [decide_eq_true q'] at h5; exact absurd h5 (by decide))
   | (simp at h5; omega)
 cases hwl with
 | cons w1 w2 =>
  cases w2
  cases w1 with
  | list ho hall=>exact ⟨_,_,ns,rfl,rfl,ho,Au7 ns _ hall,hlen⟩
theorem Bw2 (l:OpenLaw) (args:List WData):l.row.toRowW.claim.post args (.bool true) args=true :=
 postW_of (r:=l.row.toRowW) (X:=(true == true))
  (show WShape.has [] (.bool true) .bool=true by first | rfl | decide | simp [WShape.has,WShape.arms,WShape.armsAll])
  (show (WTm.eq .res (.lit (.bool true))).value [] { args:=args,res:=some (.bool true),after:=args }=some (.bool (true == true)) from w_eq_bool (w_res rfl) w_lit) rfl
theorem attach_call {l:OpenLaw} {n:Nat} {q:Program} {loose:List Str} {XP:(Str->Option Value)->Heap->Prop} {YP:World->Heap->Prop} {d:DefRec}
  (hn:l.most=some n) (hdf:d.params.defaults=[])
  (call:∀ (w:World) (s₀ s₁:Shared) (mg mb:Str->Option Value) (fa:Addr) (o:Obj) (pm cd doc:Value) (a:Addr) (vs:List Value) (ns:List Int),
   Ground q loose [] XP w s₀ mg mb s₁.heap->YP w s₁.heap ->
   s₁.heap.get? fa=some o->o.data=.func (docDef d.name d.params d.body d.scope pm cd doc)->s₁.heap.CodeRec cd d.name->mg d.name=some (.ref fa) ->
   s₁.heap.get? a=some { cls:=.type "list",data:=.seq vs.toArray }->IntsAre vs ns->ns.length<=n->s₁.gens=#[] ->
   codeAny (model l.prog w) callerA (.call (.ref fa) ⟨[.ref a],[]⟩) (λr s'=>r=.ok (.ret (.bool true))/\OldK s₁.heap s'.heap/\s'.os=s₁.os/\AllBare s'.gens) s₁) :
  WalkO q loose XP YP l.row.toRowW d [] (λf vs=>PySem.call f vs):=by
 intro w s₀ s₁ mg mb G Y fa o pm cd doc dV kV ho hd hcd hD hmg hg args vals as hpre hlay hrd hwl hlo
 obtain rfl:dV=.none:=Dflts.none hD hdf
 obtain rfl:kV=.none:=Dflts.noKw hD
 obtain ⟨a,vs,ns,rfl,rfl,hobj,hints,hlen⟩:=Bv3 hn hpre hwl
 refine enter_call (codeAny_mono (call w s₀ s₁ mg mb fa o pm cd doc a vs ns G Y ho (fd_plain hd) hcd hmg hobj hints hlen hg) λr s' hq=>?_)
 obtain ⟨rfl,h2,h3,h4⟩:=hq
 exact ⟨.inl ⟨.bool true,.bool true,[],rfl,λ_=>rfl,.bool true,Bw2 l _,λ_=>⟨List.Pairwise.nil,λ_ hm=>(nomatch hm)⟩⟩,h2,h3,h4⟩
section
variable {prog : Program} {w : World} {A : Around} {E : Value → Shared → Prop} {s : Shared} {K : Frag}
end
end Att
namespace L2
open PySem PySem.Spec PyProof.Rows
theorem Az6:∀ {vs:List Value} {ns:List Int},IntsAre vs ns->Vals (ns.map V.int) vs
 | _,_,.nil=>.nil
 | _,_,.cons n t h=>.cons ⟨t,rfl⟩ (Az6 h)
def Only (H:Hp):Prop:=∀ b,H b=none\/∃ o xs,H b=some (.frz o (.lst xs))
theorem Cj0 {P:Program} {w:World} {K:PySem.W.Frag} {mg mb:Str->Option Value} {CX:CXT} {k:Nat} {fa a:Addr} {fd:FuncData} {x:Str} {sp:Sp} {s₁:Shared} {vs:List Value} {ns:List Int}
  (KX:K.In s₁.heap) (hns:s₁.heap.Ns mainGlobals mg) (hb:s₁.heap.Ns builtinsNs mb) (hbb:∀ x:Str,x≠"__name__"->mb x=bootBuiltins x) (hlim:s₁.heap.NoLimit) (hg:s₁.gens=#[])
  (ha:s₁.heap.get? a=some { cls:=.type "list",data:=.seq vs.toArray }) (hi:IntsAre vs ns) (hl:ns.length<=sizeLine) (hr:Room k callerA)
  (F:∀ base:Heap,K.In base->base.Ns mainGlobals mg->FnOk P w K mg base CX k fa fd [x] sp) (hbind:∀ (s:Shared) (u:Value),BindsTo s fd ⟨[u],[]⟩ [(x,u)])
  (hsp:∀ H:Hp,Only H->SqL K H a (ns.map V.int)->sp [.ref a] H (λv _=>v=.bl true) λ_ _ _=>False)
  (hCX:∀ H e s',CX [] H s₁ (λ_ _ _=>False) e s'->False) :
  codeAny (model P w) callerA (.call (.ref fa) ⟨[.ref a],[]⟩) (λr s'=>r=.ok (.ret (.bool true))/\OldK s₁.heap s'.heap/\s'.os=s₁.os/\AllBare s'.gens) s₁:=by
 have rv:=Az6 hi
 have lenV:=hi.length
 have core:∀ H:Hp,Only H->SqL K H a (ns.map V.int)->HOk P w H s₁.heap->(∀ b,H b≠none->b=a)->(H a≠none->K.lookup a=none) ->
   codeAny (model P w) callerA (.call (.ref fa) ⟨[.ref a],[]⟩) (λr s'=>r=.ok (.ret (.bool true))/\OldK s₁.heap s'.heap/\s'.os=s₁.os/\AllBare s'.gens) s₁:=by
  intro H hO hS hok hA hK
  have base_of:∀ {b:Addr} {o:Obj},s₁.heap.get? b=some o->H b=none->(hidT s₁.heap H).get? b=some o:=λe n=>Cj5 e n
  have noA:∀ {b:Addr} {o:Obj} {es:Array DictEntry} {ep:Nat},s₁.heap.get? b=some o->o.data=.dict es ep->H b=none:=λ{b o es ep} e d=>by
   cases q:H b with
   | none=>rfl
   | some u =>
    have e':b=a:=hA b (by rw [q]; simp)
    subst e'
    rw [ha] at e; cases e
    have d':Data.seq vs.toArray _=Data.dict es ep:=d
    cases d'
  have nsK:∀ {b:Addr} {m:Str->Option Value},s₁.heap.Ns b m->(hidT s₁.heap H).Ns b m:=λ{b m} ⟨o,es,ep,e,d,r⟩=>⟨o,es,ep,base_of e (noA e d),d,r⟩
  have hKb:K.In (hidT s₁.heap H):=λb o e=>base_of (KX b o e) (by
   cases q:H b with
   | none=>rfl
   | some u =>
    have e':b=a:=hA b (by rw [q]; simp)
    subst e'
    rw [hK (by rw [q]; simp)] at e; cases e)
  have hM:Mod K mg (hidT s₁.heap H):=⟨hKb,nsK hns,⟨mb,nsK hb,hbb⟩,let ⟨mc,h1,h2⟩:=hlim; ⟨mc,nsK h1,h2⟩⟩
  have e0:Env0 P w K mg (hidT s₁.heap H) callerA [] s₁ H:=⟨rfl,hM,λb o e=>Cs8 e,Nat.le_of_eq (By9 _ _),trivial,λb hb=>absurd (show b ∈ ([]:List Addr) from hb) (by simp),hok,.of_eq hg⟩
  refine codeAny_mono ((F _ hKb (nsK hns)).run callerA [] s₁ H ⟨[.ref a],[]⟩ [.ref a] [.ref a] _ _ hr e0 (hbind s₁ (.ref a)) (.cons rfl .nil) (hsp H hO hS)) λr s' h=>?_
  cases r with
  | error e=>exact (hCX H e s' h).elim
  | ok fl =>
   cases fl with
   | next=>exact False.elim h
   | brk=>exact False.elim h
   | cont=>exact False.elim h
   | ret u =>
    obtain ⟨v,H',os,bare,un,hok',r',q⟩:=h
    have q':v=.bl true:=q
    subst q'
    obtain rfl:u=Value.bool true:=r'
    refine ⟨rfl,OldK.of_keep λb o e=>?_,os,bare⟩
    cases q:H b with
    | none=>exact un.keep b o e q (by intro z; exact absurd (show b ∈ ([]:List Addr) from z) (by simp)) (by simp)
    | some u =>
     rcases hO b with z | ⟨ob,xs,z⟩
     ·rw [q] at z; cases z
     ·have z2:=un.frzs b ob _ z
      obtain ⟨e1,_⟩:=hok b _ z
      obtain ⟨e2,_⟩:=hok' b _ z2
      rw [e] at e1; cases e1
      exact e2
 cases hk:K.lookup a with
 | some o =>
  have e:=KX a o hk
  rw [ha] at e
  cases e
  refine core (λ_=>none) (λ_=>.inl rfl) (.inr ⟨_,vs.toArray,_,hk,rfl,rfl,rfl,by rw [List.size_toArray,lenV]; exact hl,by simpa using rv⟩) (λb u z=>by have z':(none:Option HO)=some u:=z; cases z') (λb z=>absurd rfl z) λz=>absurd rfl z
 | none =>
  refine core (λb=>if b=a then some (.frz { cls:=.type "list",data:=.seq vs.toArray } (.lst (ns.map V.int))) else none) (λb=>?_) (.inl (.inr ⟨{ cls:=.type "list",data:=.seq vs.toArray },if_pos rfl⟩)) (λb u z=>?_) (λb z=>?_) λ_=>hk
  ·by_cases hb:b=a
   ·exact .inr ⟨_,_,if_pos hb⟩
   ·exact .inl (if_neg hb)
  ·by_cases hb:b=a
   ·have z':=(if_pos hb).symm.trans z
    cases z'
    subst hb
    exact ⟨ha,by rw [List.length_map]; exact hl,vs,_,rv,ha⟩
   ·have z':=(if_neg hb).symm.trans z
    cases z'
  ·by_cases hb:b=a
   ·exact hb
   ·exact absurd (if_neg hb) z
end L2
namespace L2
open PySem PySem.Spec PyProof.Rows
theorem walk_of {l:PySem.W.OpenLaw} {n k:Nat} {q:Program} {loose:List Str} {XP:(Str->Option Value)->Heap->Prop} {YP:World->Heap->Prop} {d:DefRec} {K:Params->PySem.W.Frag} {CX:World->CXT} {sp:World->Sp} {x:Str}
  (hn:l.most=some n) (hn2:n<=sizeLine) (hdf:d.params.defaults=[]) (hr:Room k callerA)
  (hY:∀ (w:World) (h:Heap),YP w h->(K w.params).In h)
  (F:∀ (w:World) (mg:Str->Option Value) (fa:Addr) (h:Heap),(K w.params).In h->h.Ns mainGlobals mg->mg d.name=some (.ref fa) ->
   ∃ fd:FuncData,(∀ (s:Shared) (u:Value),BindsTo s fd ⟨[u],[]⟩ [(x,u)]) /\
    ∀ base:Heap,(K w.params).In base->base.Ns mainGlobals mg->FnOk l.prog w (K w.params) mg base (CX w) k fa fd [x] (sp w))
  (hsp:∀ (w:World) (H:Hp) (a:Addr) (ns:List Int),ns.length<=n->Only H->SqL (K w.params) H a (ns.map V.int)->sp w [.ref a] H (λv _=>v=.bl true) λ_ _ _=>False)
  (hCX:∀ (w:World) (H:Hp) (s:Shared) (e:Value) (s':Shared),CX w [] H s (λ_ _ _=>False) e s'->False) :
  PySem.W.WalkO q loose XP YP l.row.toRowW d [] (λf vs=>PySem.call f vs):=by
 refine Att.attach_call hn hdf λw s₀ s₁ mg mb fa o pm cd doc a vs ns G Y ho hd hcd hmg hobj hints hlen hg=>?_
 have KX:=hY w _ Y
 obtain ⟨fd,hb,hF⟩:=F w mg fa _ KX G.T.g hmg
 exact Cj0 KX G.T.g G.T.b G.T.builtins G.T.nolimit hg hobj hints (Nat.le_trans hlen hn2) hr hF hb (λH hO hS=>hsp w H a ns hlen hO hS) λH e s'=>hCX w H s₁ e s'
end L2
namespace L2
open PySem PySem.Spec PyProof.Rows
abbrev CX0:CXT:=λ_ _ _ _ _ _=>False
abbrev E0:XK:=λ_ _ _=>False
theorem Ac1 {X:Cx}:An1 CX0 X E0:=λ_ _ _ _ _ _ _ h=>h.elim
structure Fun (K:PySem.W.Frag) (x qual:Str) (st:Stmt) (f:Addr) (fd:FuncData):Prop where
 ex:∃ (oc:Value) (od:Option Addr) (kV doc pm:Value) (an:Option Addr) (cdv ct:Value) (osl:Array (Option Value)),
  fd=PySem.W.fnOf x qual (Ab4 st) (Aa9 st) (Aa1 st) .none kV doc pm an cdv ct/\K.lookup f=some ⟨oc,od,.func fd,osl⟩/\PySem.W.codeIn K cdv qual=true
 kp:PySem.W.keepIn K (.ref f)=true
section
variable {P : Program} {w : World} {K : PySem.W.Frag} {mg : Str → Option Value} {base : Heap}
theorem Fun.ok {x qual:Str} {st:Stmt} {f:Addr} {fd:FuncData} {N ps:List Str} {k:Nat} {sp:Sp} (F:Fun K x qual st f fd) (S:Ab5 N ps (Aa1 st)) (len:∀ vs H Q E,sp vs H Q E->vs.length=ps.length)
  (hbody:∀ (cdv:Value) (A:Around) (outer:List Env) (s:Shared) (H:Hp) (vs:List V) (Q:VK) (E:XK),Room k (A.deeper (envOfC qual (Aa1 st) s.heap.objs.size f cdv))->sp vs H Q E ->
   ∃ t,PSs (cxOf CX0 P w K mg base N qual (Aa1 st) f cdv A outer s H E).nox (Aa9 st) t/\t { nx:=λ_ H'=>Q .non H',rt:=Q } (Aw7 N vs) H):FnOk P w K mg base CX0 (k+1) f fd ps sp:=by
 obtain ⟨oc,od,kV,doc,pm,an,cdv,ct,osl,rfl,lk,hcd⟩:=F.ex
 refine Da1 lk hcd S len λA outer s H vs Q E hr hsp=>?_
 obtain ⟨t,h,q⟩:=hbody cdv A outer s H vs Q E hr hsp
 exact ⟨t,h.nox,q⟩
theorem Fun.binds {x qual:Str} {st:Stmt} {f:Addr} {fd:FuncData} {ps:List Str} (F:Fun K x qual st f fd)
  (h:∀ (kV doc pm:Value) (an:Option Addr) (cdv ct:Value) (us:List Value),us.length=ps.length->bindArgs (PySem.W.fnOf x qual (Ab4 st) (Aa9 st) (Aa1 st) .none kV doc pm an cdv ct) ⟨us,[]⟩=pure (ps.zip us)):Binds K fd ps []:=by
 obtain ⟨oc,od,kV,doc,pm,an,cdv,ct,osl,rfl,lk,hcd⟩:=F.ex
 exact .all (h kV doc pm an cdv ct)
theorem Ac2 {x qual:Str} {st:Stmt} {f:Addr} {oc:Value} {od an:Option Addr} {osl:Array (Option Value)} {kV doc pm cdv ct:Value} (l:K.lookup f=some ⟨oc,od,.func (PySem.W.fnOf x qual (Ab4 st) (Aa9 st) (Aa1 st) .none kV doc pm an cdv ct),osl⟩)
  (c:PySem.W.codeIn K cdv qual=true) (k:PySem.W.keepIn K (.ref f)=true):Fun K x qual st f (PySem.W.fnOf x qual (Ab4 st) (Aa9 st) (Aa1 st) .none kV doc pm an cdv ct):=⟨⟨oc,od,kV,doc,pm,an,cdv,ct,osl,rfl,l,c⟩,k⟩
end
theorem Aj3 {A:Around} {k:Nat} (hr:Room k A):A.units+1<cLine:=Nat.lt_of_le_of_lt (Nat.add_le_add_left (by decide:1<=64) _) hr.units
section
variable {X : Cx}
theorem pv (i:Nat) {x:Str} {pos:Pos} (hN:X.N[i]?=some x:=by rfl) (hv:Vis X.env.scope x:=by first | exact Or.inl rfl | exact Or.inr (Or.inl rfl) | exact Or.inr (Or.inr rfl)) (hd:(x == ("__debug__":Str))=false:=by decide)
  (hcd:(x == ("__classdict__":Str))=false:=by decide):PE X (.Name x pos) (tVar i):=Cx2 hN hv hd hcd
end
theorem iteF {A B:Prop} (h:B):if false=true then A else B:=by
 rw [if_neg Bool.false_ne_true]
 exact h
theorem iteT {A B:Prop} (h:A):if true=true then A else B:=by
 rw [if_pos rfl]
 exact h
theorem ite2 {c A B:Prop} [Decidable c] (h1:c->A) (h2:¬ c->B):if c then A else B:=by
 by_cases h:c
 ·rw [if_pos h]
  exact h1 h
 ·rw [if_neg h]
  exact h2 h
def Same (H H':Hp):Prop:=∀ b o,H b=some o->H' b=some o
theorem Same.refl (H:Hp):Same H H:=λ_ _ h=>h
theorem Same.trans {H H1 H2:Hp} (a:Same H H1) (b:Same H1 H2):Same H H2:=λc o h=>b c o (a c o h)
theorem Same.free {H H':Hp} (e:Same H H') {l:Addr} (h:H' l=Option.none):H l=Option.none:=by
 cases q:H l with
 | none=>rfl
 | some o =>
  rw [e l o q] at h
  cases h
theorem Same.seq {K:PySem.W.Frag} {H H':Hp} {a:Addr} {xs:List V} (e:Same H H') (h:SqL K H a xs):SqL K H' a xs:=by
 rcases h with (h | ⟨o,h⟩) | h
 ·exact .inl (.inl (e _ _ h))
 ·exact .inl (.inr ⟨o,e _ _ h⟩)
 ·exact .inr h
end L2
end
section
namespace L2
open PySem
abbrev xo (C t:Addr) (od:Option Addr):Obj:={ cls:=.ref C,dict:=od,data:=.fields #[.ref t,.none,.none,.none,.bool false,.none] }
section
variable {prog : Program} {w : World} {A : Around} {E : Value → Shared → Prop} {h : Heap} {g : Array GenState} {d : Drawn} {tk : Nat} {os : OsState}
variable {nm q : Str} {C N fI : Addr} {bs bm bmB : List Value} {hdct : Bool} {sn : List Str} {sub : List Value} {ab : Bool} {col : Option Bool} {dd : Option Addr} {k0 k1 k2 k3 k5 : Option Value} {B newId initId : String}
 {mN:Str->Option Value} {rest:List Value} {oI:Obj}
theorem Bp5 (F:ExcBaseFacts B newId initId bmB) (T:OwnTail h bmB bm) {Q:Fin->Shared->Prop}
  (hC:h.get? C=some (excClassObj nm q C N bs bm hdct sn sub ab col dd k0 k1 k2 k3 k5 newId))
  (hn:h.Ns N mN) (hi:mN "__init__"=some (.ref fI)) (hfI:h.get? fI=some oI) (hfc:oI.cls=.type "function")
  (hq:∀ h' e,Heap.MadeExcOf h h' e (.ref C) rest->wpAny (model prog w) A (call (.ref fI) (.ref e::rest)) (λr s'=>r=.none/\Q (.done (.ret (.ref e))) s') E ⟨h',g,d,tk,os⟩)
  (hrest:rest.length<=sizeLine):wpAny (model prog w) A (Builtin.«type.__call__» ⟨.ref C::rest,[]⟩) Q E ⟨h,g,d,tk,os⟩:=by
 repeat (first
  | with_reducible refine wpAny_loadPart_at hC ?_
  | with_reducible refine wpAny_madeBy_exc hC ?_
  | wp_step)
 refine codeAny_call_builtin_code (Code.quiet_builtin _ F.quiet) (wpAny_check_new_subT F T hC (codeAny_exc_new_subT F T hC ?_ hrest))
 show wpAny _ _ _ _ _ _
 let tu:Obj:={ cls:=.type "tuple",data:=.seq rest.toArray }
 let h2:Heap:=(h.push tu).push (xo C h.objs.size none)
 have up:∀ b o,h.get? b=some o->h2.get? b=some o:=λb o z=>Heap.get?_push_of_some _ (Heap.get?_push_of_some _ z)
 have hget:h2.get? (h.objs.size+1)=some (xo C h.objs.size none):=by heap_get
 have hC2:=up _ _ hC
 have hn2:h2.Ns N mN:=by
  obtain ⟨o,es,ep,z,r⟩:=hn
  exact ⟨o,es,ep,up _ _ z,r⟩
 have T2:=T.keeps (h':=h2) up
 have hcC:(Value.ref C::bm).contains (.ref C)=true:=by simp
 show wpAny _ _ _ _ _ ⟨h2,g,d,tk,os⟩
 unfold isInstance
 repeat (first
  | with_reducible refine wpAny_loadPart_at hget ?_
  | (with_reducible refine wpAny_isSubtype_exc hC2 ?_; rw [hcC])
  | wp_step)
 show wpAny _ _ (typeLookup (.ref C) _) _ _ _
 refine wpAny_typeLookup_tail hC2 hn2 T2 F.mroIs F.init.lookup ?_
 rw [hi]
 refine wpAny_holding (wpAny_bind ?_)
 unfold bindSpecial
 refine wpAny_bind (wpAny_typeOf (T:="function") ⟨_,up _ _ hfI,hfc⟩ ?_)
 rw [if_pos (by decide)]
 have M:Heap.MadeExcOf h h2 (h.objs.size+1) (.ref C) rest:=by
  refine ⟨up,Heap.get?_none_of_le (Nat.le_succ _),h.objs.size,hget,Heap.get?_none_of_le (Nat.le_refl _),?_⟩
  exact Heap.get?_push_of_some _ (Heap.get?_push_at rfl rfl)
 refine wpAny_pure (wpAny_bind (wpAny_mono (hq _ _ M) (λr s' hr=>?_) λ_ _ z=>z))
 obtain ⟨rfl,hQ⟩:=hr
 wp_walk
 exact hQ
theorem Cb2 (F:ExcBaseFacts B newId initId bmB) (T:OwnTail h bmB bm) {Q:Value->Shared->Prop}
  (hC:h.get? C=some (excClassObj nm q C N bs bm hdct sn sub ab col dd k0 k1 k2 k3 k5 newId))
  (hn:h.Ns N mN) (hi:mN "__init__"=some (.ref fI)) (hfI:h.get? fI=some oI) (hfc:oI.cls=.type "function")
  (hq:∀ h' e,Heap.MadeExcOf h h' e (.ref C) rest ->
   wpAny (model prog w) (A.under (.builtin "type.__call__" ⟨.ref C::rest,[]⟩)) (call (.ref fI) (.ref e::rest)) (λr s'=>r=.none/\Q (.ref e) s') E ⟨h',g,d,tk,os⟩)
  (hrest:rest.length<=sizeLine):wpAny (model prog w) A (call (.ref C) rest) Q E ⟨h,g,d,tk,os⟩:=by
 have e1:=tc_lookup
 have e2:=tc_bind (.ref C)
 have e3:(⟨h,g,d,tk,os⟩:Shared).TypeIs (.ref C) "type":=⟨_,hC,rfl⟩
 refine wpAny_call (codeAny_of_tree ?_)
 show wpAny _ _ (callAny (.ref C) _) _ _ _
 repeat (any_goals (first
  | assumption
  | with_reducible refine wpAny_loadPart_at hC ?_
  | wp_step))
 refine ⟨rfl,codeAny_call_builtin_at (Code.quiet_builtin _ (by decide +kernel)) entry_typeCall (wpAny_check_type_call_sub hC ?_)⟩
 exact Bp5 F T hC hn hi hfI hfc (λh' e hm=>hq h' e hm) hrest
end
section
variable {prog : Program} {w : World} {M : Model} {A : Around} {E : Value → Shared → Prop} {s : Shared} {env : Env}
variable {nm q : Str} {C N fI : Addr} {bs bm bmB : List Value} {hdct : Bool} {sn : List Str} {sub : List Value} {ab : Bool} {col : Option Bool} {dd : Option Addr} {k0 k1 k2 k3 k5 : Option Value} {B newId initId : String}
theorem Ba9 {x:Sem Value} {Q:Flow->Shared->Prop} (hbase:bm.contains (.type "BaseException")=true) (hh:A.handled=none)
  (h:wpAny M A x (λv s₁=>∃ e t od,v=.ref e/\s₁.heap.get? C=some (excClassObj nm q C N bs bm hdct sn sub ab col dd k0 k1 k2 k3 k5 newId)/\s₁.heap.get? e=some (xo C t od)/\E (.ref e) s₁) E s) :
  wpAny M A (raiseStmt env (some x) none) Q E s:=by
 have hcB:(Value.ref C::bm).contains (.type "BaseException")=true:=by rw [List.contains_cons,hbase,Bool.or_true]
 unfold raiseStmt
 refine wpAny_bind (wpAny_mono h (λv s₁ h₁=>?_) λ_ _ z=>z)
 obtain ⟨e,t,od,rfl,hC,he,hE⟩:=h₁
 obtain ⟨hp,g,d,tk,os⟩:=s₁
 repeat (first
  | with_reducible refine wpAny_loadPart_at he ?_
  | with_reducible refine wpAny_loadPart_at hC ?_
  | (with_reducible refine wpAny_isSubtype_exc hC ?_; rw [hcB])
  | wp_step)
 exact wpAny_raiseNew_none hh hE
theorem Br9 (F:ExcBaseFacts B newId initId bmB) {mN:Str->Option Value} {x:Str} {np cpos pos:Pos} {args:List Expr} {Q:Flow->Shared->Prop}
  (hbase:bm.contains (.type "BaseException")=true) (hh:A.handled=none) (hplain:(backTo cpos (starEach args env)).any (·.1)=false) (hi:mN "__init__"=some (.ref fI))
  (h:wpAny (model prog w) A (eval (.Name x np) env) (λf s₁=>f=.ref C/\wpAny (model prog w) A (evalArgs (.ref C) true (backTo cpos (starEach args env)) [])
   (λa s₂=>a.kw=[]/\a.pos.length<=sizeLine/\s₂.heap.get? C=some (excClassObj nm q C N bs bm hdct sn sub ab col dd k0 k1 k2 k3 k5 newId)/\s₂.heap.Ns N mN/\OwnTail s₂.heap bmB bm/\(∃ oI,s₂.heap.get? fI=some oI/\oI.cls=.type "function") /\
    ∀ h' e,Heap.MadeExcOf s₂.heap h' e (.ref C) a.pos->wpAny (model prog w) (A.under (.builtin "type.__call__" ⟨.ref C::a.pos,[]⟩)) (call (.ref fI) (.ref e::a.pos))
     (λr s'=>r=.none/\s'.heap.get? C=some (excClassObj nm q C N bs bm hdct sn sub ab col dd k0 k1 k2 k3 k5 newId)/\(∃ t od,s'.heap.get? e=some (xo C t od))/\E (.ref e) s') E { s₂ with heap:=h' }) E s₁) E s) :
  wpAny (model prog w) A (exec (.Raise (some (.Call (.Name x np) args [] cpos)) none pos) env) Q E s:=by
 rw [arm_exec_Raise]
 simp only [evalOpt,Option.map]
 refine wpAny_bind (wpAny_standAt (Ba9 (C:=C) (nm:=nm) (q:=q) (N:=N) (bs:=bs) (bm:=bm) (hdct:=hdct) (sn:=sn) (sub:=sub) (ab:=ab) (col:=col) (dd:=dd) (k0:=k0) (k1:=k1) (k2:=k2) (k3:=k3) (k5:=k5) (newId:=newId) hbase hh ?_))
 refine wpAny_bind (wpAny_mono (wpAny_Call_ofName (wpAny_mono h (λf s₁ h₁=>?_) λ_ _ z=>z)) (λv s₃ h₃=>wpAny_bind (wpAny_standAt (wpAny_pure h₃))) λ_ _ z=>z)
 obtain ⟨rfl,h₁⟩:=h₁
 unfold callWith
 refine wpAny_bind (wpAny_holding (wpAny_mono h₁ (λa s₂ h₂=>wpAny_bind (wpAny_standAt ?_)) λ_ _ z=>z))
 obtain ⟨apos,akw⟩:=a
 obtain ⟨hkw,hlen,hC,hn,T,⟨oI,hfI,hfc⟩,h₂⟩:=h₂
 obtain rfl:akw=[]:=hkw
 obtain ⟨hp,g,d,tk,os⟩:=s₂
 simp only [hplain]
 refine wpAny_bind (wpAny_keeperOf_exc hC ?_)
 refine wpAny_bind (Cb2 F T hC hn hi hfI hfc (λh' e hm=>wpAny_mono (h₂ h' e hm) (λr s' z=>⟨z.1,?_⟩) λ_ _ z=>z) hlen)
 obtain ⟨_,zC,⟨t,od,ze⟩,zE⟩:=z
 exact wpAny_bind (wpAny_holding (wpAny_point (wpAny_pure ⟨e,t,od,rfl,zC,ze,zE⟩)))
end
end L2
end
section
namespace L2
open PySem
section
variable {M : Model} {A : Around} {E : Value → Shared → Prop} {s : Shared} {base : Heap} {env : Env} {outer l : List Env} {L e : Addr} {cls a0 fl : Value} {od : Option Addr}
def Dc (h:Heap) (e:Addr) (od:Option Addr):Prop:=∃ o,h.get? e=some o/\o.dict=od
theorem An0 (o:Obj) (f:Array Value->Array Value):(Obj.mapFields f o).dict=o.dict:=by
 unfold Obj.mapFields
 split <;> rfl
theorem Ae6 {h:Heap} {T b:Addr} {f:Obj->Obj} (n:b≠T):(h.update T f).get? b=h.get? b:=Heap.get?_update_other _ _ (Ne.symm n)
theorem Dc.upd {h:Heap} {T:Addr} {oT:Obj} {ts:Array Value} {f:Array Value->Array Value} (x:Dc h e od) (hT:h.get? T=some oT) (hd:oT.data=.fields ts):Dc (h.update T (Obj.mapFields f)) e od:=by
 obtain ⟨o,ho,hod⟩:=x
 by_cases n:e=T
 ·subst n
  rw [hT] at ho
  cases ho
  exact ⟨_,Heap.get?_update_self _ hT (Obj.isFreed_of_fields (Obj.data_mapFields hd f)),(An0 _ _).trans hod⟩
 ·exact ⟨o,(Ae6 n).trans ho,hod⟩
theorem Cl5 {oe:Obj} {vs:Array Value} {head:Value} {hadNext:Bool} {Q:Unit->Shared->Prop} (hfr:A.frames=some (env::outer)) (hl:s.heap.FunFrames base (env::outer)) (hf:env.frame=some L)
  (he:s.heap.get? e=some oe) (hkb:base.StaysIn s.heap) (hen:base.get? e=none) (hd:oe.data=.fields vs) (hsz:1<vs.size) (h0:vs[0]?=some a0)
  (k:∀ h',Heap.NotedW base (env::outer) e oe.cls a0 (rawInt L) s.heap h'->Dc h' e oe.dict->Q () { s with heap:=h' }) :
  wpAny M A (do
   let a <- frameOf env
   let pl <- entryPlaceOf L hadNext
   let b <- EntryCells.newEntry head a .none (rawInt L) .none pl
   setField (.ref e) 1 b) Q E s:=by
 have nin:e ∉ (env::outer).filterMap (·.frame):=λhm=>by
  obtain ⟨_,o,ho,hnf⟩:=hl.mem hm
  rw [he] at ho
  cases ho
  exact hnf vs hd
 refine wpAny_bind (wpAny_frameOf_fun hfr hl hf λh1 hs1=>wpAny_bind (wpAny_entryPlaceOf λpl hpl=>?_))
 unfold EntryCells.newEntry newFields
 refine wpAny_bind (wpAny_newObj_type ?_ (hpl.sizeOk5 _ _ _ _ _))
 generalize htb:([head,.ref L,.none,rawInt L,.none]++(if pl.isEmpty then List.replicate 6 Value.none else pl))=tb
 have h3:tb.toArray[3]?=some (rawInt L):=by rw [<- htb]; simp
 have e1:h1.get? e=some oe:=(hs1.2.1 e nin).trans he
 have b1:base.StaysIn h1:=λb o z=>(hs1.2.1 b λhm=>by rw [(hl.mem hm).1] at z; cases z).trans (hkb b o z)
 have pu:∀ b o,h1.get? b=some o->(h1.push { cls:=.type "traceback",dict:=none,data:=.fields tb.toArray }).get? b=some o:=λb o z=>Heap.get?_push_of_some _ z
 have hT:(h1.push { cls:=.type "traceback",dict:=none,data:=.fields tb.toArray }).get? h1.objs.size=some { cls:=.type "traceback",dict:=none,data:=.fields tb.toArray }:=Heap.get?_push_size h1 rfl
 have fr:base.get? h1.objs.size=none:=b1.fresh
 have nT:h1.objs.size≠e:=Nat.ne_of_gt (Heap.lt_size e1)
 have lt:∀ b o,h1.get? b=some o->b≠h1.objs.size:=λb o z=>Nat.ne_of_lt (Heap.lt_size z)
 refine wpAny_setField (pu _ _ e1) hd hsz ?_
 have e2:=pu _ _ e1
 generalize h1.push { cls:=.type "traceback",dict:=none,data:=.fields tb.toArray }=h2 at *
 generalize h1.objs.size=T at *
 have d3:=Obj.data_mapFields hd (·.setIfInBounds 1 (Value.ref T))
 have e3:=Heap.get?_update_self (Obj.mapFields (·.setIfInBounds 1 (Value.ref T))) e2 (Obj.isFreed_of_fields d3)
 have noR:∀ b o,s.heap.get? b=some o->(∀ ws,o.data≠.fields ws)->b≠e:=λb o z hnf y=>by
  rw [y,he] at z
  cases z
  exact hnf vs hd
 refine k _ ⟨λb o z=>?_,hl.of_keeps λb o z hnf=>?_,?_,λb o z hnf=>?_⟩ ⟨_,e3,An0 _ _⟩
 ·rw [Ae6 (λy=>by rw [y,hen] at z; cases z)]
  exact pu _ _ (b1 b o z)
 ·obtain ⟨sl,y⟩:=hs1.2.2 b o z
  exact ⟨_,(Ae6 (noR b o z hnf)).trans (pu _ _ y),rfl⟩
 ·exact ⟨_,_,T,_,_,e3,⟨Obj.cls_mapFields _ _,by rw [Array.getElem?_setIfInBounds_ne (by decide)]; exact h0⟩,d3,by simp [hsz],fr,nT,(Ae6 nT).trans hT,rfl,h3⟩
 ·obtain ⟨sl,y⟩:=hs1.2.2 b o z
  exact ⟨sl,(Ae6 (noR b o z hnf)).trans (pu _ _ y)⟩
theorem Ct4 {Q:Unit->Shared->Prop} (hkb:base.StaysIn s.heap) (hl:s.heap.FunFrames base l) (ht:s.heap.TracedAtW base e cls a0 fl) (hc:Dc s.heap e od)
  (k:∀ h',base.StaysIn h'->h'.FunFrames base l->h'.TracedW base e cls a0->s.heap.UpToSlots h'->Dc h' e od->Q () { s with heap:=h' }):wpAny M A (setFlight (.ref e) none) Q E s:=by
 obtain ⟨oe,vs,T,oT,ts,he,hcls,hd,h1,hnT,hTe,hT,hdT,h3⟩:=ht
 have z3:3<ts.size:=(Array.getElem?_eq_some_iff.mp h3).1
 have noR:∀ b o,s.heap.get? b=some o->(∀ ws,o.data≠.fields ws)->b≠T:=λb o z hnf y=>by
  rw [y,hT] at z
  cases z
  exact hnf ts hdT
 unfold setFlight
 refine wpAny_bind (wpAny_field he hd h1 ?_)
 rw [if_pos (show (Value.ref T != Value.none)=true from by simp)]
 refine wpAny_setField hT hdT z3 (k _ (λb o z=>?_) (hl.of_keeps λb o z hnf=>⟨o,(Ae6 (noR b o z hnf)).trans z,rfl⟩) ?_ (λb o z hnf=>⟨o.slots,(Ae6 (noR b o z hnf)).trans z⟩) (hc.upd hT hdT))
 ·rw [Ae6 (λy=>by rw [y,hnT] at z; cases z)]
  exact hkb b o z
 ·exact ⟨oe,vs,T,_,_,(Ae6 (Ne.symm hTe)).trans he,hcls,hd,h1,hnT,hTe,Heap.get?_update_self _ hT (Obj.isFreed_of_fields (Obj.data_mapFields hdT _)),Obj.data_mapFields hdT _,by simp [z3]⟩
theorem Cz3 {Q:Unit->Shared->Prop} (hfr:A.frames=some (env::outer)) (hf:env.frame=some L) (x:Heap.FlyingW base (env::outer) e cls a0 s.heap) (hc:Dc s.heap e od)
  (k:∀ h',Heap.HeldW base (env::outer) e cls a0 L h'->s.heap.UpToSlots h'->Dc h' e od->Q () { s with heap:=h' }):wpAny M A (noteFrame (.ref e) env) Q E s:=by
 obtain ⟨hkb,hen,hl,oe,vs,T,oT,ts,he,⟨hcls,h0⟩,hd,h1,hnT,hTe,hT,hdT,h3⟩:=x
 subst hcls
 unfold noteFrame
 simp only [hf]
 refine wpAny_bind (wpAny_field he hd h1 ?_)
 rw [if_pos (show (Value.ref T != Value.none)=true from by simp)]
 refine wpAny_bind (wpAny_field hT hdT h3 ?_)
 rw [if_neg (show ¬ ((Value.none == rawInt L)=true) from by simp [rawInt])]
 have noR:∀ b o,s.heap.get? b=some o->(∀ ws,o.data≠.fields ws)->b≠T:=λb o z hnf y=>by
  rw [y,hT] at z
  cases z
  exact hnf ts hdT
 have hod:oe.dict=od:=by
  obtain ⟨o,ho,q⟩:=hc
  rw [he] at ho
  cases ho
  exact q
 refine wpAny_bind (wpAny_setField hT hdT (Array.getElem?_eq_some_iff.mp h3).1 ?_)
 refine Cl5 hfr (hl.of_keeps λb o z hnf=>⟨o,(Ae6 (noR b o z hnf)).trans z,rfl⟩) hf ((Ae6 (Ne.symm hTe)).trans he) (λb o z=>?_) hen hd (Array.getElem?_eq_some_iff.mp h1).1 h0 λh' N D=>?_
 ·rw [Ae6 (λy=>by rw [y,hnT] at z; cases z)]
  exact hkb b o z
 ·obtain ⟨x1,x2,x3,x4⟩:=N
  exact k h' ⟨x1,hen,x2,x3⟩ (λb o z hnf=>x4 b o ((Ae6 (noR b o z hnf)).trans z) hnf) (hod ▸ D)
theorem Cl1 {Q:Unit->Shared->Prop} (x:Heap.HeldW base l e cls a0 L s.heap) (hc:Dc s.heap e od)
  (k:∀ h',Heap.FlyingW base l e cls a0 h'->s.heap.UpToSlots h'->Dc h' e od->Q () { s with heap:=h' }):wpAny M A (setFlight (.ref e) none) Q E s:=by
 obtain ⟨f1,f2,f3,f4⟩:=x
 exact Ct4 f1 f3 f4 hc λh' k1 k2 k3 k4 k5=>k h' ⟨k1,f2,k2,k3⟩ k4 k5
theorem Db2 {Q:Unit->Shared->Prop} (x:Heap.FlyingW base l e cls a0 s.heap) (hc:Dc s.heap e od)
  (k:∀ h',Heap.FlyingW base l e cls a0 h'->s.heap.UpToSlots h'->Dc h' e od->Q () { s with heap:=h' }):wpAny M A (setFlight (.ref e) none) Q E s:=by
 obtain ⟨f1,f2,f3,f4⟩:=x
 exact Ct4 f1 f3 f4.at hc λh' k1 k2 k3 k4 k5=>k h' ⟨k1,f2,k2,k3⟩ k4 k5
theorem Ct3 {Q:Unit->Shared->Prop} (hfr:A.frames=some (env::outer)) (hf:env.frame=some L) (x:Heap.FlyingW base (env::outer) e cls a0 s.heap) (hc:Dc s.heap e od)
  (k:∀ h',Heap.FlyingW base outer e cls a0 h'->s.heap.UpToSlots h'->Dc h' e od->Q () { s with heap:=h' }):wpAny M A (leaving env (.ref e)) Q E s:=by
 unfold leaving
 refine wpAny_bind (Cz3 hfr hf x hc λh1 H1 u1 c1=>Cl1 (s:={ s with heap:=h1 }) H1 c1 λh2 F2 u2 c2=>?_)
 obtain ⟨g1,g2,⟨_,_,g3⟩,g4⟩:=F2
 exact k h2 ⟨g1,g2,g3,g4⟩ (u1.trans u2) c2
theorem Da2 {C t:Addr} {Q:Unit->Shared->Prop} (hfr:A.frames=some (env::outer)) (hf:env.frame=some L) (hkb:base.StaysIn s.heap) (hen:base.get? e=none) (hl:s.heap.FunFrames base (env::outer)) (he:s.heap.get? e=some (xo C t od))
  (k:∀ h',Heap.FlyingW base outer e (.ref C) (.ref t) h'->s.heap.UpToSlots h'->Dc h' e od->Q () { s with heap:=h' }):wpAny M A (leaving env (.ref e)) Q E s:=by
 unfold leaving noteFrame
 simp only [hf]
 refine wpAny_bind (wpAny_bind (wpAny_field he rfl (x:=.none) rfl ?_))
 rw [if_neg (by decide)]
 refine Cl5 (a0:=.ref t) hfr hl hf he hkb hen rfl (by show (1:Nat)<6; decide) rfl λh1 N D=>?_
 obtain ⟨x1,x2,x3,x4⟩:=N
 refine Ct4 (s:={ s with heap:=h1 }) x1 x2 x3 D λh2 k1 k2 k3 k4 k5=>?_
 obtain ⟨_,_,k2⟩:=k2
 exact k h2 ⟨k1,hen,k2,k3⟩ (Heap.UpToSlots.trans x4 k4) k5
end
end L2
end
section
namespace L2
open PySem PySem.Spec PyProof.Rows
def VB:List Value:=[.type "ValueError",.type "Exception",.type "BaseException",.type "object"]
def Ay9 (K:PySem.W.Frag) (N:Addr):Bool:=match K.lookup N with
 | some ⟨_,_,.dict es _,_⟩=>es.toList.all λe=>match e.key with | .str _ _=>true | _=>false
 | _=>false
def Bm8 (K:PySem.W.Frag) (N:Addr):Bool:=Ay9 K N && (match PySem.W.nsIn K N "__init__" with | some none=>true | _=>false)
theorem Bb7 {K:PySem.W.Frag} {N:Addr} {h₀:Heap} (X₀:K.In h₀) (e:Bm8 K N=true):∃ mN:Str->Option Value,mN "__init__"=none/\∀ h:Heap,K.In h->h.Ns N mN:=by
 unfold Bm8 at e
 simp only [Bool.and_eq_true] at e
 obtain ⟨e1,e2⟩:=e
 unfold Ay9 at e1
 split at e1
 ·rename_i c d es ep sl hl
  have sk:StrKeys es:=λen hen=>by
   have q:=(List.all_eq_true.mp e1) en (by simpa using hen)
   split at q
   ·rename_i n t hk
    exact ⟨n,t,hk⟩
   ·cases q
  have hN:∀ h:Heap,K.In h->h.Ns N (nsFind es):=λh X=>⟨_,es,ep,X _ _ hl,rfl,sk,λ_=>rfl⟩
  refine ⟨nsFind es,?_,hN⟩
  split at e2
  ·rename_i q
   exact PySem.W.ns_none_of X₀ (hN h₀ X₀) q
  ·cases e2
 ·cases e1
def Az8 (K:PySem.W.Frag):List Value->Bool
 | []=>false
 | v::tl=>match v with
  | .ref A=>(match K.lookup A with | some ⟨_,_,.cls cd,_⟩=>Bm8 K cd.ns | _=>false) && Az8 K tl
  | _=>(v::tl) == VB
theorem Aw6 {K:PySem.W.Frag} {h₀:Heap} (X₀:K.In h₀):∀ {l:List Value},Az8 K l=true->∀ h:Heap,K.In h->OwnTail h VB l
 | [],e,_,_=>by cases e
 | v::tl,e,h,X=>by
  unfold Az8 at e
  split at e
  ·rename_i A
   simp only [Bool.and_eq_true] at e
   obtain ⟨e1,e2⟩:=e
   split at e1
   ·rename_i c0 dd cd sl hl
    obtain ⟨mN,hi,hN⟩:=Bb7 X₀ e1
    exact .own (X _ _ hl) (hN h X) hi (Aw6 X₀ e2 h X)
   ·cases e1
  ·rw [beq_iff_eq.mp e]
   exact .base
def excIn (K:PySem.W.Frag) (C:Addr):Bool:=match K.lookup C with
 | some ⟨.type "type",_,.cls cd,sl⟩=>(match cd.mro,sl.toList with
  | .ref C'::bm,[_,_,_,_,some (.builtin n),_]=>C' == C && !cd.hasDel && n == "ValueError.__new__" && Bm8 K cd.ns && Az8 K bm
  | _,_=>false)
 | _=>false
theorem Bz2 {K:PySem.W.Frag} {h₀:Heap} {C:Addr} (X₀:K.In h₀) (q:excIn K C=true):∃ bm N nm qn bs hdct sn sub ab col dd k0 k1 k2 k3 k5 mN,mN "__init__"=none /\
  ∀ h:Heap,K.In h->h.get? C=some (excClassObj nm qn C N bs bm hdct sn sub ab col dd k0 k1 k2 k3 k5 "ValueError.__new__")/\h.Ns N mN/\OwnTail h VB bm:=by
 unfold excIn at q
 split at q
 ·rename_i dd cd sl ho
  split at q
  ·rename_i C' bm k0 k1 k2 k3 n k5 hm hs
   simp only [Bool.and_eq_true,beq_iff_eq,Bool.not_eq_true'] at q
   obtain ⟨⟨⟨⟨rfl,hdel⟩,rfl⟩,hi⟩,ht⟩:=q
   obtain ⟨nm,bs,mro,ns,qn,hd,sn,sub,ab,col,del⟩:=cd
   dsimp only at hm hdel hi
   subst hm hdel
   have hsl:sl=#[k0,k1,k2,k3,some (.builtin "ValueError.__new__"),k5]:=by
    obtain ⟨l⟩:=sl
    simp only at hs
    rw [hs]
   subst hsl
   obtain ⟨mN,hi,hN⟩:=Bb7 X₀ hi
   exact ⟨bm,ns,nm,qn,bs,hd,sn,sub,ab,col,dd,k0,k1,k2,k3,k5,mN,hi,λh X=>⟨X _ _ ho,hN h X,Aw6 X₀ ht h X⟩⟩
  ·cases q
 ·cases q
theorem ObjOk.is {P:Program} {w:World} {H:Hp} {h:Heap} {a:Addr} {o:HO} (x:ObjOk P w H h a o):∃ ob,h.get? a=some ob:=by
 cases o with
 | lst xs=>obtain ⟨_,_,_,_,e⟩:=x; exact ⟨_,e⟩
 | tup xs=>obtain ⟨_,_,_,ob,e,_⟩:=x; exact ⟨_,e⟩
 | dK kvs=>obtain ⟨_,_,_,_,o,_,_,e,_⟩:=x; exact ⟨_,e⟩
 | dT kvs=>obtain ⟨_,_,_,_,o,_,_,e,_⟩:=x; exact ⟨_,e⟩
 | set S n=>obtain ⟨o,_,_,_,e,_⟩:=x; exact ⟨_,e⟩
 | ins C dx fs=>obtain ⟨_,_,_,e,_⟩:=x; exact ⟨_,e⟩
 | own y=>obtain ⟨_,e⟩:=x; exact ⟨_,e⟩
 | xd fs=>obtain ⟨_,⟨_,_,_,e,_⟩,_⟩:=x; exact ⟨_,e⟩
 | rng lo hi=>obtain ⟨_,_,_,e⟩:=x; exact ⟨_,e⟩
 | frz ob u=>obtain ⟨e,_⟩:=x; exact ⟨_,e⟩
 | tbl ps=>exact ⟨_,(show h.get? a=some _ from x)⟩
 | met f y=>exact ⟨_,(show h.get? a=some _ from x)⟩
 | ext φ=>obtain ⟨_,⟨_,e⟩,_⟩:=x; exact ⟨_,e⟩
def CXr (P:Program) (w:World):CXT:=λouter H s E x s'=>∃ (e:Addr) (C a0:Value) (H':Hp) (B:Heap),x=.ref e/\s'.os=s.os/\AllBare s'.gens/\Un (frs outer) [] H H' s.heap s'.heap/\HOk P w H' s'.heap /\
 Heap.FlyingW B outer e C a0 s'.heap/\(∀ b u,H' b=some u->∃ o,B.get? b=some o)/\(∀ b o,s.heap.get? b=some o->b ∉ frs outer->∃ o',B.get? b=some o'/\(H b=none->o'=o))/\∃ od,Dc s'.heap e od/\E C od H'
def Cl9 (X:Cx) (E:XK):Prop:=∀ (pins:List (Addr×Obj)) (σ:St) (H:Hp) (s:Shared) (e C:Addr) (vs:List Value) (h':Heap),Inv X pins σ H s->Heap.MadeExcOf s.heap h' e (.ref C) vs->E (.ref C) none H ->
 X.xe (.ref e) { s with heap:=h' }
section
variable {P : Program} {w : World} {K : PySem.W.Frag} {mg : Str → Option Value} {base : Heap} {N : List Str} {qual : Str} {scope : Scope} {f : Addr} {cd : Value} {A : Around} {outer : List Env} {s₀ : Shared} {H₀ : Hp} {E : XK}
abbrev cxR (P:Program) (w:World) (K:PySem.W.Frag) (mg:Str->Option Value) (base:Heap) (N:List Str) (qual:Str) (scope:Scope) (f:Addr) (cd:Value) (A:Around) (outer:List Env) (s:Shared) (H:Hp) (E:XK):Cx :=
 cxOf (CXr P w) P w K mg base N qual scope f cd A outer s H E
theorem Bp9:PassesOwn (model P w) (cxR P w K mg base N qual scope f cd A outer s₀ H₀ E).A (cxR P w K mg base N qual scope f cd A outer s₀ H₀ E).env (cxR P w K mg base N qual scope f cd A outer s₀ H₀ E).xe:=PassesOwn.leaving
theorem Bc8 {H:Hp} {h h' B:Heap} (ok:HOk P w H h) (k:∀ b u,H b=some u->∃ o,B.get? b=some o) (s1:∀ b o,B.get? b=some o->h.get? b=some o) (s2:∀ b o,B.get? b=some o->h'.get? b=some o):HOk P w H h':=λa u e =>
 (ok a u e).stay (λb v hb q=>by
  obtain ⟨o,z⟩:∃ o,B.get? b=some o:=by
   rcases hb with rfl | hb
   ·exact k _ _ e
   ·exact k _ _ hb
  have z1:=s1 b o z
  rw [q] at z1
  cases z1
  exact s2 b _ z) (λ_ q=>q) λ_ _ q=>q
theorem Bv9 {pins:List (Addr×Obj)} {σ:St} {H:Hp} {s:Shared} {e C t:Addr} {od:Option Addr} (I:Inv (cxR P w K mg base N qual scope f cd A outer s₀ H₀ E) pins σ H s) (he:s.heap.get? e=some (xo C t od)) (hn:s₀.heap.get? e=none) (hH:H e=none) (q:E (.ref C) od H):(cxR P w K mg base N qual scope f cd A outer s₀ H₀ E).xe (.ref e) s:=by
 have noA:∀ b:Addr,b ∉ (cxR P w K mg base N qual scope f cd A outer s₀ H₀ E).ex:=λb z=>absurd (show b ∈ ([]:List Addr) from z) (by simp)
 have lt0:∀ b o,s₀.heap.get? b=some o->b≠(cxR P w K mg base N qual scope f cd A outer s₀ H₀ E).env.locals:=λb o z=>Nat.ne_of_lt (Nat.lt_of_lt_of_le (Heap.lt_size z) I.ok.above)
 have hin:∀ env ∈ (cxR P w K mg base N qual scope f cd A outer s₀ H₀ E).stack,∀ b,env.frame=some b->b ∈ e::frs (cxR P w K mg base N qual scope f cd A outer s₀ H₀ E).stack:=λenv he b hb=>List.mem_cons_of_mem _ (List.mem_filterMap.mpr ⟨env,he,hb⟩)
 have nin:∀ b o,s₀.heap.get? b=some o->b ∉ frs outer->b ∉ e::frs (cxR P w K mg base N qual scope f cd A outer s₀ H₀ E).stack:=λb o z h1 y=>by
  rcases List.mem_cons.mp y with y | y
  ·rw [y,hn] at z; cases z
  ·rcases List.mem_cons.mp (I.stkSub b y) with y | y
   ·exact lt0 b o z y
   ·exact h1 y
 show wpAny (model P w) (A.deeper (envOfC qual scope s₀.heap.objs.size f cd)) (leaving (envOfC qual scope s₀.heap.objs.size f cd) (.ref e)) _ _ _
 refine Da2 (base:=PySem.W.hideAll s.heap (e::frs (cxR P w K mg base N qual scope f cd A outer s₀ H₀ E).stack)) (L:=s₀.heap.objs.size) I.ok.frames rfl (λb o z=>PySem.W.of_hideAll _ z) (PySem.W.hideAll_none _ (List.mem_cons_self ..)) (PySem.W.funFrames_hide I.stack hin) he λh'' x1 x4 x5=>?_
 have st:∀ b o,s.heap.get? b=some o->b ∉ e::frs (cxR P w K mg base N qual scope f cd A outer s₀ H₀ E).stack->(PySem.W.hideAll s.heap (e::frs (cxR P w K mg base N qual scope f cd A outer s₀ H₀ E).stack)).get? b=some o:=λb o z n=>PySem.W.hideAll_get _ z n
 have c1:∀ b u,H b=some u->∃ o,(PySem.W.hideAll s.heap (e::frs (cxR P w K mg base N qual scope f cd A outer s₀ H₀ E).stack)).get? b=some o:=λb u z=>by
  obtain ⟨ob,zb⟩:=(I.hok b u z).is
  refine ⟨ob,st b ob zb λm=>?_⟩
  rcases List.mem_cons.mp m with m | m
  ·rw [m,hH] at z; cases z
  ·rw [I.stkFree b m] at z; cases z
 refine ⟨e,.ref C,.ref t,H,_,rfl,I.os,I.bare,⟨λb o z n hb _=>?_,λb o z n hb _=>?_,λb o z n _=>I.base.free b o z n (noA b),λb o z _=>?_,I.base.tups,I.base.frzs,I.base.tbls⟩,?_,x1,c1,λb o z hb=>?_,od,x5,q⟩
 ·exact x1.1 b o (st b o (I.base.keep b o z n hb (noA b)) (nin b o z hb))
 ·obtain ⟨sl,e1⟩:=I.base.slot b o z n hb (noA b)
  obtain ⟨o2,ho2,hd2⟩:=(I.ok.funs.mem hb).2
  have z2:s₀.heap.get? b=some o2:=ho2
  rw [z] at z2
  cases z2
  obtain ⟨sl',e2⟩:=x4 b _ e1 hd2
  exact ⟨sl',e2⟩
 ·by_cases hb:b ∈ frs outer
  ·obtain ⟨sl,e1⟩:=I.base.slot b o z (I.ok.frf b hb) hb (noA b)
   obtain ⟨o2,ho2,hd2⟩:=(I.ok.funs.mem hb).2
   have z2:s₀.heap.get? b=some o2:=ho2
   rw [z] at z2
   cases z2
   obtain ⟨sl',e2⟩:=x4 b _ e1 hd2
   exact ⟨_,e2⟩
  ·obtain ⟨o1,e1⟩:=I.base.there b o z (noA b)
   exact ⟨o1,x1.1 b o1 (st b o1 e1 (nin b o z hb))⟩
 ·exact Bc8 I.hok c1 (λb o z=>PySem.W.of_hideAll _ z) x1.1
 ·obtain ⟨o1,e1⟩:=I.base.there b o z (noA b)
  refine ⟨o1,st b o1 e1 (nin b o z hb),λn=>?_⟩
  have e2:=I.base.keep b o z n hb (noA b)
  rw [e1] at e2
  exact Option.some.inj e2
theorem Al6:Cl9 (cxR P w K mg base N qual scope f cd A outer s₀ H₀ E) E:=by
 intro pins σ H s e C vs h' I M q
 obtain ⟨t,he,_,_⟩:=M.there
 refine Bv9 (t:=t) (od:=none) (I.kept (t':=s.toks) M.keeps) he ?_ ?_ q
 ·cases z:s₀.heap.get? e with
  | none=>rfl
  | some o =>
   obtain ⟨o1,e1⟩:=I.base.there e o z (λy=>absurd (show e ∈ ([]:List Addr) from y) (by simp))
   rw [M.new] at e1
   cases e1
 ·cases z:H e with
  | none=>rfl
  | some u =>
   obtain ⟨ob,zb⟩:=(I.hok e u z).is
   rw [M.new] at zb
   cases zb
theorem Ah8:An1 (CXr P w) (cxR P w K mg base N qual scope f cd A outer s₀ H₀ E) E:=by
 intro pins σ H s x s' I hx
 obtain ⟨e,C,a0,H',B,rfl,os,bare,un,hok,fl,c1,c2,od,hdc,q⟩:=hx
 have noA:∀ b:Addr,b ∉ (cxR P w K mg base N qual scope f cd A outer s₀ H₀ E).ex:=λb z=>absurd (show b ∈ ([]:List Addr) from z) (by simp)
 have lt0:∀ b o,s₀.heap.get? b=some o->b≠(cxR P w K mg base N qual scope f cd A outer s₀ H₀ E).env.locals:=λb o z=>Nat.ne_of_lt (Nat.lt_of_lt_of_le (Heap.lt_size z) I.ok.above)
 have nin:∀ b,b ∉ frs outer->b≠(cxR P w K mg base N qual scope f cd A outer s₀ H₀ E).env.locals->b ∉ frs (cxR P w K mg base N qual scope f cd A outer s₀ H₀ E).stack:=λb h1 h2 z=>by
  rcases List.mem_cons.mp (I.stkSub b z) with z | z
  ·exact h2 z
  ·exact h1 z
 have J:Inv (cxR P w K mg base N qual scope f cd A outer s₀ H₀ E) pins σ H' s':=I.call' os un hok bare (ch:=[]) (λb z=>absurd z (by simp))
 show wpAny (model P w) (A.deeper (envOfC qual scope s₀.heap.objs.size f cd)) (leaving (envOfC qual scope s₀.heap.objs.size f cd) (.ref e)) _ _ _
 refine Ct3 (L:=s₀.heap.objs.size) I.ok.frames rfl fl hdc λh'' fl' sm hdc2=>?_
 refine ⟨e,C,a0,H',B,rfl,os.trans I.os,bare,⟨λb o z n hb _=>?_,λb o z n hb _=>?_,λb o z n _=>J.base.free b o z n (noA b),λb o z _=>?_,J.base.tups,J.base.frzs,J.base.tbls⟩,Bc8 hok c1 fl.1 fl'.1,fl',c1,λb o z hb=>?_,od,hdc2,q⟩
 ·obtain ⟨o',z1,z2⟩:=c2 b o (I.base.keep b o z n hb (noA b)) (nin b hb (lt0 b o z))
  rw [z2 (I.base.free b o z n (noA b))] at z1
  exact fl'.1 b o z1
 ·obtain ⟨sl,e1⟩:=J.base.slot b o z n hb (noA b)
  obtain ⟨o2,ho2,hd2⟩:=(I.ok.funs.mem hb).2
  have z2:s₀.heap.get? b=some o2:=ho2
  rw [z] at z2
  cases z2
  obtain ⟨sl',e2⟩:=sm b _ e1 hd2
  exact ⟨sl',e2⟩
 ·by_cases hb:b ∈ frs outer
  ·obtain ⟨sl,e1⟩:=J.base.slot b o z (I.ok.frf b hb) hb (noA b)
   obtain ⟨o2,ho2,hd2⟩:=(I.ok.funs.mem hb).2
   have z2:s₀.heap.get? b=some o2:=ho2
   rw [z] at z2
   cases z2
   obtain ⟨sl',e2⟩:=sm b _ e1 hd2
   exact ⟨_,e2⟩
  ·obtain ⟨o1,e1⟩:=I.base.there b o z (noA b)
   obtain ⟨o',z1,_⟩:=c2 b o1 e1 (nin b hb (lt0 b o z))
   exact ⟨o',fl'.1 b o' z1⟩
 ·obtain ⟨o1,e1⟩:=I.base.there b o z (noA b)
  obtain ⟨o',z1,z2⟩:=c2 b o1 e1 (nin b hb (lt0 b o z))
  refine ⟨o',z1,λn=>?_⟩
  rw [z2 (I.base.free b o z n (noA b))]
  have e2:=I.base.keep b o z n hb (noA b)
  rw [e1] at e2
  exact Option.some.inj e2
theorem Fun.okR {x:Str} {st:Stmt} {fd:FuncData} {ps:List Str} {k:Nat} {sp:Sp} (F:Fun K x qual st f fd) (S:Ab5 N ps (Aa1 st)) (len:∀ vs H Q E,sp vs H Q E->vs.length=ps.length)
  (hbody:∀ (cdv:Value) (A:Around) (outer:List Env) (s:Shared) (H:Hp) (vs:List V) (Q:VK) (E:XK),Room k (A.deeper (envOfC qual (Aa1 st) s.heap.objs.size f cdv))->sp vs H Q E ->
   ∃ t,PSs (cxR P w K mg base N qual (Aa1 st) f cdv A outer s H E) (Aa9 st) t/\t { nx:=λ_ H'=>Q .non H',rt:=Q } (Aw7 N vs) H):FnOk P w K mg base (CXr P w) (k+1) f fd ps sp:=by
 obtain ⟨oc,od,kV,doc,pm,an,cdv,ct,osl,rfl,lk,hcd⟩:=F.ex
 exact Da1 lk hcd S len λA outer s H vs Q E hr hsp=>hbody cdv A outer s H vs Q E hr hsp
end
section
variable {X : Cx} {x : Str} {C : Addr} {E : XK} {e₀ : Expr} {rest : List Expr} {t : TA} {np cpos pos : Pos}
def Cu5 (C:Addr) (E:XK) (t:TA):TS:=λ_ σ H=>t σ H λvs H1=>vs.length<=sizeLine/\E (.ref C) none H1
theorem Aj6 (hK:excIn X.K C=true) (hm:X.mg x=some (.ref C)) (hR:Cl9 X E) (hA:X.calm=true) (ha:PA X (e₀::rest) t) (hg:Gl X x:=by rfl) (hd:(x == ("__debug__":Str))=false:=by decide)
  (he:starEach (e₀::rest) X.env=(false,eval e₀ X.env)::starEach rest X.env:=by rfl) (hpl:(backTo cpos (starEach rest X.env)).any (·.1)=false:=by rfl) :
  PS X (.Raise (some (.Call (.Name x np) (e₀::rest) [] cpos)) none pos) (Cu5 C E t):=by
 intro pins s σ H D I h
 obtain ⟨bm,N,nm,q,bs,hdct,sn,sub,ab,col,dd,k0,k1,k2,k3,k5,mN,hni,hK⟩:=Bz2 I.kIn hK
 obtain ⟨_,_,T₀⟩:=hK _ I.kIn
 refine wpAny_Raise_call_subT (C:=C) (nm:=nm) (q:=q) (N:=N) (bs:=bs) (bm:=bm) (hdct:=hdct) (sn:=sn) (sub:=sub) (ab:=ab) (col:=col) (dd:=dd) (k0:=k0) (k1:=k1) (k2:=k2) (k3:=k3) (k5:=k5)
  PySem.F.excBase_ValueError (mN:=mN) (T₀.hasType PySem.F.excBase_ValueError.hasBase) (I.ok.hd hA) (by rw [he]; show (false || (backTo cpos (starEach rest X.env)).any (·.1))=false; rw [hpl]; rfl) hni (Am0 I hg hm ⟨rfl,?_⟩ hd)
 have h1:=ha cpos pins s σ H _ I h
 rw [he] at h1 ⊢
 refine Calls.evalArgs_plain (wpAny_mono h1 (λus s₂ h₂=>?_) λ_ _ y=>y)
 obtain ⟨vs,H1,I1,r,z,q⟩:=h₂
 obtain ⟨g1,g2,g3⟩:=hK _ I1.kIn
 exact ⟨rfl,by rw [<- r.length]; exact z,g1,g2,g3,λh' e M=>hR pins σ H1 s₂ e C us h' I1 M q⟩
end
end L2
end
section
namespace L2
open PySem PySem.Spec PyProof.Rows
def xob (e:Addr) (C:Value) (od:Option Addr):HO:=.ext λh=>∃ oe,h.get? e=some oe/\oe.cls=C/\oe.dict=od/\PySem.W.notCls oe=true
section
variable {X : Cx} {pins : List (Addr × Obj)} {σ : St} {H H' : Hp} {s s' : Shared} {e : Addr} {C a0 : Value} {B h : Heap}
theorem Inv.flown {tk:Nat} {od:Option Addr} (I:Inv X pins σ H s) (os:s'.os=s.os) (bare:AllBare s'.gens) (un:Un (frs X.stack) [] H H' s.heap s'.heap) (hok:HOk X.prog X.w H' s'.heap) (fl:Heap.FlyingW B X.stack e C a0 s'.heap)
  (c1:∀ b u,H' b=some u->∃ o,B.get? b=some o) (c2:∀ b o,s.heap.get? b=some o->b ∉ frs X.stack->∃ o',B.get? b=some o'/\(H b=none->o'=o))
  (fl':Heap.FlyingW B X.stack e C a0 h) (sm:s'.heap.UpToSlots h) (hdc:Dc h e od):H' e=none/\Inv X pins σ (upd H' e (xob e C od)) { s' with heap:=h,toks:=tk }:=by
 have he:H' e=none:=by
  cases q:H' e with
  | none=>rfl
  | some u =>
   obtain ⟨o,z⟩:=c1 e u q
   rw [fl.2.1] at z
   cases z
 obtain ⟨oe,ws,hoe,hoec,hoed,_⟩:=fl'.first
 have ne:∀ b o,s.heap.get? b=some o->b≠e:=λb o z q=>by
  subst q
  by_cases hb:b ∈ frs X.stack
  ·obtain ⟨_,o2,ho2,hd2⟩:=fl'.2.2.1.mem hb
   rw [hoe] at ho2
   cases ho2
   exact hd2 _ hoed
  ·obtain ⟨o',z1,_⟩:=c2 b o z hb
   rw [fl.2.1] at z1
   cases z1
 have ne':∀ b u,H' b=some u->b≠e:=λb u z q=>by
  subst q
  rw [he] at z
  cases z
 refine ⟨he,?_⟩
 refine I.call' (s':={ s' with heap:=h,toks:=tk }) (H':=upd H' e (xob e C od)) (ch:=[]) os ⟨λb o z n hb _=>?_,λb o z n hb _=>?_,λb o z n _=>?_,λb o z _=>?_,λb xs z=>?_,λb o u z=>?_,λb ps z=>?_⟩ (λa u q=>?_) bare (λb z=>absurd z (by simp))
 ·obtain ⟨o',z1,z2⟩:=c2 b o z hb
  rw [z2 n] at z1
  exact fl'.1 b o z1
 ·obtain ⟨sl,e1⟩:=un.slot b o z n hb (by simp)
  obtain ⟨_,o2,ho2,hd2⟩:=fl.2.2.1.mem hb
  rw [e1] at ho2
  cases ho2
  obtain ⟨sl',e2⟩:=sm b _ e1 hd2
  exact ⟨sl',e2⟩
 ·rw [Aa7 (ne b o z)]
  exact un.free b o z n (by simp)
 ·by_cases hb:b ∈ frs X.stack
  ·obtain ⟨_,o2,ho2,_⟩:=fl'.2.2.1.mem hb
   exact ⟨o2,ho2⟩
  ·obtain ⟨o',z1,_⟩:=c2 b o z hb
   exact ⟨o',fl'.1 b o' z1⟩
 ·have z1:=un.tups b xs z
  rw [Aa7 (ne' b _ z1)]
  exact z1
 ·have z1:=un.frzs b o u z
  rw [Aa7 (ne' b _ z1)]
  exact z1
 ·obtain ⟨more,z1⟩:=un.tbls b ps z
  exact ⟨more,by rw [Aa7 (ne' b _ z1)]; exact z1⟩
 ·by_cases ha:a=e
  ·subst ha
   rw [upd_same] at q
   cases q
   obtain ⟨o3,ho3,hd3⟩:=hdc
   rw [hoe] at ho3
   cases ho3
   exact ⟨⟨oe,hoe,hoec,hd3,by unfold PySem.W.notCls; rw [hoed]⟩,⟨oe,hoe⟩,λh1 h2 ⟨o1,g1,g2⟩ k=>⟨o1,k o1 g1,g2⟩⟩
  ·rw [Aa7 ha] at q
   refine (hok a u q).stay (λb v hb z=>?_) (λb z=>by rw [Aa7 (ne' b _ z)]; exact z) λb xs z=>by rw [Aa7 (ne' b _ z)]; exact z
   obtain ⟨o,z0⟩:∃ o,B.get? b=some o:=by
    rcases hb with rfl | hb
    ·exact c1 _ _ q
    ·exact c1 _ _ hb
   have z1:=fl.1 b o z0
   rw [z] at z1
   cases z1
   exact fl'.1 b _ z0
end
abbrev Cx.hand (X:Cx) (e:Addr):Cx:={ X with A:=X.A.mark (some (.ref e)),calm:=false,xe:=λ_ _=>False }
theorem Cx.Ok.hand {X:Cx} (ok:X.Ok) (e:Addr):(X.hand e).Ok :=
 ⟨ok.mod,ok.kind,ok.glob,ok.blt,ok.above,ok.inj,ok.has,ok.cab,(λz=>nomatch z),ok.frames,ok.stk,ok.exf,ok.bs,ok.bsz,ok.noex,ok.exfs,ok.funs,ok.frf⟩
section
variable {X : Cx} {pins : List (Addr × Obj)} {σ : St} {H : Hp} {s : Shared} {e : Addr}
theorem Inv.hand (I:Inv X pins σ H s) (e:Addr):Inv (X.hand e) pins σ H s:=⟨I.ok.hand e,I.os,I.bare,I.base,I.loc,I.cell,I.free,I.freeC,I.pin,I.hok,I.len⟩
theorem Inv.unhand (ok:X.Ok) (I:Inv (X.hand e) pins σ H s):Inv X pins σ H s:=⟨ok,I.os,I.bare,I.base,I.loc,I.cell,I.free,I.freeC,I.pin,I.hok,I.len⟩
theorem Bs1 {M:Model} {A:Around} {E:Value->Shared->Prop} {i:Nat} {x:Str} {v:V} {Q:Unit->Shared->Prop} (I:Inv X pins σ H s) (hN:X.N.Nodup) (hi:X.N[i]?=some x) (hk:X.env.scope.names.lookup x=some .local) (hv:σ[i]?=some (some v))
  (h:∀ s',Inv X pins (σ.set i none) H s'->Q () s'):wpAny M A (unbindName X.env x) Q E s:=by
 obtain ⟨m,hn,hl⟩:=id I.loc
 have hcls:(X.env.scope.kind == .class || (X.env.scope.kind == .module && X.env.locals != X.env.globals))=false:=by rw [I.ok.kind]; rfl
 have hiσ:i<σ.length:=by rw [I.len]; exact (List.getElem?_eq_some_iff.mp hi).1
 have cne:=I.cne
 obtain ⟨u,_,l⟩:=hl i x v hi hv (.inl hk)
 have hm:m x=some u:=by
  rcases l with ⟨_,z⟩ | ⟨z,_⟩
  ·exact z
  ·have z':X.env.scope.names.lookup x=some .cell\/X.env.scope.names.lookup x=some .free:=z
   rw [hk] at z'
   rcases z' with z' | z' <;> cases z'
 have tracked:∀ {a:Addr} {h':Heap},(∃ o,s.heap.get? a=some o/\H a=none)->Heap.SameBut a s.heap h'->HOk X.prog X.w H h':=λ{a h'} ha hs b ob e=>by
  obtain ⟨_,_,hfree⟩:=ha
  refine (I.hok b ob e).stay (λc w' hc q=>(hs.2 c ?_).trans q) (λ_ q=>q) λ_ _ q=>q
  rintro rfl
  rcases hc with rfl | hc
  ·rw [hfree] at e; cases e
  ·rw [hfree] at hc; cases hc
 refine wpAny_unbindName_local hk hn hm hcls λh' u' hn' hs=>?_
 obtain ⟨oL,_,_,hoL,_⟩:=id hn
 refine h _ ⟨I.ok,I.os,I.bare,⟨λb o e n hb hx=>?_,λb o e n hb hx=>?_,I.base.free,λb o e hx=>?_,I.base.tups,I.base.frzs,I.base.tbls⟩,⟨_,hn',λj y v' e1 e2 e3=>?_⟩,λy c e=>?_,I.free,I.freeC,λp hp=>?_,tracked ⟨oL,hoL,I.free⟩ hs,by simpa using I.len⟩
 ·exact (hs.2 b (Nat.ne_of_lt (Nat.lt_of_lt_of_le (Heap.lt_size e) I.ok.above))).trans (I.base.keep b o e n hb hx)
 ·obtain ⟨sl,e1⟩:=I.base.slot b o e n hb hx
  exact ⟨sl,(hs.2 b (Nat.ne_of_lt (Nat.lt_of_lt_of_le (Heap.lt_size e) I.ok.above))).trans e1⟩
 ·obtain ⟨o',e1⟩:=I.base.there b o e hx
  exact ⟨o',(hs.2 b (Nat.ne_of_lt (Nat.lt_of_lt_of_le (Heap.lt_size e) I.ok.above))).trans e1⟩
 ·by_cases hj:j=i
  ·subst hj
   rw [List.getElem?_set_self hiσ] at e2
   cases e2
  ·rw [List.getElem?_set_ne (Ne.symm hj)] at e2
   obtain ⟨u',r',q⟩:=hl j y v' e1 e2 e3
   refine ⟨u',r',?_⟩
   rcases q with ⟨k,e⟩ | ⟨k,c,e,z⟩
   ·refine .inl ⟨k,?_⟩
    have:y≠x:=λe=>hj (Az0 hN e1 (e ▸ hi))
    simp [this,e]
   ·exact .inr ⟨k,c,e,z.sameBut hs (cne y c e)⟩
 ·obtain ⟨w',z⟩:=I.cell y c e
  exact ⟨w',z.sameBut hs (cne y c e)⟩
 ·obtain ⟨e,n,ne,nf,d⟩:=I.pin p hp
  exact ⟨(hs.2 p.1 ne).trans e,n,ne,nf,d⟩
end
def XE (X:Cx) (pins:List (Addr×Obj)) (σ:St) (E:XK) (x:Value) (s':Shared):Prop:=∃ H1 s1,Inv X pins σ H1 s1/\CXr X.prog X.w X.stack H1 s1 E x s'
def XP (X:Cx) (pins:List (Addr×Obj)) (E:St->XK) (x:Value) (s':Shared):Prop:=∃ σ',XE X pins σ' (E σ') x s'
abbrev TSX:=Ends->(St->XK)->St->Hp->Prop
abbrev TEX:=St->Hp->VK->XK->Prop
def PSX (X:Cx) (sts:List Stmt) (t:TSX):Prop :=
 ∀ (pins:List (Addr×Obj)) (s:Shared) (σ:St) (H:Hp) (D:Ends) (E:St->XK),Inv X pins σ H s->t D E σ H->wpAny (model X.prog X.w) X.A (execs sts X.env) (SP X pins D) (XP X pins E) s
def PEX (X:Cx) (e:Expr) (t:TEX):Prop :=
 ∀ (pins:List (Addr×Obj)) (s:Shared) (σ:St) (H:Hp) (Q:VK) (E:XK),Inv X pins σ H s->t σ H Q E->wpAny (model X.prog X.w) X.A (eval e X.env) (EP X pins σ Q) (XE X pins σ E) s
section
variable {X : Cx} {e : Expr} {te : TEX} {pos : Pos} {a b : List Stmt} {t u : TSX}
end
section
variable {X : Cx} {k : Nat} {f C : Addr} {fd : FuncData} {ps : List Str} {sp : Sp} {dvs : List V} {ds : List Value} {x m : Str} {p pos apos : Pos} {e o : Expr} {es : List Expr} {ta : TE} {t : TA}
theorem Bv6 {pins:List (Addr×Obj)} {σ:St} {H:Hp} {s:Shared} {Q:VK} {E:XK} {us:List Value} {vs:List V} (F:FnOk X.prog X.w X.K X.mg X.base (CXr X.prog X.w) k f fd ps sp) (hr:Room k X.A) (hb:Binds X.K fd ps ds) (hd:Vals dvs ds)
  (I:Inv X pins σ H s) (r:Vals vs us) (h:sp (vs++dvs) H Q E):wpAny (model X.prog X.w) X.A (call (.ref f) us) (EP X pins σ Q) (XE X pins σ E) s:=by
 have r2:Vals (vs++dvs) (us++ds):=r.append hd
 have hl:(us++ds).length=ps.length:=by rw [<- r2.length]; exact F.len _ _ _ _ h
 refine wpAny_call (codeAny_mono (F.run X.A X.stack s H ⟨us,[]⟩ (us++ds) (vs++dvs) Q E hr I.env0 (hb s us I.kIn hl) r2 h) λr s' hq=>?_)
 cases r with
 | error e=>exact ⟨H,s,I,hq⟩
 | ok fl =>
  cases fl with
  | ret u=>exact I.after hq
  | next=>exact False.elim hq
  | brk=>exact False.elim hq
  | cont=>exact False.elim hq
def Cv4 (sp:Sp) (dvs:List V) (t:TA):TEX:=λσ H Q E=>t σ H λvs H1=>sp (vs++dvs) H1 Q E
theorem Ce6 (F:FnOk X.prog X.w X.K X.mg X.base (CXr X.prog X.w) k f fd ps sp) (hr:Room k X.A) (hg:Gl X x) (hm:X.mg x=some (.ref f)) (hk:PySem.W.keepIn X.K (.ref f)=true) (hb:Binds X.K fd ps ds) (hd:Vals dvs ds)
  (ha:PA X.nox (e::es) t) (hdb:(x == ("__debug__":Str))=false:=by decide) (he:starEach (e::es) X.env=(false,eval e X.env)::starEach es X.env:=by rfl) (hpl:(backTo pos (starEach es X.env)).any (·.1)=false:=by rfl) :
  PEX X (.Call (.Name x p) (e::es) [] pos) (Cv4 sp dvs t):=by
 intro pins s σ H Q E I h
 refine wpAny_Call_Name_kw (Am0 I hg hm ?_ hdb)
 refine PySem.W.callWith_K (h₀:=X.base) I.ok.mod.kin hk (wpAny_mono (ha pos pins s σ H _ (I.wish _) h) (λus s1 q=>?_) λ_ _ z=>z.elim) he hpl
 obtain ⟨vs,H1,I1,r,q⟩:=q
 exact ⟨I1.kIn,Bv6 F hr hb hd I1.unwish r q⟩
def Cu7 (C:Addr) (m:Str) (sp:Sp) (dvs:List V) (ta:TE) (t:TA):TEX:=λσ H Q E=>ta σ H λx H1=>∃ a dx fs,x=.ref a/\H1 a=some (.ins C dx fs)/\fs.lookup m=none /\
 t σ H1 λvs H2=>sp (x::(vs++dvs)) H2 Q E
theorem Ce5 {pl:Sem Bool} (he:PE X.nox o ta) (c:Cls X.K C) (hm:Meth X.K C m f) (F:FnOk X.prog X.w X.K X.mg X.base (CXr X.prog X.w) k f fd ps sp) (hr:Room k X.A) (hb:Binds X.K fd ps ds) (hd:Vals dvs ds) (ha:PA X.nox (e::es) t)
  (hst:starEach (e::es) X.env=(false,eval e X.env)::starEach es X.env:=by rfl) (hpl:(backTo pos (starEach es X.env)).any (·.1)=false:=by rfl)
  (ht:eval (.Call (.Attribute o m apos) (e::es) [] pos) X.env=(do
   let ov <- eval o X.env
   standAt apos.atName
   let (f,first) <- holding [ov] (getMethod ov m pl)
   callWith pos f first (backTo pos (starEach (e::es) X.env)) (backToKw pos (keywordEach [] X.env))):=by rfl) :
  PEX X (.Call (.Attribute o m apos) (e::es) [] pos) (Cu7 C m sp dvs ta t):=by
 intro pins s σ H Q E I h
 refine PySem.W.methodCall_KW (pl:=pl) (wpAny_mono (he pins s σ H _ (I.wish _) h) (λu s1 q=>?_) λ_ _ z=>z.elim) ht
 obtain ⟨x,H1,I1,rx,a,dx,fs,ex,ea,l,q⟩:=q
 have I1:=I1.unwish
 subst ex
 obtain rfl:u=Value.ref a:=rx
 refine Aq2 I1 ea c hm l ?_
 refine PySem.W.callWith_K (first:=[.ref a]) (h₀:=X.base) I.ok.mod.kin hm.kp (wpAny_mono (ha pos pins s1 σ H1 _ (I1.wish _) q) (λus s2 q=>?_) λ_ _ z=>z.elim) hst hpl
 obtain ⟨vs,H2,I2,r,q2⟩:=q
 exact ⟨I2.kIn,Bv6 (us:=.ref a::us) (vs:=.ref a::vs) F hr hb hd I2.unwish (.cons rfl r) q2⟩
end
section
variable {X : Cx} {x n : Str} {HC : Addr} {i : Nat} {body suite : List Stmt} {b₀ : Stmt} {tb : TSX} {ts : TS} {np hpos pos : Pos}
def tTry (K:PySem.W.Frag) (HC:Addr) (i:Nat) (tb:TSX) (ts:TS):TS:=λD σ H=>tb D (λσ' C od H1=>PySem.W.exmOne K C (.ref HC)=some true /\
 ∀ e,H1 e=none->ts { nx:=λσ2 H2=>D.nx (σ2.set i none) H2,rt:=D.rt,bk:=λσ2 H2=>D.bk (σ2.set i none) H2,ct:=λσ2 H2=>D.ct (σ2.set i none) H2 } (σ'.set i (some (.ref e))) (upd H1 e (xob e C od))) σ H
theorem Ck6 (hN:X.N.Nodup) (hi:X.N[i]?=some n) (hn:X.env.scope.names.lookup n=some .local) (hst:X.stack=X.env::X.outer) (hf:X.env.frame=some X.env.locals) (hm:X.mg x=some (.ref HC)) (hb:PSX X body tb)
  (hs:∀ e,PSs (X.hand e) (b₀::suite) ts) (hg:Gl X x:=by rfl) (hd:(x == ("__debug__":Str))=false:=by decide) :
  PS X (.Try body [.ExceptHandler (some (.Name x np)) (some n) (b₀::suite) hpos] [] [] pos) (tTry X.K HC i tb ts):=by
 intro pins s σ H D I h
 have hfr:X.A.frames=some (X.env::X.outer):=by rw [<- hst]; exact I.ok.frames
 refine wpAny_Try_except (wpAny_mono (hb pins s σ H D _ I h) (λf s1 q=>?_) λxv s1 hx=>?_)
 ·cases f with
  | next=>exact wpAny_execs_nil q
  | ret v=>exact q
  | brk=>exact q
  | cont=>exact q
 ·obtain ⟨σ',H1,s0,I1,e,C,a0,H',B,rfl,os,bare,un,hok,fl,c1,c2,od,hdc,hex,hq⟩:=hx
  have fl1:Heap.FlyingW B (X.env::X.outer) e C a0 s1.heap:=by rw [<- hst]; exact fl
  refine Cz3 hfr hf fl1 hdc λh₄ held₄ sm₄ dc₄=>?_
  refine Cl1 (s:={ s1 with heap:=h₄ }) held₄ dc₄ λh₅ fl₅ sm₅ dc₅=>?_
  have fl₅':Heap.FlyingW B X.stack e C a0 h₅:=by rw [hst]; exact fl₅
  obtain ⟨_,I₅⟩:=I1.flown (tk:=s1.toks) os bare un hok fl c1 c2 fl₅' (sm₄.trans sm₅) dc₅
  refine wpAny_handleBy_cons (codeAny_handlers_test ?_) (by intro q; cases q)
  refine Am0 (X:=X.hand e) (I₅.hand e) hg hm ?_ hd
  obtain ⟨ob,hob,hobc⟩:=fl₅.there
  have LT:PySem.W.Looks (model X.prog X.w) h₅ (typeOf (.ref e)) C:=by
   subst hobc
   exact (PySem.W.Looks.ld hob).andThen .now
  refine (PySem.W.exm_one I₅.kIn LT hex).here ?_
  refine codeAny_handlers_suite_as ?_
  refine Db2 fl₅ dc₅ λh₆ fl₆ sm₆ dc₆=>?_
  have fl₆':Heap.FlyingW B X.stack e C a0 h₆:=by rw [hst]; exact fl₆
  obtain ⟨he,I₆⟩:=I1.flown (tk:=s1.toks) os bare un hok fl c1 c2 fl₆' ((sm₄.trans sm₅).trans sm₆) dc₆
  refine An8 (X:=X.hand e) (I₆.hand e) hN hi (.inl hn) (show RelV (.ref e) (.ref e) from rfl) (λs₇ I₇=>?_) (.inr hn)
  refine wpAny_mono (hs e pins s₇ _ _ _ I₇ (hq e he)) (λf s₈ q=>?_) λ_ _ z=>z.elim
  have back:∀ (f:Flow) (σ2:St) (H2:Hp) (s₈:Shared),Inv (X.hand e) pins σ2 H2 s₈->(∀ s10,Inv X pins (σ2.set i none) H2 s10->SP X pins D f s10) ->
    wpAny (model X.prog X.w) X.A (do bindName X.env n .none; unbindBehindTheSuite X.env n hpos) (λ_ s₃=>SP X pins D f s₃) X.xe s₈:=λf σ2 H2 s₈ I2 k=>by
   have I2:=I2.unhand I.ok
   refine wpAny_bind (wpAny_bindName (An8 I2 hN hi (.inl hn) (show RelV .non .none from rfl) (λs9 I9=>?_) (.inr hn)))
   unfold unbindBehindTheSuite
   refine wpAny_onRaise (Bs1 (v:=.non) I9 hN hi hn ?_ λs10 I10=>?_)
   ·rw [List.getElem?_set_self (by rw [I2.len]; exact (List.getElem?_eq_some_iff.mp hi).1)]
   ·rw [List.set_set] at I10
    exact k s10 I10
  cases f with
  | next =>
   obtain ⟨σ2,H2,I2,q2⟩:=q
   exact back .next σ2 H2 s₈ I2 λs10 I10=>⟨_,_,I10,q2⟩
  | ret v =>
   obtain ⟨v',σ2,H2,I2,r2,q2⟩:=q
   exact back (.ret v) σ2 H2 s₈ I2 λs10 I10=>⟨v',_,_,I10,r2,q2⟩
  | brk =>
   obtain ⟨σ2,H2,I2,q2⟩:=q
   exact back .brk σ2 H2 s₈ I2 λs10 I10=>⟨_,_,I10,q2⟩
  | cont =>
   obtain ⟨σ2,H2,I2,q2⟩:=q
   exact back .cont σ2 H2 s₈ I2 λs10 I10=>⟨_,_,I10,q2⟩
end
structure Df4 (k:Nat) (A:Around):Prop where
 dp:A.depth+3 * k+5<recursionLimit
 un:A.units+16 * k+200<cLine
structure Df7 (P:Program) (w:World) (K:PySem.W.Frag) (mg:Str->Option Value) (base:Heap) (k:Nat) (f:Addr) (fd:FuncData) (ps:List Str) (sp:Sp):Prop where
 len:∀ vs H Q,sp vs H Q E0->vs.length=ps.length
 run:∀ (A:Around) (outer:List Env) (s:Shared) (H:Hp) (args:Args) (us:List Value) (vs:List V) (Q:VK),Df4 k A->Env0 P w K mg base A outer s H->BindsTo s fd args (ps.zip us)->Vals vs us->sp vs H Q E0 ->
  codeAny (model P w) A (.call (.ref f) args) (CR CX0 outer P w H s Q E0) s
section
variable {P : Program} {w : World} {K : PySem.W.Frag} {mg : Str → Option Value} {base : Heap} {N ps : List Str} {qual : Str} {f : Addr} {k : Nat} {sp : Sp}
end
section
variable {X : Cx} {k : Nat} {f : Addr} {fd : FuncData} {ps : List Str} {sp : Sp} {x : Str} {p pos : Pos} {e : Expr} {es : List Expr} {t : TA}
end
end L2
end
section
open PySem PySem.W PyProof.Rows PySem.Calls PySem.Spec
open Builtin Builtin.ObjectAttr Builtin.Getset_descriptor
namespace EX
section
variable {prog : Program} {w : World} {A : Around} {E : Value → Shared → Prop} {s : Shared} {K : Frag} {x C D : Addr}
theorem ty {M:Model} {h:Heap} {ox:Obj} (hx:h.get? x=some ox) (hc:ox.cls=.ref C):Looks M h (typeOf (.ref x)) (.ref C):=hc ▸ (Looks.ld hx).andThen .now
theorem check_ga {M:Model} {nameV:Value} {Q:Unit->Shared->Prop} (X:K.In s.heap) (L0:Looks M s.heap (typeOf (.ref x)) (.ref C)) (hm:mroIn K C (.type "BaseException")=some true) (hq:Q () s) :
  wpAny M A (checkBuiltinCall "BaseException.__getattribute__" ⟨[.ref x,nameV],[]⟩) Q E s:=by
 obtain ⟨hh,g,dr,t,os⟩:=s
 have L1:=looks_mroIn (M:=M) X hm
 have hk:builtinKind "BaseException.__getattribute__"=some .slot:=by decide +kernel
 have hsplit:splitId "BaseException.__getattribute__"=some ("BaseException","__getattribute__"):=by decide +kernel
 have ha:=F.args_bexc_ga (.ref x) nameV
 simp only [checkBuiltinCall,hk,hsplit]
 refine wpAny_bind ?_
 unfold isInstance
 repeat (first | lk | wp_step)
 exact hq
structure Cls (K:Frag) (D:Addr):Prop where
 ga:findIn K (.ref D) "__getattribute__"=some (some (.builtin "BaseException.__getattribute__"))
 noHook:findIn K (.ref D) "__getattr__"=some none
 kind:findIn K (.ref D) "__class__"=some (some (.builtin "object.__class__"))
 get:specialIn K (.builtin "object.__class__") "__get__"=some (some (.builtin "getset_descriptor.__get__"))
 takes:takesIn K (.builtin "object.__class__")=some true
 obj:mroIn K D (.type "object")=some true
 exc:mroIn K D (.type "BaseException")=some true
variable {ox : Obj} {Q : Value → Shared → Prop} {h₀ : Heap} {L : Addr} {news : List (Addr × Obj)} {T : String}
end
end EX
end
section
namespace L2
open PySem PySem.Spec PyProof.Rows PySem.SeqAt
inductive Th (H:Hp):V->Prop where
 | non:Th H .non
 | bl (b:Bool):Th H (.bl b)
 | int (i:Int):Th H (.int i)
 | str (x:Str):Th H (.str x)
 | lst {a:Addr} {xs:List V} (e:H a=some (.lst xs)):Th H (.ref a)
 | frz {a:Addr} {o:Obj} {xs:List V} (e:H a=some (.frz o (.lst xs))):Th H (.ref a)
 | tup {a:Addr} {xs:List V} (e:H a=some (.tup xs)):Th H (.ref a)
 | dic {a:Addr} {kvs:List (Key×V)} (e:H a=some (.dK kvs)):Th H (.ref a)
def isI:V->Bool
 | .int _=>true
 | _=>false
def isB:V->Bool
 | .bl _=>true
 | _=>false
section
variable {K : PySem.W.Frag}
theorem Bk1:PySem.W.kitOne K (.type "NoneType") (.type "int")=some false:=by kernel_rfl
theorem Br3:PySem.W.kitOne K (.type "bool") (.type "int")=some true:=by kernel_rfl
theorem Bk2:PySem.W.kitOne K (.type "int") (.type "int")=some true:=by kernel_rfl
theorem Bk0:PySem.W.kitOne K (.type "str") (.type "int")=some false:=by kernel_rfl
theorem Au6:PySem.W.kitOne K (.type "list") (.type "int")=some false:=by kernel_rfl
theorem Bj9:PySem.W.kitOne K (.type "tuple") (.type "int")=some false:=by kernel_rfl
theorem Bk3:PySem.W.kitOne K (.type "dict") (.type "int")=some false:=by kernel_rfl
theorem Bc3:PySem.W.kitOne K (.type "NoneType") (.type "bool")=some false:=by kernel_rfl
theorem Bk4:PySem.W.kitOne K (.type "bool") (.type "bool")=some true:=by kernel_rfl
theorem Bc4:PySem.W.kitOne K (.type "int") (.type "bool")=some false:=by kernel_rfl
theorem Bc2:PySem.W.kitOne K (.type "str") (.type "bool")=some false:=by kernel_rfl
theorem Ar2:PySem.W.kitOne K (.type "list") (.type "bool")=some false:=by kernel_rfl
theorem Bc1:PySem.W.kitOne K (.type "tuple") (.type "bool")=some false:=by kernel_rfl
theorem Bc5:PySem.W.kitOne K (.type "dict") (.type "bool")=some false:=by kernel_rfl
theorem Bi9:PySem.W.kitOne K (.type "tuple") (.type "tuple")=some true:=by kernel_rfl
theorem Au5:PySem.W.kitOne K (.type "list") (.type "list")=some true:=by kernel_rfl
theorem Bj6:PySem.W.kitOne K (.type "NoneType") (.type "list")=some false:=by kernel_rfl
theorem Br2:PySem.W.kitOne K (.type "bool") (.type "list")=some false:=by kernel_rfl
theorem Bj7:PySem.W.kitOne K (.type "int") (.type "list")=some false:=by kernel_rfl
theorem Bj5:PySem.W.kitOne K (.type "str") (.type "list")=some false:=by kernel_rfl
theorem Bj4:PySem.W.kitOne K (.type "tuple") (.type "list")=some false:=by kernel_rfl
theorem Bj8:PySem.W.kitOne K (.type "dict") (.type "list")=some false:=by kernel_rfl
end
section
variable {X : Cx}
theorem Aw1:Aq4 X (.builtin "isinstance") (λxs H Q=>∃ x,xs=[x,.ty "int"]/\Th H x/\Q (.bl (isI x || isB x)) H):=by
 intro pins s σ H xs us Q I r h
 obtain ⟨x,rfl,th,q⟩:=h
 obtain ⟨u,v,rfl,rx,rt⟩:=r.two
 obtain rfl:v=Value.type "int":=rt
 cases th with
 | non=>exact Ac6 I rx .non Bk1 λtk=>⟨.bl _,H,I.tok tk,rfl,q⟩
 | bl b=>exact Ac6 I rx (.bl b) Br3 λtk=>⟨.bl _,H,I.tok tk,rfl,q⟩
 | int i=>exact Ac6 I rx (.int i) Bk2 λtk=>⟨.bl _,H,I.tok tk,rfl,q⟩
 | str z=>exact Ac6 I rx (.str z) Bk0 λtk=>⟨.bl _,H,I.tok tk,rfl,q⟩
 | lst e=>exact Ac6 I rx (.lst e) Au6 λtk=>⟨.bl _,H,I.tok tk,rfl,q⟩
 | frz e=>exact Ac6 I rx (.frz e) Au6 λtk=>⟨.bl _,H,I.tok tk,rfl,q⟩
 | tup e=>exact Ac6 I rx (.tup e) Bj9 λtk=>⟨.bl _,H,I.tok tk,rfl,q⟩
 | dic e=>exact Ac6 I rx (.dK e) Bk3 λtk=>⟨.bl _,H,I.tok tk,rfl,q⟩
theorem Al1:Aq4 X (.builtin "isinstance") (λxs H Q=>∃ x,xs=[x,.ty "bool"]/\Th H x/\Q (.bl (isB x)) H):=by
 intro pins s σ H xs us Q I r h
 obtain ⟨x,rfl,th,q⟩:=h
 obtain ⟨u,v,rfl,rx,rt⟩:=r.two
 obtain rfl:v=Value.type "bool":=rt
 cases th with
 | non=>exact Ac6 I rx .non Bc3 λtk=>⟨.bl _,H,I.tok tk,rfl,q⟩
 | bl b=>exact Ac6 I rx (.bl b) Bk4 λtk=>⟨.bl _,H,I.tok tk,rfl,q⟩
 | int i=>exact Ac6 I rx (.int i) Bc4 λtk=>⟨.bl _,H,I.tok tk,rfl,q⟩
 | str z=>exact Ac6 I rx (.str z) Bc2 λtk=>⟨.bl _,H,I.tok tk,rfl,q⟩
 | lst e=>exact Ac6 I rx (.lst e) Ar2 λtk=>⟨.bl _,H,I.tok tk,rfl,q⟩
 | frz e=>exact Ac6 I rx (.frz e) Ar2 λtk=>⟨.bl _,H,I.tok tk,rfl,q⟩
 | tup e=>exact Ac6 I rx (.tup e) Bc1 λtk=>⟨.bl _,H,I.tok tk,rfl,q⟩
 | dic e=>exact Ac6 I rx (.dK e) Bc5 λtk=>⟨.bl _,H,I.tok tk,rfl,q⟩
def Ar3 (H:Hp):V->Bool
 | .ref a=>match H a with | some (.lst _)=>true | some (.frz _ (.lst _))=>true | _=>false
 | _=>false
theorem Ah2:Aq4 X (.builtin "isinstance") (λxs H Q=>∃ x,xs=[x,.ty "list"]/\Th H x/\Q (.bl (Ar3 H x)) H):=by
 intro pins s σ H xs us Q I r h
 obtain ⟨x,rfl,th,q⟩:=h
 obtain ⟨u,v,rfl,rx,rt⟩:=r.two
 obtain rfl:v=Value.type "list":=rt
 cases th with
 | non=>exact Ac6 I rx .non Bj6 λtk=>⟨.bl _,H,I.tok tk,rfl,q⟩
 | bl b=>exact Ac6 I rx (.bl b) Br2 λtk=>⟨.bl _,H,I.tok tk,rfl,q⟩
 | int i=>exact Ac6 I rx (.int i) Bj7 λtk=>⟨.bl _,H,I.tok tk,rfl,q⟩
 | str z=>exact Ac6 I rx (.str z) Bj5 λtk=>⟨.bl _,H,I.tok tk,rfl,q⟩
 | lst e=>exact Ac6 I rx (.lst e) Au5 λtk=>⟨.bl _,H,I.tok tk,rfl,by simp only [Ar3,e] at q; exact q⟩
 | frz e=>exact Ac6 I rx (.frz e) Au5 λtk=>⟨.bl _,H,I.tok tk,rfl,by simp only [Ar3,e] at q; exact q⟩
 | tup e=>exact Ac6 I rx (.tup e) Bj4 λtk=>⟨.bl _,H,I.tok tk,rfl,by simp only [Ar3,e] at q; exact q⟩
 | dic e=>exact Ac6 I rx (.dK e) Bj8 λtk=>⟨.bl _,H,I.tok tk,rfl,by simp only [Ar3,e] at q; exact q⟩
end
mutual
inductive DatR (K:PySem.W.Frag) (H:Hp):V->PyData->Prop
 | non:DatR K H .non .none
 | bl (b:Bool):DatR K H (.bl b) (.bool b)
 | int (i:Int):DatR K H (.int i) (.int i)
 | str (x:Str):DatR K H (.str x) (.str x)
 | lst {a:Addr} {xs:List V} {ds:List PyData}:SqL K H a xs->DatsR K H xs ds->DatR K H (.ref a) (.list ds)
 | tup {a:Addr} {xs:List V} {ds:List PyData}:SqT K H a xs->DatsR K H xs ds->DatR K H (.ref a) (.tuple ds)
inductive DatsR (K:PySem.W.Frag) (H:Hp):List V->List PyData->Prop
 | nil:DatsR K H [] []
 | cons {x:V} {d:PyData} {xs:List V} {ds:List PyData}:DatR K H x d->DatsR K H xs ds->DatsR K H (x::xs) (d::ds)
end
section
variable {X : Cx} {pins : List (Addr × Obj)} {σ : St} {H : Hp} {s : Shared}
mutual
theorem DatR.reads (I:Inv X pins σ H s):∀ {v:V} {d:PyData} {u:Value},DatR X.K H v d->RelV v u->∃ as,Reads s.heap u d as
 | _,_,_,.non,r=>⟨[],by cases (show _=Value.none from r); exact .none⟩
 | _,_,_,.bl b,r=>⟨[],by cases (show _=Value.bool b from r); exact .bool b⟩
 | _,_,_,.int i,r=>⟨[],by obtain ⟨t,rfl⟩:=r; exact .int i t⟩
 | _,_,_,.str x,r=>⟨[],by obtain ⟨t,rfl⟩:=r; exact .str x t⟩
 | _,_,_,.lst (a:=a) sq ds,r=>by
  cases (show _=Value.ref a from r)
  obtain ⟨its,rv,⟨o,n,e,hc,_,hd⟩,_⟩:=I.list sq
  obtain ⟨as,ra⟩:=DatsR.reads I ds rv
  exact ⟨_,.list e hc hd (by simpa using ra)⟩
 | _,_,_,.tup (a:=a) sq ds,r=>by
  cases (show _=Value.ref a from r)
  obtain ⟨its,rv,⟨o,e,hc,n,hd⟩,_⟩:=I.tuple sq
  obtain ⟨as,ra⟩:=DatsR.reads I ds rv
  exact ⟨_,.tuple e hc hd (by simpa using ra)⟩
theorem DatsR.reads (I:Inv X pins σ H s):∀ {vs:List V} {ds:List PyData} {us:List Value},DatsR X.K H vs ds->Vals vs us->∃ as,ReadsAll s.heap us ds as
 | _,_,_,.nil,.nil=>⟨[],.nil⟩
 | _,_,_,.cons d ds,.cons r rs=>by
  obtain ⟨as,ra⟩:=DatR.reads I d r
  obtain ⟨bs,rb⟩:=DatsR.reads I ds rs
  exact ⟨_,.cons ra rb⟩
end
end
section
variable {X : Cx}
def rEqD (K:PySem.W.Frag):R2:=λx y H Q=>∃ da db,DatR K H x da/\DatR K H y db/\shaped da=true/\shaped db=true/\Q (.bl (PyData.eqv da db)) H
def rNeD (K:PySem.W.Frag):R2:=λx y H Q=>∃ da db,DatR K H x da/\DatR K H y db/\shaped da=true/\shaped db=true/\Q (.bl (!PyData.eqv da db)) H
theorem Bm5 (hu:X.A.units+64<cLine):OpR X (compareOp .Eq) (rEqD X.K):=by
 intro pins s σ H x y v u Q I rx ry h
 obtain ⟨da,db,ra,rb,ha,hb,q⟩:=h
 obtain ⟨as,r1⟩:=ra.reads I rx
 obtain ⟨bs,r2⟩:=rb.reads I ry
 exact eq_dataH r1 r2 ha hb hu ⟨.bl _,H,I,rfl,q⟩
theorem Ck8 (hu:X.A.units+64<cLine):OpR X (compareOp .NotEq) (rNeD X.K):=by
 intro pins s σ H x y v u Q I rx ry h
 obtain ⟨da,db,ra,rb,ha,hb,q⟩:=h
 obtain ⟨as,r1⟩:=ra.reads I rx
 obtain ⟨bs,r2⟩:=rb.reads I ry
 exact ne_dataH r1 r2 ha hb hu ⟨.bl _,H,I,rfl,q⟩
end
end L2
end
section
namespace L2
open PySem PySem.Spec PyProof.Rows
def Ar5 (x:Str) (N:List Str):List Str:=x::N.map λy=>if y=x then ("":Str) else y
def CapOk (X:Cx) (x:Str) (cl:List (Str×Addr)):List (Str×NameKind)->Prop
 | []=>True
 | (n,k)::r=>(((n=x\/n = ".0")/\k=.local)\/(k≠.local/\k≠.cell/\k≠.free)\/(k=.cell/\n≠x/\n≠""/\X.env.scope.names.lookup n=some .cell/\cl.lookup n=X.env.cells.lookup n))/\CapOk X x cl r
def ClOk (X:Cx):List (Str×Addr)->Prop
 | []=>True
 | (n,c)::r=>X.env.cells.lookup n=some c/\ClOk X r
theorem CapOk.at {X:Cx} {x:Str} {cl:List (Str×Addr)} {y:Str} {k:NameKind}:∀ {l:List (Str×NameKind)},CapOk X x cl l->l.lookup y=some k ->
  ((y=x\/y = ".0")/\k=.local)\/(k≠.local/\k≠.cell/\k≠.free)\/(k=.cell/\y≠x/\y≠""/\X.env.scope.names.lookup y=some .cell/\cl.lookup y=X.env.cells.lookup y)
 | [],_,h=>by simp at h
 | (n,k')::r,⟨h1,h2⟩,h=>by
  rw [List.lookup_cons] at h
  split at h
  ·rename_i e
   cases h
   rw [beq_iff_eq.mp e]
   exact h1
  ·exact CapOk.at h2 h
theorem ClOk.at {X:Cx} {y:Str} {c:Addr}:∀ {l:List (Str×Addr)},ClOk X l->l.lookup y=some c->X.env.cells.lookup y=some c
 | [],_,h=>by simp at h
 | (n,k')::r,⟨h1,h2⟩,h=>by
  rw [List.lookup_cons] at h
  split at h
  ·rename_i e
   cases h
   rw [beq_iff_eq.mp e]
   exact h1
  ·exact ClOk.at h2 h
abbrev cxC (X:Cx) (x:Str) (scope:Scope) (cl:List (Str×Addr)) (C:Addr) (s₂:Shared) (H₂:Hp) (fp:List Addr):Cx :=
 { X with N:=Ar5 x X.N,s₀:=s₂,H₀:=H₂,env:=compEnvC scope cl C X.env,outer:=X.stack,ex:=fp,fn:=λ_=>false,pn:=[],xe:=λ_ _=>False }
section
variable {X : Cx} {pins : List (Addr × Obj)} {σ : St} {H₂ : Hp} {s₂ : Shared} {fp : List Addr} {x : Str} {scope : Scope} {cl : List (Str × Addr)} {C : Addr}
theorem okC (I:Inv X pins σ H₂ s₂) (hf:∀ b ∈ fp,FpOk X pins H₂ b) (ho:∀ b ∈ fp,∃ o,s₂.heap.get? b=some o) (hkind:scope.kind=.function) (hc:CapOk X x cl (relabel scope X.env).names) (hcl:ClOk X cl) (hC:s₂.heap.objs.size<=C) :
  (cxC X x scope cl C s₂ H₂ fp).Ok where
 mod:=I.ok.mod
 kind:=hkind
 glob:=I.ok.glob
 blt:=I.ok.blt
 above:=hC
 inj:=λy z c h1 h2=>I.ok.inj y z c (hcl.at h1) (hcl.at h2)
 has:=λy hy=>by
  have hy':(relabel scope X.env).names.lookup y=some .cell\/(relabel scope X.env).names.lookup y=some .free:=hy
  rcases hy' with h | h
  ·rcases hc.at h with ⟨_,z⟩ | ⟨_,z,_⟩ | ⟨_,_,_,z1,z2⟩
   ·cases z
   ·exact absurd rfl z
   ·obtain ⟨c,e⟩:=I.ok.has y (.inl z1)
    exact ⟨c,z2.trans e⟩
  ·rcases hc.at h with ⟨_,z⟩ | ⟨_,_,z⟩ | ⟨z,_⟩
   ·cases z
   ·exact absurd rfl z
   ·cases z
 cab:=λy c h _=>absurd (show false=true from h) Bool.false_ne_true
 hd:=I.ok.hd
 frames:=I.ok.frames
 stk:=.inl rfl
 exf:=λb hb=>by
  obtain ⟨o,e⟩:=ho b hb
  exact ⟨Nat.ne_of_lt (Nat.lt_of_lt_of_le (Heap.lt_size e) hC),λy c h=>(hf b hb).2.2.2.2.1 y c (hcl.at h)⟩
 bs:=I.bs
 bsz:=Nat.le_trans I.ok.bsz I.sz
 noex:=λb o e hb=>by
  rcases (hf b hb).2.2.2.1 with z | z
  ·exact I.ok.noex b o e z
  ·exact absurd (Nat.lt_of_lt_of_le (Heap.lt_size (I.ok.bs b o e).1) z) (Nat.lt_irrefl _)
 exfs:=λb hb z=>by
  rcases List.mem_cons.mp (I.stkSub b z) with q | q
  ·exact (hf b hb).2.1 q
  ·exact (hf b hb).2.2.1 q
 funs:=I.stack
 frf:=I.stkFree
theorem invC {h₁:Heap} {tk:Nat} (I:Inv X pins σ H₂ s₂) (hf:∀ b ∈ fp,FpOk X pins H₂ b) (ho:∀ b ∈ fp,∃ o,s₂.heap.get? b=some o) (hkind:scope.kind=.function) (hc:CapOk X x cl (relabel scope X.env).names) (hcl:ClOk X cl) (hx0:x≠"") (hdot:(".0":Str) ∉ X.N)
  (hC:C=s₂.heap.objs.size+1) (hns:h₁.Ns C λ_=>none) (old:∀ b o,s₂.heap.get? b=some o->h₁.get? b=some o) (hD:∃ n,h₁.get? s₂.heap.objs.size=some { cls:=.type "list",data:=.seq #[] n }) :
  Inv (cxC X x scope cl C s₂ H₂ fp) [] (none::σ) (upd H₂ s₂.heap.objs.size (.lst [])) { s₂ with heap:=h₁,toks:=tk }:=by
 have hn:H₂ s₂.heap.objs.size=none:=I.hok.fresh (Nat.le_refl _)
 refine ⟨okC I hf ho hkind hc hcl (by rw [hC]; exact Nat.le_succ _),rfl,I.bare,Un.laid old (Nat.le_refl _) hn,⟨_,hns,λi y v h1 h2 h3=>?_⟩,λy c e=>?_,?_,λy c e=>?_,λp hp=>absurd (show p ∈ ([]:List (Addr×Obj)) from hp) (by simp),?_,?_⟩
 ·cases i with
  | zero =>
   have h2':some (none:Option V)=some (some v):=h2
   cases h2'
  | succ i =>
   have h1':(X.N.map λy=>if y=x then ("":Str) else y)[i]?=some y:=h1
   have h2':σ[i]?=some (some v):=h2
   rw [List.getElem?_map] at h1'
   cases e:X.N[i]? with
   | none=>rw [e] at h1'; cases h1'
   | some z =>
    rw [e] at h1'
    have h1'':(if z=x then ("":Str) else z)=y:=Option.some.inj h1'
    have cap:∀ k,(relabel scope X.env).names.lookup y=some k->k=.local\/k=.cell\/k=.free->X.env.scope.names.lookup y=some .cell/\cl.lookup y=X.env.cells.lookup y/\k=.cell/\z=y:=λk hk hv=>by
     rcases hc.at hk with ⟨q,_⟩ | ⟨q1,q2,q3⟩ | ⟨q0,q1,q2,q3,q4⟩
     ·exfalso
      rcases q with q | q
      ·subst q
       by_cases hz:z=y
       ·rw [if_pos hz] at h1''
        exact hx0 h1''.symm
       ·rw [if_neg hz] at h1''
        exact hz h1''
      ·subst q
       by_cases hz:z=x
       ·rw [if_pos hz] at h1''
        exact absurd h1'' (by decide +kernel)
       ·rw [if_neg hz] at h1''
        subst h1''
        exact hdot (List.mem_of_getElem? e)
     ·rcases hv with q | q | q
      ·exact absurd q q1
      ·exact absurd q q2
      ·exact absurd q q3
     ·refine ⟨q3,q4,q0,?_⟩
      by_cases hz:z=x
      ·rw [if_pos hz] at h1''
       exact absurd h1''.symm q2
      ·rw [if_neg hz] at h1''
       exact h1''
    have h3':(relabel scope X.env).names.lookup y=some .local\/(relabel scope X.env).names.lookup y=some .cell\/(relabel scope X.env).names.lookup y=some .free:=h3
    obtain ⟨k,hk,hv⟩:∃ k,(relabel scope X.env).names.lookup y=some k/\(k=.local\/k=.cell\/k=.free):=by
     rcases h3' with q | q | q
     ·exact ⟨_,q,.inl rfl⟩
     ·exact ⟨_,q,.inr (.inl rfl)⟩
     ·exact ⟨_,q,.inr (.inr rfl)⟩
    obtain ⟨c1,c2,c3,rfl⟩:=cap k hk hv
    subst c3
    obtain ⟨m,_,hl⟩:=I.loc
    obtain ⟨u,r,l⟩:=hl i z v e h2' (.inr (.inl c1))
    refine ⟨u,r,?_⟩
    rcases l with ⟨q,_⟩ | ⟨_,c,q1,q2⟩
    ·have q':X.env.scope.names.lookup z=some .local:=q
     rw [c1] at q'
     cases q'
    ·refine .inr ⟨.inl hk,c,c2.trans q1,?_⟩
     obtain ⟨oc,g1,g2⟩:=q2
     exact ⟨oc,old _ _ g1,g2⟩
 ·obtain ⟨v,oc,g1,g2⟩:=I.cell y c (hcl.at e)
  exact ⟨v,oc,old _ _ g1,g2⟩
 ·show (upd H₂ s₂.heap.objs.size (.lst [])) C=none
  rw [Aa7 (by rw [hC]; exact Nat.ne_of_gt (Nat.lt_succ_self _))]
  exact I.hok.fresh (by rw [hC]; exact Nat.le_succ _)
 ·obtain ⟨v,oc,g1,g2⟩:=I.cell y c (hcl.at e)
  rw [Aa7 (Nat.ne_of_lt (Heap.lt_size g1))]
  exact I.freeC y c (hcl.at e)
 ·obtain ⟨n,e⟩:=hD
  exact I.hok.laid old (Nat.le_refl _) ⟨Nat.zero_le _,[],n,.nil,e⟩
 ·show (none::σ).length=(Ar5 x X.N).length
  simp [Ar5,I.len]
theorem fpC (I:Inv X pins σ H₂ s₂) (hf:∀ b ∈ fp,FpOk X pins H₂ b) (ho:∀ b ∈ fp,∃ o,s₂.heap.get? b=some o) (hcl:ClOk X cl) (hC:s₂.heap.objs.size<=C) {H:Hp} (hn:∀ b ∈ fp,H b=none):∀ b ∈ fp,FpOk (cxC X x scope cl C s₂ H₂ fp) [] H b:=λb hb=>by
 obtain ⟨o,e⟩:=ho b hb
 refine ⟨hn b hb,Nat.ne_of_lt (Nat.lt_of_lt_of_le (Heap.lt_size e) hC),λz=>?_,.inl hb,λy c h=>(hf b hb).2.2.2.2.1 y c (hcl.at h),λp hp=>absurd (show p ∈ ([]:List (Addr×Obj)) from hp) (by simp)⟩
 rcases List.mem_cons.mp (I.stkSub b z) with q | q
 ·exact (hf b hb).2.1 q
 ·exact (hf b hb).2.2.1 q
end
theorem Av0 {prog:Program} {w:World} {A:Around} {R:Result->Shared->Prop} {s:Shared} {elt target iter:Expr} {ifs:List Expr} {scope:Scope} {pos:Pos} {it acc:Value} {env:Env} (I:Nat->Shared->Prop)
  (turn:∀ n s,I n s->wpAny (model prog w) A (pyNext it) (λr s₁=>match r with
   | none=>R (.ok .next) s₁
   | some v=>wpAny (model prog w) A (letOwnedTupleGo target it v) (λ_ s₀=>wpAny (model prog w) A (assign target env v) (λ_ s₂ =>
     wpAny (model prog w) A (forIn ifs true λc r=>if r=true then do let ok <- isTrue c env (eval c env); pure (ForInStep.yield ok) else pure (ForInStep.yield r)) (λok s₃ =>
      if ok=true then wpAny (model prog w) A (eval elt env) (λx s₄ =>
       wpAny (model prog w) A (call (.builtin "list.append") [acc,x]) (λ_ s₅=>∃ m,m<n/\I m s₅) (λ_ _=>False) s₄) (λ_ _=>False) s₃
      else ∃ m,m<n/\I m s₃) (λ_ _=>False) s₂) (λ_ _=>False) s₀) (λ_ _=>False) s₁) (λ_ _=>False) s)
  (n:Nat) (h:I n s) :
  codeAny (model prog w) A (.compLoop (.ListComp elt [⟨target,iter,ifs,0⟩] scope pos) 0 it acc env) R s:=by
 refine codeAny_loop rfl I (λn s hI=>?_) n h
 show wpAny _ A ((compTurn (.ListComp elt [⟨target,iter,ifs,0⟩] scope pos) 0 it acc env).onRaise (λx=>do noteFrame x env; theTreesLotGoes x)) _ _ s
 refine wpAny_noted ?_
 refine wpAny_noRaise ?_
 rw [compTurn_list]
 refine wpAny_bind (wpAny_standAt (wpAny_bind (wpAny_mono (turn n s hI) (λr s₁ h₁=>?_) λ_ _ h'=>h')))
 cases r with
 | none=>exact wpAny_pure h₁
 | some v =>
  refine wpAny_bind (wpAny_mono h₁ (λ_ s₀ h₀=>wpAny_bind (wpAny_mono h₀ (λ_ s₂ h₂=>wpAny_bind (wpAny_mono h₂ (λok s₃ h₃=>?_) λ_ _ h'=>h')) λ_ _ h'=>h')) λ_ _ h'=>h')
  cases ok with
  | false=>exact wpAny_pure ⟨rfl,h₃⟩
  | true =>
   exact wpAny_bind (wpAny_bind (wpAny_mono h₃ (λx s₄ h₄=>wpAny_bind (wpAny_mono h₄ (λ_ s₅ h₅=>wpAny_pure (wpAny_pure ⟨rfl,h₅⟩)) λ_ _ h'=>h')) λ_ _ h'=>h'))
inductive Ifs (PTc:Expr->TT->Prop):List Expr->TT->Prop
 | nil:Ifs PTc [] (λ_ H Q=>Q true H)
 | one {c:Expr} {t:TT}:PTc c t->Ifs PTc [c] t
def Cv3 (wi:TI) (tc:TT) (te:TE):TE:=λσ H Q=>wi σ H λJ H1=>∀ D,H1 D=none->∃ W:Nat->Nat->List V->Hp->Prop,(∃ m,W 0 m [] (upd H1 D (.lst [])))/\∀ i m ys H,W i m ys H->H D=some (.lst ys) /\
 ((J.stop i H/\Q (.ref D) H)\/(J.go i H/\∃ N:List V->Hp->Prop,(∀ zs H',N zs H'->∃ m',m'<m/\W (i+1) m' zs H')/\∀ x H',J.yld i H x H'->tc (some x::σ) H' λb H2=>if b=true then te (some x::σ) H2 λy H3=>H3 D=some (.lst ys)/\ys.length<sizeLine/\N (ys++[y]) (upd H3 D (.lst (ys++[y])))
  else N ys H2))
section
variable {X : Cx} {x : Str} {px pos : Pos} {scope : Scope} {cl : List (Str × Addr)} {elt iter : Expr} {ifs : List Expr} {wi : TI} {tc : TT} {te : TE}
theorem Av9 (hcalm:X.calm=true) (hkind:scope.kind=.function) (hnc:∀ y ∈ scope.names,y.2≠.cell) (hc:CapOk X x cl (relabel scope X.env).names) (hcl:ClOk X cl) (hx0:x≠"") (hdot:(".0":Str) ∉ X.N) (hxl:scope.names.lookup x=some .local) (hN:(Ar5 x X.N).Nodup)
  (ht:∀ C s₂ H₂ fp,Ifs (PT (cxC X x scope cl C s₂ H₂ fp)) ifs tc) (he:∀ C s₂ H₂ fp,PE (cxC X x scope cl C s₂ H₂ fp) elt te)
  {pins:List (Addr×Obj)} {σ:St} {H₂:Hp} {s₂:Shared} {Q:VK} {it:Addr} {fp:List Addr} {tn:Nat->Heap->Prop} {J:It} {RR:Value->Addr->Result->Shared->Prop} {E:Value->Shared->Prop} (I:Inv X pins σ H₂ s₂) (T:Turn X.prog X.w X.K (.Name x px) J fp it tn) (st:tn 0 s₂.heap)
  (hf:∀ b ∈ fp,FpOk X pins H₂ b)
  (hq:∀ D,H₂ D=none->∃ W:Nat->Nat->List V->Hp->Prop,(∃ m,W 0 m [] (upd H₂ D (.lst [])))/\∀ i m ys H,W i m ys H->H D=some (.lst ys) /\
   ((J.stop i H/\Q (.ref D) H)\/(J.go i H/\∃ N:List V->Hp->Prop,(∀ zs H',N zs H'->∃ m',m'<m/\W (i+1) m' zs H')/\∀ x H',J.yld i H x H'->tc (some x::σ) H' λb H2=>if b=true then te (some x::σ) H2 λy H3=>H3 D=some (.lst ys)/\ys.length<sizeLine/\N (ys++[y]) (upd H3 D (.lst (ys++[y])))
    else N ys H2)))
  (hRR:∀ D C s' H',Inv X pins σ H' s'->Q (.ref D) H'->H' C=none->C≠X.env.locals->X.s₀.heap.objs.size<=C->(∀ y c,X.env.cells.lookup y=some c->c≠C)->(∀ p ∈ X.pn++pins,p.1≠C)->(∃ m,s'.heap.Ns C m)->RR (.ref D) C (.ok .next) s') :
  wpAny (model X.prog X.w) X.A (newList []) (λacc s₃=>wpAny (model X.prog X.w) X.A (newFunctionEnv scope X.env.globals cl [] X.env.qual none .none (some X.env)) (λcenv s₄ =>
   codeAny (model X.prog X.w) X.A (.compStart (.ListComp elt [⟨.Name x px,iter,ifs,0⟩] scope pos) 0 (.ref it) acc { cenv with scope:=relabel scope X.env }) (RR acc cenv.locals) s₄) E s₃) E s₂:=by
 refine wpAny_newObj_type (wpAny_newFunctionEnv hnc (by intro y hy; simp at hy) (λh₁ hns₁ hsb₁=>?_) hkind)
 dsimp only at hns₁ hsb₁ ⊢
 have ho:∀ b ∈ fp,∃ o,s₂.heap.get? b=some o:=λb hb=>let ⟨o,e,_⟩:=T.obj 0 _ st b hb; ⟨o,e⟩
 generalize hH2:s₂.heap.push { cls:=.type "list",dict:=none,data:=.seq ([]:List Value).toArray }=P2 at hns₁ hsb₁ ⊢
 have hC:P2.objs.size=s₂.heap.objs.size+1:=by rw [<- hH2,Heap.size_push]
 have old:∀ b o,s₂.heap.get? b=some o->h₁.get? b=some o:=λb o e=>hsb₁.extBut b o (by rw [hC]; exact Nat.ne_of_lt (Nat.lt_succ_of_lt (Heap.lt_size e))) (Heap.get?_push_of_some _ (hH2 ▸ Heap.get?_push_of_some _ e))
 have hD:∃ n,h₁.get? s₂.heap.objs.size=some { cls:=.type "list",data:=.seq #[] n }:=⟨_,hsb₁.extBut _ _ (by rw [hC]; exact Nat.ne_of_lt (Nat.lt_succ_self _)) (Heap.get?_push_of_some _ (hH2 ▸ Heap.get?_push_size _ rfl))⟩
 have hns':h₁.Ns P2.objs.size λ_=>none:=by
  have e:(λx:Str=>([]:List (Str×Value)).reverse.lookup x)=λ_=>none:=by funext y; rfl
  rw [<- e]
  exact hns₁
 have I0:=invC (tk:=s₂.toks+([]:List (Str×Value)).length) I hf ho hkind hc hcl hx0 hdot hC hns' old hD
 obtain ⟨W,⟨m0,w0⟩,turn⟩:=hq _ (I.hok.fresh (Nat.le_refl _))
 have hCs:X.s₀.heap.objs.size<=P2.objs.size:=by rw [hC]; exact Nat.le_succ_of_le I.sz
 have loop:∀ s₃:Shared,s₃={ s₂ with heap:=h₁,toks:=s₂.toks+([]:List (Str×Value)).length } ->
   codeAny (model X.prog X.w) X.A (.compLoop (.ListComp elt [⟨.Name x px,iter,ifs,0⟩] scope pos) 0 (.ref it) (.ref s₂.heap.objs.size) (compEnvC scope cl P2.objs.size X.env)) (RR (.ref s₂.heap.objs.size) P2.objs.size) s₃:=by
  rintro s₃ rfl
  refine Av0 (λn s'=>∃ i ys v H,Inv (cxC X x scope cl P2.objs.size s₂ H₂ fp) [] (v::σ) H s'/\tn i s'.heap/\(∀ b ∈ fp,H b=none)/\W i n ys H) ?_ m0
   ⟨0,[],none,_,I0,T.keep _ _ _ st λb _ o e=>old b o e,λb hb=>by rw [Aa7 (by obtain ⟨o,e⟩:=ho b hb; exact Nat.ne_of_lt (Heap.lt_size e))]; exact (hf b hb).1,w0⟩
  rintro n s' ⟨i,ys,v,H,I',st',fr',w'⟩
  have fpn:∀ {H:Hp},(∀ b ∈ fp,H b=none)->∀ b ∈ fp,FpOk (cxC X x scope cl P2.objs.size s₂ H₂ fp) [] H b:=λhn=>fpC I hf ho hcl (by rw [hC]; exact Nat.le_succ _) hn
  obtain ⟨hDl,go⟩:=turn i n ys H w'
  rcases go with ⟨stop,qn⟩ | ⟨go,Nx,hNx,step⟩
  ·refine wpAny_mono (T.done (cxC X x scope cl P2.objs.size s₂ H₂ fp) rfl rfl rfl hcalm i [] s' (v::σ) H (λ_ _=>False) I' (fpn fr') st' stop) (λr s4 z=>?_) λ_ _ z=>z
   obtain ⟨hr,I4⟩:=z
   subst hr
   obtain ⟨m4,hm4,_⟩:=I4.loc
   refine hRR _ _ s4 H (I.call' I4.os I4.base I4.hok I4.bare λb hb=>?_) qn I4.free ?_ hCs (λy c e z=>?_) (λp hp z=>?_) ⟨m4,hm4⟩
   ·obtain ⟨f0,f1,f2,f3,f4,f5⟩:=hf b hb
    exact ⟨f3,f1,f4,f5⟩
   ·rw [hC]
    exact Nat.ne_of_gt (Nat.lt_succ_of_lt I.lt)
   ·obtain ⟨v',oc,g1,_⟩:=I.cell y c e
    have:=Heap.lt_size g1
    rw [z,hC] at this
    exact absurd (Nat.lt_of_succ_lt this) (Nat.lt_irrefl _)
   ·have:=Heap.lt_size (I.pin p hp).1
    rw [z,hC] at this
    exact absurd (Nat.lt_of_succ_lt this) (Nat.lt_irrefl _)
  ·refine wpAny_mono (T.item (cxC X x scope cl P2.objs.size s₂ H₂ fp) rfl rfl rfl hcalm i [] s' (v::σ) H (λ_ _=>False) I' (fpn fr') st' go) (λr s4 z=>?_) λ_ _ z=>z
   obtain ⟨u,hr,h4⟩:=z
   subst hr
   refine wpAny_mono h4 (λ_ s5 z=>?_) λ_ _ z=>z
   obtain ⟨y,H5,I5,r5,y5,st5,fr5⟩:=z
   have I5':=I5.pinned (fpn fr5) (T.obj _ _ st5)
   have hxl':(relabel scope X.env).names.lookup x=some .local:=lookup_relabel_local hxl
   have hs:=step y H5 y5
   refine wpAny_mono (Ad5 (X:=cxC X x scope cl P2.objs.size s₂ H₂ fp) (i:=0) (pos:=px) hN rfl (.inl hxl') (.inr hxl') _ s5 (v::σ) H5 y u (λσ6 H6=>σ6=some y::σ/\H6=H5) I5' r5 ⟨rfl,rfl⟩) (λ_ s6 z=>?_) λ_ _ z=>z
   obtain ⟨σ6,H6,I6,rfl,rfl⟩:=z
   have again:∀ {H7:Hp} {s7:Shared} {zs:List V},Inv (cxC X x scope cl P2.objs.size s₂ H₂ fp) ([]++Au2 fp s5.heap) (some y::σ) H7 s7->Nx zs H7 ->
     ∃ m,m<n/\∃ i ys v H,Inv (cxC X x scope cl P2.objs.size s₂ H₂ fp) [] (v::σ) H s7/\tn i s7.heap/\(∀ b ∈ fp,H b=none)/\W i m ys H:=λ{H7 s7 zs} I7 w7=>by
    obtain ⟨m',hm,w7⟩:=hNx _ _ w7
    refine ⟨m',hm,i+1,zs,some y,H7,I7.unpinned,T.keep _ _ _ st5 λb hb o e=>(I7.pin (b,o) (List.mem_append_right _ (List.mem_append_right _ (Ai3 hb e)))).1,λb hb=>?_,w7⟩
    obtain ⟨o,e,d⟩:=T.obj _ _ st5 b hb
    exact (I7.pin (b,o) (List.mem_append_right _ (List.mem_append_right _ (Ai3 hb e)))).2.1
   have elts:∀ {H7:Hp} {s7:Shared},Inv (cxC X x scope cl P2.objs.size s₂ H₂ fp) ([]++Au2 fp s5.heap) (some y::σ) H7 s7 ->
     (te (some y::σ) H7 λy' H3=>H3 s₂.heap.objs.size=some (.lst ys)/\ys.length<sizeLine/\Nx (ys++[y']) (upd H3 s₂.heap.objs.size (.lst (ys++[y'])))) ->
     wpAny (model X.prog X.w) X.A (eval elt (compEnvC scope cl P2.objs.size X.env)) (λxv s₄ =>
       wpAny (model X.prog X.w) X.A (call (.builtin "list.append") [.ref s₂.heap.objs.size,xv]) (λ_ s₅=>∃ m,m<n/\∃ i ys v H,Inv (cxC X x scope cl P2.objs.size s₂ H₂ fp) [] (v::σ) H s₅/\tn i s₅.heap/\(∀ b ∈ fp,H b=none)/\W i m ys H) (λ_ _=>False) s₄) (λ_ _=>False) s7:=λ{H7 s7} I7 q7=>by
    refine wpAny_mono (he P2.objs.size s₂ H₂ fp _ s7 (some y::σ) H7 _ I7 q7) (λu8 s8 z=>?_) λ_ _ z=>z
    obtain ⟨y',H8,I8,r8,hD8,hz8,w8⟩:=z
    refine wpAny_mono (Ah6 (X:=cxC X x scope cl P2.objs.size s₂ H₂ fp) _ s8 (some y::σ) H8 (.ref s₂.heap.objs.size) [y'] (.ref s₂.heap.objs.size) [u8] (λ_ H9=>H9=upd H8 s₂.heap.objs.size (.lst (ys++[y']))) I8 rfl (.cons r8 .nil) ⟨_,ys,y',rfl,rfl,hD8,hz8,rfl⟩) (λ_ s9 z=>?_) λ_ _ z=>z
    obtain ⟨_,H9,I9,_,rfl⟩:=z
    exact again I9 w8
   cases ht P2.objs.size s₂ H₂ fp with
   | nil=>exact wpAny_tests_nil (elts I6 hs)
   | one hc1 =>
    refine wpAny_tests_one (wpAny_mono (hc1 _ s6 (some y::σ) _ _ I6 hs) (λb s7 z=>?_) λ_ _ z=>z)
    obtain ⟨H7,I7,q7⟩:=z
    cases b with
    | true=>exact elts I7 q7
    | false=>exact again I7 q7
 exact codeAny_compStart_list (loop _ rfl) (T.self _ 0 _ _ _ (T.keep _ _ _ st λb _ o e=>old b o e) (loop _ rfl))
theorem Ap9 (hcalm:X.calm=true) (hi:PI X (.Name x px) iter wi) (hclos:closureFor scope X.env=pure cl) (hc:CapOk X x cl (relabel scope X.env).names) (hcl:ClOk X cl)
  (ht:∀ C s₂ H₂ fp,Ifs (PT (cxC X x scope cl C s₂ H₂ fp)) ifs tc) (he:∀ C s₂ H₂ fp,PE (cxC X x scope cl C s₂ H₂ fp) elt te) (hN:(Ar5 x X.N).Nodup)
  (hkind:scope.kind=.function:=by rfl) (hnc:∀ y ∈ scope.names,y.2≠.cell:=by decide +kernel) (hnm:∀ y ∈ scope.names,y.2=.local->scope.names.lookup y.1=some .local:=by decide +kernel) (hx0:x≠"":=by decide +kernel) (hdot:(".0":Str) ∉ X.N:=by decide +kernel) (hxl:scope.names.lookup x=some .local:=by rfl)
  (hs:∀ x,foldedSetIterable iter X.env x=pure x:=by intro _; rfl):PE X (.ListComp elt [⟨.Name x px,iter,ifs,0⟩] scope pos) (Cv3 wi tc te):=by
 intro pins s σ H Q I h
 rw [eval_ListComp]
 refine wpAny_comprehension_free (use:=none) rfl hs hclos hkind hnm (wpAny_mono (hi pins s σ H _ I h) (λxv s₁ h₁=>wpAny_mono h₁ (λitv s₂ h₂=>?_) λ_ _ e=>e) λ_ _ e=>e)
 obtain ⟨it,fp,tn,J,H2,e,I2,T,st2,f2,hq⟩:=h₂
 subst e
 refine Av9 (RR:=λacc C=>compPost (model X.prog X.w) X.A X.xe none (EP X pins σ Q) acc C) hcalm hkind hnc hc hcl hx0 hdot hxl hN ht he I2 T st2 f2 hq λD C s' H' I' q' n1 n2 n3 n4 n5 n6=>?_
 obtain ⟨m,hm⟩:=n6
 refine ⟨m,hm,λh' hs'=>?_⟩
 exact ⟨.ref D,H',I'.turned (t':=s'.toks) (λb o hb e=>(hs'.2 b hb).trans e) n1 n2 (.inr n3) n4 n5,rfl,q'⟩
theorem Co9 {i:Nat} {y:Str} {py spos:Pos} (hN0:X.N.Nodup) (hy:X.N[i]?=some y) (hyl:X.env.scope.names.lookup y=some .local) (hsw:swapsWith (.ListComp elt [⟨.Name x px,iter,ifs,0⟩] scope pos) (some (.Name y py)) spos.line X.env=pure true) (hcalm:X.calm=true) (hi:PI X (.Name x px) iter wi) (hclos:closureFor scope X.env=pure cl) (hc:CapOk X x cl (relabel scope X.env).names) (hcl:ClOk X cl)
  (ht:∀ C s₂ H₂ fp,Ifs (PT (cxC X x scope cl C s₂ H₂ fp)) ifs tc) (he:∀ C s₂ H₂ fp,PE (cxC X x scope cl C s₂ H₂ fp) elt te) (hN:(Ar5 x X.N).Nodup)
  (hkind:scope.kind=.function:=by rfl) (hnc:∀ y ∈ scope.names,y.2≠.cell:=by decide +kernel) (hnm:∀ y ∈ scope.names,y.2=.local->scope.names.lookup y.1=some .local:=by decide +kernel) (hx0:x≠"":=by decide +kernel) (hdot:(".0":Str) ∉ X.N:=by decide +kernel) (hxl:scope.names.lookup x=some .local:=by rfl)
  (hs:∀ x,foldedSetIterable iter X.env x=pure x:=by intro _; rfl):PS X (.Assign [.Name y py] (.ListComp elt [⟨.Name x px,iter,ifs,0⟩] scope pos) spos) (tAsg (Cv3 wi tc te) (Bz1 i)):=by
 intro pins s σ H D I h
 rw [exec_Assign_Name_used _ _ _ _ hsw]
 refine wpAny_bind (wpAny_standAt (wpAny_bind ?_))
 show wpAny _ _ (do let _ <- comprehension (.ListComp elt [⟨.Name x px,iter,ifs,0⟩] scope pos) scope X.env _ (newList []) false (eval iter X.env) (some (assign (.Name y py) X.env))) _ _ s
 refine wpAny_bind (wpAny_mono (wpAny_comprehension_free (use:=some (assign (.Name y py) X.env)) (Q:=λ_ s'=>SP X pins D .next s') rfl hs hclos hkind hnm
  (wpAny_mono (hi pins s σ H _ I h) (λxv s₁ h₁=>wpAny_mono h₁ (λitv s₂ h₂=>?_) λ_ _ e=>e) λ_ _ e=>e)) (λ_ s' hq=>wpAny_pure (wpAny_pure hq)) λ_ _ e=>e)
 obtain ⟨it,fp,tn,J,H2,e,I2,T,st2,f2,hq⟩:=h₂
 subst e
 refine Av9 (Q:=λx H1=>Bz1 i x σ H1 D.nx) (RR:=λacc C=>compPost (model X.prog X.w) X.A X.xe (some (assign (.Name y py) X.env)) (λ_ s'=>SP X pins D .next s') acc C) hcalm hkind hnc hc hcl hx0 hdot hxl hN ht he I2 T st2 f2 hq λD' C s' H' I' q' n1 n2 n3 n4 n5 n6=>?_
 obtain ⟨m,hm⟩:=n6
 show wpAny _ _ (assign (.Name y py) X.env (.ref D')) _ _ _
 refine wpAny_assign_Name (Az9 I' hN0 hy (.inl hyl) (show RelV (.ref D') (.ref D') from rfl) (λs7 I7 z=>?_) (.inr hyl))
 obtain ⟨a,sb,ha⟩:=z
 have hCa:C≠a:=by
  rcases ha with rfl | ha
  ·exact n2
  ·exact (n4 y a ha).symm
 refine ⟨m,hm.sameBut sb hCa,λh' hs'=>?_⟩
 exact ⟨_,H',I7.turned (t':=s7.toks) (λb o hb e=>(hs'.2 b hb).trans e) n1 n2 (.inr n3) n4 n5,q'⟩
end
abbrev tYes:TT:=λ_ H Q=>Q true H
theorem Am3 {K:PySem.W.Frag} {a:Addr} {xs:List V} {tc:TT} {te:TE} {σ:St} {H1:Hp} {Q:Addr->Hp->Prop} (Pv:Addr->Nat->List V->Hp->Prop) (h0:∀ D,H1 D=none->Pv D 0 [] (upd H1 D (.lst []))) (hl:∀ D i ys H,i<=xs.length->Pv D i ys H->SqL K H a xs/\H D=some (.lst ys))
  (hs:∀ D i x ys H,xs[i]?=some x->Pv D i ys H->tc (some x::σ) H λb H2=>if b=true then te (some x::σ) H2 λy H3=>H3 D=some (.lst ys)/\ys.length<sizeLine/\Pv D (i+1) (ys++[y]) (upd H3 D (.lst (ys++[y]))) else Pv D (i+1) ys H2)
  (hd:∀ D ys H,Pv D xs.length ys H->Q D H) :
  ∀ D,H1 D=none->∃ W:Nat->Nat->List V->Hp->Prop,(∃ m,W 0 m [] (upd H1 D (.lst [])))/\∀ i m ys H,W i m ys H->H D=some (.lst ys) /\
   (((Itl K a).stop i H/\Q D H)\/((Itl K a).go i H/\∃ N:List V->Hp->Prop,(∀ zs H',N zs H'->∃ m',m'<m/\W (i+1) m' zs H')/\∀ x H',(Itl K a).yld i H x H'->tc (some x::σ) H' λb H2=>if b=true then te (some x::σ) H2 λy H3=>H3 D=some (.lst ys)/\ys.length<sizeLine/\N (ys++[y]) (upd H3 D (.lst (ys++[y])))
    else N ys H2)):=λD hD=>by
 refine ⟨λi m ys H=>m=xs.length - i/\i<=xs.length/\Pv D i ys H,⟨xs.length,by simp,Nat.zero_le _,h0 D hD⟩,?_⟩
 rintro i m ys H ⟨rfl,hi,p⟩
 obtain ⟨q,qd⟩:=hl D i ys H hi p
 refine ⟨qd,?_⟩
 by_cases hlt:i<xs.length
 ·refine .inr ⟨⟨xs,xs[i],q,by simp [hlt]⟩,Pv D (i+1),λzs H' p'=>⟨xs.length - (i+1),by omega,rfl,hlt,p'⟩,λx H' y=>?_⟩
  obtain ⟨e,y⟩:=y
  subst e
  exact hs D i x ys _ (y xs q) p
 ·have e:i=xs.length:=by omega
  subst e
  exact .inl ⟨⟨xs,q,Nat.le_refl _⟩,hd D ys H p⟩
theorem Av8 {lo:Int} {n:Nat} {tc:TT} {te:TE} {σ:St} {H1:Hp} {Q:Addr->Hp->Prop} (Pv:Addr->Nat->List V->Hp->Prop) (h0:∀ D,H1 D=none->Pv D 0 [] (upd H1 D (.lst []))) (hl:∀ D i ys H,i<=n->Pv D i ys H->H D=some (.lst ys))
  (hs:∀ D i ys H,i<n->Pv D i ys H->tc (some (.int (lo+i))::σ) H λb H2=>if b=true then te (some (.int (lo+i))::σ) H2 λy H3=>H3 D=some (.lst ys)/\ys.length<sizeLine/\Pv D (i+1) (ys++[y]) (upd H3 D (.lst (ys++[y]))) else Pv D (i+1) ys H2)
  (hd:∀ D ys H,Pv D n ys H->Q D H) :
  ∀ D,H1 D=none->∃ W:Nat->Nat->List V->Hp->Prop,(∃ m,W 0 m [] (upd H1 D (.lst [])))/\∀ i m ys H,W i m ys H->H D=some (.lst ys) /\
   (((Itr lo n).stop i H/\Q D H)\/((Itr lo n).go i H/\∃ N:List V->Hp->Prop,(∀ zs H',N zs H'->∃ m',m'<m/\W (i+1) m' zs H')/\∀ x H',(Itr lo n).yld i H x H'->tc (some x::σ) H' λb H2=>if b=true then te (some x::σ) H2 λy H3=>H3 D=some (.lst ys)/\ys.length<sizeLine/\N (ys++[y]) (upd H3 D (.lst (ys++[y])))
    else N ys H2)):=λD hD=>by
 refine ⟨λi m ys H=>m=n - i/\i<=n/\Pv D i ys H,⟨n,by simp,Nat.zero_le _,h0 D hD⟩,?_⟩
 rintro i m ys H ⟨rfl,hi,p⟩
 refine ⟨hl D i ys H hi p,?_⟩
 by_cases hlt:i<n
 ·refine .inr ⟨hlt,Pv D (i+1),λzs H' p'=>⟨n - (i+1),by omega,rfl,hlt,p'⟩,λx H' y=>?_⟩
  obtain ⟨e,y⟩:=y
  subst e y
  exact hs D i ys _ hlt p
 ·have e:i=n:=by omega
  subst e
  exact .inl ⟨Nat.le_refl _,hd D ys H p⟩
end L2
end
section
namespace L2
open PySem PySem.Spec PyProof.Rows
theorem Ae7 {c:Bool} {A B:Prop} (hc:c=true) (h:A):if c=true then A else B:=by
 rw [if_pos hc]
 exact h
theorem Ac3 {c:Bool} {A B:Prop} (hc:c=false) (h:B):if c=true then A else B:=by
 rw [hc]
 exact iteF h
theorem Bd6 {X:Cx} (hc:X.calm=true):Aq4 X (.builtin "all") (λxs H Q=>∃ (l:Addr) (bs:List Bool),xs=[.ref l]/\H l=some (.lst (bs.map V.bl))/\Q (.bl (bs.all id)) H):=by
 intro pins s σ H xs us Q I r h
 obtain ⟨l,bs,rfl,hl,q⟩:=h
 obtain ⟨u,rfl,ru⟩:=r.one
 obtain rfl:u=Value.ref l:=ru
 obtain ⟨its,rv,p,hz⟩:=I.list (SqL.of hl)
 have hlt:l<s.heap.objs.size:=by obtain ⟨_,_,e,_⟩:=p; exact Heap.lt_size e
 refine call_all_walk (wpAny_pyIter_list p.isList ?_)
 refine ⟨s.heap.objs.size,[s.heap.objs.size,l],[s.heap.objs.size],its.toArray.size,_,_,λi=>(bs[i]?).getD true,rfl,Walks.list (A:=X.A.in1) (I.ok.hd hc) _ l (Nat.ne_of_lt hlt) its.toArray,
  ⟨⟨_,Heap.get?_push_size _ rfl,rfl,rfl⟩,p.isList.push _⟩,λi v s' Q' E' hP hQ=>?_,λh' tk hk=>?_⟩
 ·have hi:its[i]?=some v:=by simpa using hP
  have hlen:=rv.length
  have hib:i<its.length:=(List.getElem?_eq_some_iff.mp hi).1
  obtain ⟨u,e1,e2⟩:=rv.get (i:=i) (x:=V.bl ((bs[i]?).getD true)) (by
   rw [List.getElem?_map,List.getElem?_eq_getElem (by rw [List.length_map] at hlen; omega)]
   rfl)
  rw [hi] at e1
  cases e1
  cases e2
  exact wpAny_truthy_bool hQ
 ·have e:((List.range its.toArray.size).all λi=>(bs[i]?).getD true)=bs.all id:=by
   have hlen:=rv.length
   rw [List.length_map] at hlen
   rw [List.size_toArray,<- hlen]
   exact PyProof.Rows.LSm.range_all bs
  rw [e]
  exact ⟨.bl _,H,I.kept (t':=tk) λb o z=>hk b o (by have:=Heap.lt_size z; intro q; rw [List.mem_singleton] at q; rw [q] at this; exact Nat.lt_irrefl _ this) (Heap.get?_push_of_some _ z),rfl,q⟩
theorem Ak9 {H:Hp} {p:Addr} {xs:List V} (h:H p=some (.lst xs)):Ar3 H (.ref p)=true:=by
 unfold Ar3
 dsimp only
 rw [h]
abbrev Pgs:=List (Option (Addr×List Int))
def pgV:Option (Addr×List Int)->V
 | none=>.non
 | some (p,_)=>.ref p
def cont (ps:Pgs):List (Option (List Int)):=ps.map (Option.map (·.2))
structure Pg (H:Hp) (a:Addr) (ps:Pgs):Prop where
 top:H a=some (.lst (ps.map pgV))
 each:∀ (i:Nat) (p:Addr) (ws:List Int),ps[i]?=some (some (p,ws))->H p=some (.lst (ws.map V.int))/\p≠a
 nd:∀ (i j:Nat) (p:Addr) (ws ws':List Int),ps[i]?=some (some (p,ws))->ps[j]?=some (some (p,ws'))->i=j
def At (a:Addr) (ps:Pgs) (b:Addr):Prop:=b=a\/∃ (i:Nat) (ws:List Int),ps[i]?=some (some (b,ws))
theorem Pg.same {H H':Hp} {a:Addr} {ps:Pgs} (g:Pg H a ps) (s:Same H H'):Pg H' a ps:=⟨s _ _ g.top,λi p ws e=>⟨s _ _ (g.each i p ws e).1,(g.each i p ws e).2⟩,g.nd⟩
theorem Pg.keep {H H':Hp} {a:Addr} {ps:Pgs} (g:Pg H a ps) (s:∀ b,At a ps b->H' b=H b):Pg H' a ps :=
 ⟨(s a (.inl rfl)).trans g.top,λi p ws e=>⟨(s p (.inr ⟨i,ws,e⟩)).trans (g.each i p ws e).1,(g.each i p ws e).2⟩,g.nd⟩
theorem Pg.at {H:Hp} {a b:Addr} {ps:Pgs} (g:Pg H a ps) (h:At a ps b):∃ o,H b=some o:=by
 rcases h with rfl | ⟨i,ws,e⟩
 ·exact ⟨_,g.top⟩
 ·exact ⟨_,(g.each i b ws e).1⟩
theorem Aw2 {ps:Pgs} {i:Nat} (h:i<ps.length):∃ o,ps[i]?=some o/\atI (ps.map pgV) (i:Int)=some (pgV o):=by
 refine ⟨ps[i],List.getElem?_eq_getElem h,Aj1 ?_⟩
 rw [List.getElem?_map,List.getElem?_eq_getElem h]
 rfl
theorem Al2 {ws:List Int} {j:Nat} (h:j<ws.length):atI (ws.map V.int) (j:Int)=some (.int (ws.getD j 0)):=by
 refine Aj1 ?_
 rw [List.getElem?_map,List.getElem?_eq_getElem h,List.getD_eq_getElem?_getD,List.getElem?_eq_getElem h]
 rfl
theorem Am2 {n j:Nat} (h:j<n):ixN n (j:Int)=some j:=by
 unfold ixN
 rw [if_pos (Int.natCast_nonneg j),if_pos (by omega),Int.toNat_natCast]
def setW (ps:Pgs) (i j:Nat) (w:Int):Pgs:=ps.set i ((ps[i]?).getD none |>.map λq=>(q.1,q.2.set j w))
theorem Ak4 {ps:Pgs} {i j:Nat} {w:Int} {p:Addr} {ws:List Int} (h:ps[i]?=some (some (p,ws))):setW ps i j w=ps.set i (some (p,ws.set j w)):=by
 unfold setW
 rw [h]
 rfl
theorem Bm0 (ps:Pgs) (i j:Nat) (w:Int):(setW ps i j w).length=ps.length:=List.length_set ..
theorem Pg.setW {H:Hp} {a:Addr} {ps:Pgs} {i j:Nat} {w:Int} {p:Addr} {ws:List Int} (g:Pg H a ps) (h:ps[i]?=some (some (p,ws))):Pg (upd H p (.lst ((ws.map V.int).set j (.int w)))) a (setW ps i j w):=by
 have hi:i<ps.length:=(List.getElem?_eq_some_iff.mp h).1
 have hp:=g.each i p ws h
 rw [Ak4 h]
 refine ⟨?_,λk q vs e=>?_,λk l q vs vs' e1 e2=>?_⟩
 ·rw [Aa7 (Ne.symm hp.2),g.top,List.map_set]
  congr 2
  refine (List.ext_getElem? λk=>?_).symm
  by_cases hk:i=k
  ·subst hk
   rw [List.getElem?_set_self (by rw [List.length_map]; exact hi),List.getElem?_map,h]
   rfl
  ·rw [List.getElem?_set_ne hk]
 ·by_cases hk:i=k
  ·subst hk
   rw [List.getElem?_set_self hi] at e
   cases e
   refine ⟨?_,hp.2⟩
   rw [upd_same,List.map_set]
  ·rw [List.getElem?_set_ne hk] at e
   have hq:=g.each k q vs e
   refine ⟨?_,hq.2⟩
   rw [Aa7 (λz=>hk (by subst z; exact g.nd i k _ _ _ h e))]
   exact hq.1
 ·have back:∀ (k:Nat) (vs:List Int),(ps.set i (some (p,ws.set j w)))[k]?=some (some (q,vs))->∃ vs',ps[k]?=some (some (q,vs')):=λk vs e=>by
   by_cases hk:i=k
   ·subst hk
    rw [List.getElem?_set_self hi] at e
    cases e
    exact ⟨_,h⟩
   ·rw [List.getElem?_set_ne hk] at e
    exact ⟨_,e⟩
  obtain ⟨_,f1⟩:=back k vs e1
  obtain ⟨_,f2⟩:=back l vs' e2
  exact g.nd k l q _ _ f1 f2
theorem Au9 {ps qs:Pgs} (h:cont ps=cont qs) (i j:Nat) (w:Int):cont (setW ps i j w)=cont (setW qs i j w):=by
 have e:∀ ps:Pgs,cont (setW ps i j w)=(cont ps).set i ((((cont ps)[i]?).getD none).map λws=>ws.set j w):=λps=>by
  unfold cont setW
  rw [List.map_set,List.getElem?_map]
  congr 1
  cases e:ps[i]? with
  | none=>rfl
  | some o=>cases o <;> rfl
 rw [e,e,h]
theorem Am7 {ps qs:Pgs} (h:cont ps=cont qs):ps.length=qs.length:=by
 have:=congrArg List.length h
 unfold cont at this
 rw [List.length_map,List.length_map] at this
 exact this
theorem Bl2 {ps qs:Pgs} (h:cont ps=cont qs) (i:Nat):(ps[i]?).map (Option.map (·.2))=(qs[i]?).map (Option.map (·.2)):=by
 have:=congrArg (λl=>l[i]?) h
 unfold cont at this
 simpa using this
theorem Ca8 {ps qs:Pgs} (h:cont ps=cont qs) {i:Nat} {p:Addr} {ws:List Int} (e:ps[i]?=some (some (p,ws))):∃ q,qs[i]?=some (some (q,ws)):=by
 have z:=Bl2 h i
 rw [e] at z
 cases f:qs[i]? with
 | none=>rw [f] at z; cases z
 | some o =>
  rw [f] at z
  cases o with
  | none=>cases z
  | some x =>
   obtain ⟨q,vs⟩:=x
   have z':ws=vs:=by simpa using z
   subst z'
   exact ⟨q,rfl⟩
theorem Aa6 {H:Hp} {p:Addr} {o:HO} (h:H p=none):Same H (upd H p o):=λb u e=>by
 rw [Aa7 (Ac7 e h)]
 exact e
theorem Same.set {H H':Hp} {t:Addr} {o:HO} (s:Same H H') (h:H t=none):Same H (upd H' t o):=λb u e=>by
 rw [Aa7 (Ac7 e h)]
 exact s b u e
def Good (ps:Pgs):Prop:=∀ (i:Nat) (p:Addr) (ws:List Int),ps[i]?=some (some (p,ws))->ws.length=8/\∀ w ∈ ws,0<=w/\w<281474976710656
def Cv1 (K:PySem.W.Frag):TE:=tIf (Cc2 (tOp (λx y H Q=>y=.non/\Q (.bl (decide (x=.non))) H) (tVar 0) (tC .non))) (tC .non) (tCB (λxs H Q=>∃ p ys,xs=[.ref p]/\(SqL K H p ys\/SqT K H p ys)/\∀ l,H l=none->Q (.ref l) (upd H l (.lst ys))) (Ap6 (tVar 0) tNil))
theorem Br8 {K:PySem.W.Frag} {a:Addr} {ps:Pgs} {σ:St} {H:Hp} {Q:Addr->Hp->Prop} (g:Pg H a ps) (hl:ps.length<=1000)
  (q:∀ D H' qs,Same H H'->Pg H' D qs->cont qs=cont ps->(∀ b,At D qs b->H b=none)->Q D H') :
  ∀ D,H D=none->∃ W:Nat->Nat->List V->Hp->Prop,(∃ m,W 0 m [] (upd H D (.lst [])))/\∀ i m ys H,W i m ys H->H D=some (.lst ys) /\
   (((Itl K a).stop i H/\Q D H)\/((Itl K a).go i H/\∃ N:List V->Hp->Prop,(∀ zs H',N zs H'->∃ m',m'<m/\W (i+1) m' zs H')/\∀ x H',(Itl K a).yld i H x H'->tYes (some x::σ) H' λb H2=>if b=true then Cv1 K (some x::σ) H2 λy H3=>H3 D=some (.lst ys)/\ys.length<sizeLine/\N (ys++[y]) (upd H3 D (.lst (ys++[y])))
    else N ys H2)):=by
 refine Am3 (xs:=ps.map pgV) (λD i ys H'=>∃ qs:Pgs,H D=none/\Same H H'/\Pg H' D qs/\ys=qs.map pgV/\qs.length=i/\cont qs=cont (ps.take i)/\∀ b,At D qs b->H b=none) ?_ ?_ ?_ ?_
 ·intro D hD
  refine ⟨[],hD,Aa6 hD,⟨upd_same,λi p ws e=>by simp at e,λi j p ws ws' e=>by simp at e⟩,rfl,rfl,rfl,λb h=>?_⟩
  rcases h with rfl | ⟨i,ws,e⟩
  ·exact hD
  ·simp at e
 ·rintro D i ys H' _ ⟨qs,_,ss,g',rfl,_,_,_⟩
  exact ⟨SqL.of (ss _ _ g.top),g'.top⟩
 ·rintro D i x ys H' hi ⟨qs,hD,ss,g',rfl,hq,hc,hfr⟩
  rw [List.getElem?_map] at hi
  cases e:ps[i]? with
  | none=>rw [e] at hi; cases hi
  | some o =>
   rw [e] at hi
   have hi':pgV o=x:=Option.some.inj hi
   subst hi'
   have hil:i<ps.length:=(List.getElem?_eq_some_iff.mp e).1
   have hlen:(qs.map pgV).length<sizeLine:=by
    rw [List.length_map,hq]
    exact Nat.lt_of_lt_of_le (by omega:i<1001) (by decide)
   have htake:ps.take (i+1)=ps.take i++[o]:=by
    rw [List.take_add_one,e]
    rfl
   refine iteT ?_
   have more:∀ (o':Option (Addr×List Int)) (H2:Hp),o'.map (·.2)=o.map (·.2)->Same H' H2->(∀ p ws,o'=some (p,ws)->H2 p=some (.lst (ws.map V.int))/\H' p=none) ->
     H2 D=some (.lst (qs.map pgV))/\(qs.map pgV).length<sizeLine/\∃ qs':Pgs,H D=none/\Same H (upd H2 D (.lst (qs.map pgV++[pgV o'])))/\Pg (upd H2 D (.lst (qs.map pgV++[pgV o']))) D qs'/\qs.map pgV++[pgV o']=qs'.map pgV/\qs'.length=i+1/\cont qs'=cont (ps.take (i+1))/\∀ b,At D qs' b->H b=none:=λo' H2 ho s2 hn=>by
    refine ⟨s2 _ _ g'.top,hlen,qs++[o'],hD,Same.set (ss.trans s2) hD,⟨by rw [upd_same,List.map_append]; rfl,λk p ws z=>?_,λk l p ws ws' z1 z2=>?_⟩,by rw [List.map_append]; rfl,by rw [List.length_append,hq]; rfl,?_,λb hb=>?_⟩
    ·rcases Nat.lt_or_ge k qs.length with hk | hk
     ·rw [List.getElem?_append_left hk] at z
      have:=g'.each k p ws z
      refine ⟨?_,this.2⟩
      rw [Aa7 this.2]
      exact s2 _ _ this.1
     ·rw [List.getElem?_append_right hk] at z
      have hk':k - qs.length=0:=by
       rcases Nat.eq_zero_or_pos (k - qs.length) with h | h
       ·exact h
       ·rw [List.getElem?_eq_none (by simp; omega)] at z
        cases z
      rw [hk'] at z
      obtain ⟨z1,z2⟩:=hn p ws (Option.some.inj z)
      have ne:p≠D:=λq=>by rw [q,g'.top] at z2; cases z2
      refine ⟨?_,ne⟩
      rw [Aa7 ne]
      exact z1
    ·have split:∀ (k:Nat) (vs:List Int),(qs++[o'])[k]?=some (some (p,vs))->(k<qs.length/\qs[k]?=some (some (p,vs)))\/(k=qs.length/\o'=some (p,vs)):=λk vs z=>by
      rcases Nat.lt_or_ge k qs.length with hk | hk
      ·rw [List.getElem?_append_left hk] at z
       exact .inl ⟨hk,z⟩
      ·rw [List.getElem?_append_right hk] at z
       have hk':k - qs.length=0:=by
        rcases Nat.eq_zero_or_pos (k - qs.length) with h | h
        ·exact h
        ·rw [List.getElem?_eq_none (by simp; omega)] at z
         cases z
       rw [hk'] at z
       exact .inr ⟨by omega,Option.some.inj z⟩
     have old:∀ (k:Nat) (vs vs':List Int),qs[k]?=some (some (p,vs))->o'=some (p,vs')->False:=λk vs vs' z1 z2=>by
      have h1:=(g'.each k p vs z1).1
      rw [(hn p vs' z2).2] at h1
      cases h1
     rcases split k ws z1 with ⟨_,a1⟩ | ⟨rfl,a1⟩ <;> rcases split l ws' z2 with ⟨_,a2⟩ | ⟨rfl,a2⟩
     ·exact g'.nd k l p ws ws' a1 a2
     ·exact (old _ _ _ a1 a2).elim
     ·exact (old _ _ _ a2 a1).elim
     ·rfl
    ·rw [htake]
     unfold cont at hc ⊢
     rw [List.map_append,List.map_append,hc]
     congr 1
     simp [ho]
    ·rcases hb with rfl | ⟨k,ws,z⟩
     ·exact hD
     ·rcases Nat.lt_or_ge k qs.length with hk | hk
      ·rw [List.getElem?_append_left hk] at z
       exact hfr b (.inr ⟨k,ws,z⟩)
      ·rw [List.getElem?_append_right hk] at z
       have hk':k - qs.length=0:=by
        rcases Nat.eq_zero_or_pos (k - qs.length) with h | h
        ·exact h
        ·rw [List.getElem?_eq_none (by simp; omega)] at z
         cases z
       rw [hk'] at z
       exact ss.free (hn b ws (Option.some.inj z)).2
   cases o with
   | none =>
    refine ⟨_,rfl,rfl,_,rfl,iteT ?_⟩
    exact more none H' rfl (Same.refl _) λp ws z=>by cases z
   | some x =>
    obtain ⟨p,ws⟩:=x
    refine ⟨_,rfl,rfl,_,rfl,iteF ⟨_,rfl,p,_,rfl,.inl (SqL.of (ss _ _ (g.each i p ws e).1)),λl hl=>?_⟩⟩
    refine more (some (l,ws)) _ rfl (Aa6 hl) λp' ws' z=>?_
    cases z
    exact ⟨upd_same,hl⟩
 ·rintro D ys H' ⟨qs,_,ss,g',rfl,hq,hc,hfr⟩
  rw [List.length_map,List.take_length] at hc
  exact q D H' qs ss g' hc hfr
end L2
end
section
namespace L2
open PySem PySem.Spec PyProof.Rows
theorem Inv.turnedN {X:Cx} {pins:List (Addr×Obj)} {σ:St} {H:Hp} {s:Shared} {h':Heap} {t':Nat} {fp:List Addr} (I:Inv X pins σ H s) (k:∀ b o,b ∉ fp->s.heap.get? b=some o->h'.get? b=some o) (hf:∀ b ∈ fp,FpOk X pins H b):Inv X pins σ H { s with heap:=h',toks:=t' }:=by
 have nit:∀ b u,H b=some u->b ∉ fp:=λb u e z=>by rw [(hf b z).1] at e; cases e
 refine I.step (g':=s.gens) (d':=s.drawn) (ch:=fp) (λb hb=>?_) (λb o _ _ hc e _=>k b o hc e) (λb o _ _ hc e _=>⟨o.slots,k b o hc e⟩) (λ_ _ _ _ n=>n)
  (λb o hc e=>⟨o,k b o hc e⟩) (λ_ _ e=>e) (λ_ _ _ e=>e) (λb ps e=>⟨#[],by rw [e]; simp⟩) (λm hm=>?_) (λb u e=>?_) I.bare
 ·obtain ⟨f0,f1,f2,f3,f4,f5⟩:=hf b hb
  exact ⟨f3,f1,f4,f5⟩
 ·obtain ⟨o,es,ep,ho,r⟩:=hm
  exact ⟨o,es,ep,k _ o (λz=>(hf _ z).2.1 rfl) ho,r⟩
 ·refine (I.hok b u e).stay (λc v hc q=>k c v ?_ q) (λ_ q=>q) λ_ _ q=>q
  rcases hc with z | z
  ·rw [z]; exact nit b u e
  ·exact nit c _ z
end L2
end
section
namespace L2
open PySem PySem.Spec PyProof.Rows
theorem Be3 {ps:Pgs} {o:Option (Addr×List Int)} {p:Addr} {vs:List Int} {k:Nat} (z:(ps++[o])[k]?=some (some (p,vs))):(k<ps.length/\ps[k]?=some (some (p,vs)))\/(k=ps.length/\o=some (p,vs)):=by
 rcases Nat.lt_or_ge k ps.length with hk | hk
 ·rw [List.getElem?_append_left hk] at z
  exact .inl ⟨hk,z⟩
 ·rw [List.getElem?_append_right hk] at z
  have hk':k - ps.length=0:=by
   rcases Nat.eq_zero_or_pos (k - ps.length) with h | h
   ·exact h
   ·rw [List.getElem?_eq_none (by simp; omega)] at z
    cases z
  rw [hk'] at z
  exact .inr ⟨by omega,Option.some.inj z⟩
theorem Pg.app {H H2:Hp} {D:Addr} {qs:Pgs} {o:Option (Addr×List Int)} (g:Pg H D qs) (s2:Same H H2) (hn:∀ (p:Addr) (ws:List Int),o=some (p,ws)->H2 p=some (.lst (ws.map V.int))/\H p=none) :
  Pg (upd H2 D (.lst (qs.map pgV++[pgV o]))) D (qs++[o]):=by
 refine ⟨by rw [upd_same,List.map_append]; rfl,λk p ws z=>?_,λk l p ws ws' z1 z2=>?_⟩
 ·rcases Be3 z with ⟨_,z⟩ | ⟨_,z⟩
  ·have:=g.each k p ws z
   refine ⟨?_,this.2⟩
   rw [Aa7 this.2]
   exact s2 _ _ this.1
  ·obtain ⟨z1,z2⟩:=hn p ws z
   have ne:p≠D:=λq=>by rw [q,g.top] at z2; cases z2
   refine ⟨?_,ne⟩
   rw [Aa7 ne]
   exact z1
 ·have old:∀ (k:Nat) (vs vs':List Int),qs[k]?=some (some (p,vs))->o=some (p,vs')->False:=λk vs vs' z1 z2=>by
   have h1:=(g.each k p vs z1).1
   rw [(hn p vs' z2).2] at h1
   cases h1
  rcases Be3 z1 with ⟨_,a1⟩ | ⟨rfl,a1⟩ <;> rcases Be3 z2 with ⟨_,a2⟩ | ⟨rfl,a2⟩
  ·exact g.nd k l p ws ws' a1 a2
  ·exact (old _ _ _ a1 a2).elim
  ·exact (old _ _ _ a2 a1).elim
  ·rfl
theorem At.app {D b:Addr} {qs:Pgs} {o:Option (Addr×List Int)} (h:At D (qs++[o]) b):At D qs b\/∃ ws,o=some (b,ws):=by
 rcases h with rfl | ⟨k,ws,z⟩
 ·exact .inl (.inl rfl)
 ·rcases Be3 z with ⟨_,z⟩ | ⟨_,z⟩
  ·exact .inl (.inr ⟨k,ws,z⟩)
  ·exact .inr ⟨ws,z⟩
theorem Good.app {qs:Pgs} {o:Option (Addr×List Int)} (g:Good qs) (h:∀ (p:Addr) (ws:List Int),o=some (p,ws)->ws.length=8/\∀ w ∈ ws,0<=w/\w<281474976710656):Good (qs++[o]):=λk p ws z=>by
 rcases Be3 z with ⟨_,z⟩ | ⟨_,z⟩
 ·exact g k p ws z
 ·exact h p ws z
theorem Da6 {K:PySem.W.Frag} {H:Hp}:∀ ws:List Int,DatsR K H (ws.map V.int) (ws.map PyData.int)
 | []=>.nil
 | b::bs=>.cons (.int b) (Da6 bs)
theorem layI:∀ ws:List Int,PyData.canLayAll0 (ws.map PyData.int)=true/\PyData.depthAll (ws.map PyData.int)=0
 | []=>⟨rfl,rfl⟩
 | b::bs=>by
  obtain ⟨h1,h2⟩:=layI bs
  constructor
  ·simp only [List.map_cons,PyData.canLayAll0,PyData.canLay0,h1,Bool.and_self]
  ·simp only [List.map_cons,PyData.depthAll,PyData.depth,h2,Nat.max_self]
theorem eqvI:∀ ws:List Int,PyData.eqvAll (ws.map PyData.int) (ws.map PyData.int)=true
 | []=>rfl
 | b::bs=>by simp only [List.map_cons,PyData.eqvAll,PyData.eqv,eqvI bs,beq_self_eq_true,Bool.and_self]
theorem Ct9 {K:PySem.W.Frag} {H:Hp}:∀ bs:List Bool,DatsR K H (bs.map V.bl) (bs.map PyData.bool)
 | []=>.nil
 | b::bs=>.cons (.bl b) (Ct9 bs)
theorem layB:∀ bs:List Bool,PyData.canLayAll0 (bs.map PyData.bool)=true/\PyData.depthAll (bs.map PyData.bool)=0
 | []=>⟨rfl,rfl⟩
 | b::bs=>by
  obtain ⟨h1,h2⟩:=layB bs
  constructor
  ·simp only [List.map_cons,PyData.canLayAll0,PyData.canLay0,h1,Bool.and_self]
  ·simp only [List.map_cons,PyData.depthAll,PyData.depth,h2,Nat.max_self]
theorem Bv1 (bs:List Bool):SeqAt.shaped (.list (bs.map PyData.bool))=true:=by
 obtain ⟨h1,h2⟩:=layB bs
 simp only [SeqAt.shaped,PyData.canLay0,PyData.depth,h1,h2,Bool.true_and]
 decide
end L2
end
section
namespace L2
open PySem
structure Db3 (K:PySem.W.Frag) (C:Addr) (m:Str) (f:Addr):Prop where
 sp:PySem.W.specialIn K (.ref C) "__getattribute__"=some (some (.builtin "type.__getattribute__"))
 rd:PySem.W.readsIn K C (.type "type")=true
 at_:PySem.W.findCls K (.ref C) (.type "type") m=some (.val (.ref f))
 kp:PySem.W.keepIn K (.ref f)=true
section
variable {X : Cx} {CX : CXT} {k : Nat} {f C : Addr} {fd : FuncData} {ps : List Str} {sp : Sp} {dvs : List V} {ds : List Value} {E : XK} {x m : Str} {p pos apos : Pos} {e o : Expr} {es : List Expr} {t : TA}
theorem Cf1 {pl:Sem Bool} (F:FnOk X.prog X.w X.K X.mg X.base CX k f fd ps sp) (hr:Room k X.A) (hg:Gl X x) (hm:X.mg x=some (.ref C)) (c:Db3 X.K C m f) (hb:Binds X.K fd ps ds) (hd:Vals dvs ds) (hx:An1 CX X E)
  (ha:PA X (e::es) t) (hdb:(x == ("__debug__":Str))=false:=by decide)
  (hst:starEach (e::es) X.env=(false,eval e X.env)::starEach es X.env:=by rfl) (hpl:(backTo pos (starEach es X.env)).any (·.1)=false:=by rfl)
  (ht:eval (.Call (.Attribute (.Name x p) m apos) (e::es) [] pos) X.env=(do
   let ov <- eval (.Name x p) X.env
   standAt apos.atName
   let (f,first) <- holding [ov] (getMethod ov m pl)
   callWith pos f first (backTo pos (starEach (e::es) X.env)) (backToKw pos (keywordEach [] X.env))):=by rfl) :
  PE X (.Call (.Attribute (.Name x p) m apos) (e::es) [] pos) (Cc3 sp dvs E t):=by
 intro pins s σ H Q I h
 refine PySem.W.methodCall_KW (pl:=pl) (Am0 I hg hm ?_ hdb) ht
 refine PySem.W.method_cls I.kIn c.sp (PySem.W.cls_value I.kIn c.rd c.at_ rfl ?_)
 have I1:=I.tok (s.toks+1)
 refine PySem.W.callWith_K (first:=[]) (h₀:=X.base) I.ok.mod.kin c.kp (thn (ha pos pins _ σ H _ I1 h) λus s1 ⟨vs,H1,I2,r,q⟩=>⟨I2.kIn,?_⟩) hst hpl
 exact Bm1 F hr hb hd hx I2 r q
end
end L2
end
section
namespace L2
open PySem PySem.Spec PyProof.Rows
end L2
namespace L2
open PySem PySem.Spec PyProof.Rows
section
variable (P : Program) (w : World)
end
section
variable {P : Program} {w : World} {H H' : Hp} {h h' : Heap} {a : Addr} {o : HO}
end
section
variable {P : Program} {w : World} {H : Hp} {h h' : Heap} {x e : Addr} {o' : HO}
end
section
variable {fs fs' ex ex' : List Addr} {H H1 H2 : Hp} {h h1 h2 h' : Heap} {a x e : Addr} {o : HO}
end
end L2
namespace L2
open PySem PySem.Spec PyProof.Rows
section
variable {X : Cx} {pins : List (Addr × Obj)} {σ : List (Option V)} {H H' : Hp} {s : Shared} {h' : Heap}
end
end L2
namespace L2
open PySem PySem.Spec PyProof.Rows
section
variable {X : Cx}
variable {a b : Expr} {ta tb : TE} {pos : Pos}
variable {tA tB' : TT} {rest : List Expr}
end
end L2
namespace L2
open PySem PySem.Spec PyProof.Rows
section
variable {X : Cx} {pins : List (Addr × Obj)} {σ : St} {H : Hp} {s : Shared} {a : Addr} {xs ys : List V}
end
section
variable {X : Cx} {pins : List (Addr × Obj)} {σ : St} {H : Hp} {s : Shared} {E : Value → Shared → Prop}
end
section
variable {X : Cx} {st : Stmt} {rest : List Stmt} {t u : TS} {e : Expr} {te : TE} {pos : Pos}
end
section
variable {X : Cx} {pos : Pos}
end
section
variable {X : Cx} {pos : Pos}
end
end L2
namespace L2
open PySem PySem.Spec PyProof.Rows
section
variable {X : Cx} {tg : Expr}
end
end L2
namespace L2
open PySem PySem.Spec PyProof.Rows
section
variable {X : Cx} {a b c : Expr} {ta tb tc : TE} {pos : Pos}
end
section
variable {X : Cx} {a b c : Expr} {ta tb tc : TE} {pos : Pos}
end
end L2
namespace L2
open PySem PySem.Spec PyProof.Rows
section
variable {prog : Program} {w : World} {A : Around} {E : Value → Shared → Prop} {s : Shared} {K : PySem.W.Frag} {x dx C f : Addr} {mA : Str → Option Value} {name : Str} {v : Value}
end
section
variable {P : Program} {w : World} {H H' : Hp} {h h' : Heap} {a C dx : Addr} {fs fs' : List (Str × V)}
end
section
variable {X : Cx} {pins : List (Addr × Obj)} {σ : St} {H : Hp} {s : Shared} {a C dx : Addr} {fs : List (Str × V)} {f : Str} {v : V} {A : Around} {E : Value → Shared → Prop}
end
section
variable {X : Cx} {o e value : Expr} {f : Str} {pos pos' tpos : Pos} {ta tv : TE}
end
section
variable {X : Cx} {pins : List (Addr × Obj)} {σ : St} {H : Hp} {s : Shared} {A : Around} {E : Value → Shared → Prop} {Q : Value → Shared → Prop} {c : Value} {b : Bool}
end
end L2
namespace L2
open PySem PySem.Spec PyProof.Rows
section
variable {X : Cx} {e : Expr} {es : List Expr} {te : TE} {t : TA} {pos : Pos}
end
section
variable {X : Cx} {pins : List (Addr × Obj)} {σ : St} {H : Hp} {s s' : Shared}
end
section
variable {X : Cx} {CX : CXT} {k : Nat} {f C : Addr} {fd : FuncData} {ps : List Str} {sp : Sp} {dvs : List V} {ds : List Value} {E : XK} {x m : Str} {p pos apos : Pos} {e o : Expr} {es : List Expr} {ta : TE} {t : TA}
end
section
variable {X : Cx} {CX : CXT} {k : Nat} {f C : Addr} {fd : FuncData} {ps ks : List Str} {sp : Sp} {E : XK} {x m : Str} {p pos apos kpos : Pos} {e o : Expr} {es : List Expr} {kws : List Keyword} {te ta : TE} {t tk : TA} {nm : Option Str}
variable {g : List Value → List Value → List Value} {gV : List V → List V → List V}
end
end L2
namespace L2
open PySem PySem.Spec PyProof.Rows
section
variable {X : Cx} {x : Str} {p pos : Pos} {e : Expr} {es : List Expr} {t : TA} {id T : String} {r : List V → Hp → VK → Prop}
end
end L2
namespace L2
open PySem PySem.Spec PyProof.Rows
section
variable {κ : Type} [DecidableEq κ]
def valV (kvs:List (κ×V)) (k:κ):Option V:=(kvs.find? λkv=>decide (kv.1=k)).map (·.2)
def putK (kvs:List (κ×V)) (k:κ) (v:V):List (κ×V) :=
 if (kvs.any λkv=>decide (kv.1=k))=true then kvs.map (λkv=>if kv.1=k then (kv.1,v) else kv) else kvs++[(k,v)]
def Ar4 (kvs:List (κ×V)) (k:κ):List (κ×V):=kvs.filter λkv=>decide (kv.1≠k)
theorem Ar6 {p:κ×V} {r:List (κ×V)} {k:κ} (e:p.1=k):valV (p::r) k=some p.2:=by simp [valV,List.find?_cons,e]
theorem Ar7 {p:κ×V} {r:List (κ×V)} {k:κ} (e:¬ p.1=k):valV (p::r) k=valV r k:=by simp [valV,List.find?_cons,e]
theorem Bl5 (k:κ):∀ kvs:List (κ×V),(kvs.any λkv=>decide (kv.1=k))=(valV kvs k).isSome
 | []=>rfl
 | p::r=>by
  rw [List.any_cons]
  by_cases e:p.1=k
  ·simp only [Ar6 e,decide_eq_true e,Bool.true_or,Option.isSome_some]
  ·rw [Ar7 e,decide_eq_false e,Bool.false_or]; exact Bl5 k r
theorem An7 (kvs:List (κ×V)) (k:κ) (v:V):(putK kvs k v).length<=kvs.length+1:=by
 unfold putK
 split
 ·rw [List.length_map]; omega
 ·rw [List.length_append,List.length_cons,List.length_nil]; omega
theorem RelO.isSome_eq {o:Option V} {u:Option Value} (r:RelO o u):o.isSome=u.isSome:=by
 cases o with
 | none=>cases u with
  | none=>rfl
  | some _=>exact (show False from r).elim
 | some _=>cases u with
  | none=>exact (show False from r).elim
  | some _=>rfl
theorem RelO.getD {o:Option V} {u:Option Value} {d:V} {d':Value} (r:RelO o u) (rd:RelV d d'):RelV (o.getD d) (u.getD d'):=by
 cases o with
 | none=>cases u with
  | none=>exact rd
  | some _=>exact (show False from r).elim
 | some _=>cases u with
  | none=>exact (show False from r).elim
  | some _=>exact r
theorem KV.val {kvs:List (κ×V)} {vs:List (κ×Value)} (r:KV kvs vs) (k:κ):RelO (valV kvs k) (valueAt vs k):=by
 unfold KV at r
 induction r with
 | nil=>exact True.intro
 | @cons p q ps qs h t ih =>
  obtain ⟨h1,h2⟩:=h
  by_cases e:p.1=k
  ·have e':q.1=k:=h1.symm.trans e
   have b:valueAt (q::qs) k=some q.2:=by simp [valueAt,List.find?_cons,e']
   rw [Ar6 e,b]; exact h2
  ·have e':¬ q.1=k:=λz=>e (h1.trans z)
   have b:valueAt (q::qs) k=valueAt qs k:=by simp [valueAt,List.find?_cons,e']
   rw [Ar7 e,b]; exact ih
theorem KV.any {kvs:List (κ×V)} {vs:List (κ×Value)} (r:KV kvs vs) (k:κ):(kvs.any λkv=>decide (kv.1=k))=vs.any λkv=>decide (kv.1=k):=by
 unfold KV at r
 induction r with
 | nil=>rfl
 | cons h t ih=>rw [List.any_cons,List.any_cons,ih,h.1]
theorem KV.repl {kvs:List (κ×V)} {vs:List (κ×Value)} (r:KV kvs vs) (k:κ) {y:V} {u:Value} (ry:RelV y u) :
  KV (kvs.map λkv=>if kv.1=k then (kv.1,y) else kv) (vs.map λkv=>if kv.1=k then (kv.1,u) else kv):=by
 unfold KV at r ⊢
 induction r with
 | nil=>exact .nil
 | @cons p q ps qs h t ih =>
  rw [List.map_cons,List.map_cons]
  refine .cons ?_ ih
  obtain ⟨h1,h2⟩:=h
  by_cases e:p.1=k
  ·rw [if_pos e,if_pos (h1.symm.trans e)]; exact ⟨h1,ry⟩
  ·rw [if_neg e,if_neg (λz=>e (h1.trans z))]; exact ⟨h1,h2⟩
theorem KV.put {kvs:List (κ×V)} {vs:List (κ×Value)} (r:KV kvs vs) (k:κ) {y:V} {u:Value} (ry:RelV y u):KV (putK kvs k y) (stored vs k u):=by
 unfold putK stored
 rw [r.any k]
 by_cases e:(vs.any λkv=>decide (kv.1=k))=true
 ·rw [if_pos e,if_pos e]; exact r.repl k ry
 ·rw [if_neg e,if_neg e]; exact Paired.snoc r ⟨rfl,ry⟩
theorem KV.drop {kvs:List (κ×V)} {vs:List (κ×Value)} (r:KV kvs vs) (k:κ):KV (Ar4 kvs k) (without vs k):=by
 unfold KV at r ⊢
 unfold Ar4 without
 induction r with
 | nil=>exact .nil
 | @cons p q ps qs h t ih =>
  obtain ⟨h1,h2⟩:=h
  rw [List.filter_cons,List.filter_cons]
  by_cases e:p.1=k
  ·have a:¬ decide (p.1≠k)=true:=by simp [e]
   have b:¬ decide (q.1≠k)=true:=by simp [h1.symm.trans e]
   rw [if_neg a,if_neg b]; exact ih
  ·have e':¬ q.1=k:=λz=>e (h1.trans z)
   have a:decide (p.1≠k)=true:=by simp [e]
   have b:decide (q.1≠k)=true:=by simp [e']
   rw [if_pos a,if_pos b]; exact .cons ⟨h1,h2⟩ ih
theorem KV.length {kvs:List (κ×V)} {vs:List (κ×Value)} (r:KV kvs vs):kvs.length=vs.length:=Paired.length r
theorem Cj7 (kvs:List (κ×V)) (k:κ):(Ar4 kvs k).length<=kvs.length:=List.length_filter_le _ _
end
theorem Bk6 {P:Program} {w:World} {k:Key} {u:Value} (r:RelV (kV k) u):(Ae9 P w).is k u=true:=by
 cases k with
 | inl i=>obtain ⟨t,e⟩:=(show ∃ t,u=Value.int i t from r); subst e; exact Bi8 P w i t
 | inr x=>obtain ⟨t,e⟩:=(show ∃ t,u=Value.str x t from r); subst e; exact Bi7 P w x t
theorem Bc7 {P:Program} {w:World}:∀ {ks:List Key} {us:List Value},Vals (ks.map kV) us->ItemsAre (Ae9 P w) ks us
 | [],_,r=>by rw [List.map_nil] at r; cases r; exact .nil
 | k::ks,_,r=>by
  rw [List.map_cons] at r
  cases r with
  | cons h t=>exact .cons (Bk6 h) (Bc7 t)
abbrev KT (H:Hp):List (List Key×V)->List (List Key×Addr×Value)->Prop:=Paired λp q=>p.1=q.1/\H q.2.1=some (.tup (p.1.map kV))/\RelV p.2 q.2.2
theorem KT.val {H:Hp} {kvs:List (List Key×V)} {xs:List (List Key×Addr×Value)} (r:KT H kvs xs) (k:List Key):RelO (valV kvs k) ((atKey xs k).map (·.2)):=by
 induction r with
 | nil=>exact True.intro
 | @cons p q ps qs h t ih =>
  obtain ⟨h1,_,h2⟩:=h
  by_cases e:p.1=k
  ·have e':q.1=k:=h1.symm.trans e
   have b:atKey (q::qs) k=some q.2:=by simp [atKey,List.find?_cons,e']
   rw [Ar6 e,b]; exact h2
  ·have e':¬ q.1=k:=λz=>e (h1.trans z)
   have b:atKey (q::qs) k=atKey qs k:=by simp [atKey,List.find?_cons,e']
   rw [Ar7 e,b]; exact ih
theorem KT.repl {H:Hp} {kvs:List (List Key×V)} {xs:List (List Key×Addr×Value)} (r:KT H kvs xs) (k:List Key) {y:V} {u:Value} (ry:RelV y u) :
  KT H (kvs.map λkv=>if kv.1=k then (kv.1,y) else kv) (xs.map (putAt k u)):=by
 induction r with
 | nil=>exact .nil
 | @cons p q ps qs h t ih =>
  rw [List.map_cons,List.map_cons]
  refine .cons ?_ ih
  obtain ⟨h1,h2,h3⟩:=h
  unfold putAt
  by_cases e:p.1=k
  ·rw [if_pos e,if_pos (h1.symm.trans e)]; exact ⟨h1,h2,ry⟩
  ·rw [if_neg e,if_neg (λz=>e (h1.trans z))]; exact ⟨h1,h2,h3⟩
theorem KT.put {H:Hp} {kvs:List (List Key×V)} {xs:List (List Key×Addr×Value)} (r:KT H kvs xs) (k:List Key) {b:Addr} {y:V} {u:Value} (hb:H b=some (.tup (k.map kV))) (ry:RelV y u) :
  KT H (putK kvs k y) (storedH xs k b u):=by
 have e:(kvs.any λkv=>decide (kv.1=k))=(atKey xs k).isSome:=by
  rw [Bl5,(r.val k).isSome_eq,Option.isSome_map]
 unfold putK storedH
 rw [e]
 by_cases q:(atKey xs k).isSome=true
 ·rw [if_pos q,if_pos q]; exact r.repl k ry
 ·rw [if_neg q,if_neg q]; exact Paired.snoc r ⟨rfl,hb,ry⟩
theorem KT.keeps {H H':Hp} {kvs:List (List Key×V)} {xs:List (List Key×Addr×Value)} (r:KT H kvs xs) (ht:∀ b ys,H b=some (.tup ys)->H' b=some (.tup ys)):KT H' kvs xs :=
 Paired.mapP r λ_ _ z=>⟨z.1,ht _ _ z.2.1,z.2.2⟩
section
variable {P : Program} {w : World} {H : Hp} {h : Heap} {a : Addr}
theorem Cw3 {u:HO} (ok:HOk P w H h) (e:Rd H a u):ObjOk P w H h a u:=e.ok ok
theorem Bk9 {kvs:List (Key×V)} (ok:HOk P w H h) (e:Rd H a (.dK kvs)):kvs.length<=sizeLine/\(a == sysModules)=false/\∃ vs,KV kvs vs/\h.DictOf (Ae9 P w) a vs :=
 show ObjOk P w H h a (.dK kvs) from Cw3 ok e
theorem Br7 {kvs:List (Key×V)} (ok:HOk P w H h) (e:H a=some (.dK kvs)):kvs.length<=sizeLine/\(a == sysModules)=false/\∃ vs,KV kvs vs/\h.DictOf (Ae9 P w) a vs:=Bk9 ok (.inl e)
theorem Bc6 {ks:List Key} (ok:HOk P w H h) (e:H a=some (.tup (ks.map kV))):(tupleKind (Ae9 P w)).is h ks a:=by
 obtain ⟨_,its,r,o,h1,h2,n,h3⟩:=(show ObjOk P w H h a (.tup (ks.map kV)) from ok a _ e)
 exact ⟨o,its.toArray,n,h1,h2,h3,by simpa using Bc7 r⟩
theorem Br6 {kvs:List (List Key×V)} (ok:HOk P w H h) (e:Rd H a (.dT kvs)):kvs.length<=sizeLine/\(a == sysModules)=false /\
  ∃ xs,KT H kvs xs/\h.DictOfH (tupleKind (Ae9 P w)) a xs:=by
 obtain ⟨z,y,xs,r,o,es,ep,h1,h2,h3,h4,h5⟩:=(show ObjOk P w H h a (.dT kvs) from Cw3 ok e)
 refine ⟨z,y,xs,r,o,es,ep,h1,h2,h3,h4,λx hx=>?_,h5⟩
 have all:∀ {l:List (List Key×V)} {m:List (List Key×Addr×Value)},KT H l m->∀ x ∈ m,(tupleKind (Ae9 P w)).is h x.1 x.2.1:=by
  intro l m q
  induction q with
  | nil=>intro x hx; exact nomatch hx
  | @cons p q ps qs hq t ih =>
   intro x hx
   rcases List.mem_cons.mp hx with e | hx
   ·subst e
    exact Bc6 ok (by rw [<- hq.1]; exact hq.2.1)
   ·exact ih x hx
 exact all r x hx
theorem De2 {kvs:List (List Key×V)} (ok:HOk P w H h) (e:H a=some (.dT kvs)):kvs.length<=sizeLine/\(a == sysModules)=false /\
  ∃ xs,KT H kvs xs/\h.DictOfH (tupleKind (Ae9 P w)) a xs:=Br6 ok (.inl e)
end
def DGet (H:Hp) (a:Addr) (y:V) (r:Option V):Prop :=
 (∃ kvs k,Rd H a (.dK kvs)/\y=kV k/\r=valV kvs k)\/∃ kvs k b,Rd H a (.dT kvs)/\y=.ref b/\H b=some (.tup (k.map kV))/\r=valV kvs k
def DPut (H:Hp) (a:Addr) (y v:V) (H':Hp):Prop :=
 (∃ kvs k,H a=some (.dK kvs)/\y=kV k/\kvs.length<sizeLine/\H'=upd H a (.dK (putK kvs k v))) \/
 ∃ kvs k b,H a=some (.dT kvs)/\y=.ref b/\H b=some (.tup (k.map kV))/\kvs.length<sizeLine/\H'=upd H a (.dT (putK kvs k v))
theorem DGet.k {H:Hp} {a:Addr} {kvs:List (Key×V)} {k:Key} (e:H a=some (.dK kvs)):DGet H a (kV k) (valV kvs k):=.inl ⟨kvs,k,.inl e,rfl,rfl⟩
theorem DPut.k {H:Hp} {a:Addr} {kvs:List (Key×V)} {k:Key} {v:V} (e:H a=some (.dK kvs)) (hl:kvs.length<sizeLine):DPut H a (kV k) v (upd H a (.dK (putK kvs k v))):=.inl ⟨kvs,k,e,rfl,hl,rfl⟩
section
variable {X : Cx} {pins : List (Addr × Obj)} {σ : St} {H : Hp} {s : Shared} {a : Addr} {y v : V} {u r : Value} {o : Option V} {A : Around} {E : Value → Shared → Prop}
theorem Inv.big (I:Inv X pins σ H s):sysModules<s.heap.objs.size:=by
 have h:mainGlobals<s.heap.objs.size:=(I.mod.glob.keeps I.bk).lt
 exact Nat.lt_trans (by decide) h
theorem Ca6 {Q:Value->Shared->Prop} (hu:A.units+1<cLine) (I:Inv X pins σ H s) (g:DGet H a y (some v)) (ry:RelV y u) (h:∀ w' s',Inv X pins σ H s'->RelV v w'->Q w' s') :
  wpAny (model X.prog X.w) A (getItem (.ref a) u) Q E s:=by
 rcases g with ⟨kvs,k,e,ey,l⟩ | ⟨kvs,k,b,e,ey,eb,l⟩
 ·subst ey
  obtain ⟨z,hd,vs,rel,dd⟩:=Bk9 I.hok e
  obtain ⟨w',hw,rw'⟩:=RelO.some_of (v:=v) (o:=valueAt vs k) (by rw [l]; exact rel.val k)
  exact wpAny_getItem_of (Bk6 ry) dd.mapOf hw (h w' _ (I.tok _) rw')
 ·subst ey
  cases (show u=Value.ref b from ry)
  obtain ⟨z,hd,xs,rel,dd⟩:=Br6 I.hok e
  obtain ⟨w',hw,rw'⟩:=RelO.some_of (v:=v) (o:=(atKey xs k).map (·.2)) (by rw [l]; exact rel.val k)
  obtain ⟨p,hp,hp2⟩:=Option.map_eq_some_iff.mp hw
  refine wpAny_getItem_heap (tupleKind_room_in1 hu) (Bc6 I.hok eb) dd hp ?_
  rw [hp2]
  exact h w' _ (I.tok _) rw'
theorem Cu0 {Q:Value->Shared->Prop} (hu:A.units+1<cLine) (I:Inv X pins σ H s) (g:DGet H a y o) (ry:RelV y u) (h:∀ s',Inv X pins σ H s'->Q (.bool (!o.isSome)) s') :
  wpAny (model X.prog X.w) A (compareOp .NotIn u (.ref a)) Q E s:=by
 rcases g with ⟨kvs,k,e,ey,l⟩ | ⟨kvs,k,b,e,ey,eb,l⟩
 ·subst ey
  obtain ⟨z,hd,vs,rel,dd⟩:=Bk9 I.hok e
  refine wpAny_notIn_of (Bk6 ry) hd dd.mapOf ?_
  rw [<- (rel.val k).isSome_eq,<- l]
  exact h _ (I.tok _)
 ·subst ey
  cases (show u=Value.ref b from ry)
  obtain ⟨z,hd,xs,rel,dd⟩:=Br6 I.hok e
  refine wpAny_notIn_heap (tupleKind_room_in1 hu) (Bc6 I.hok eb) hd dd ?_
  have q:=(rel.val k).isSome_eq
  rw [Option.isSome_map] at q
  rw [<- q,<- l]
  exact h _ (I.tok _)
theorem Az5 {h':Heap} {t':Nat} {ob:HO} (I:Inv X pins σ H s) (mu:Mut (H a)) (hs:Heap.SameBut a s.heap h') (he:∃ q,h'.get? a=some q) (new:ObjOk X.prog X.w (upd H a ob) h' a ob) :
  Inv X pins σ (upd H a ob) { s with heap:=h',toks:=t' } :=
 I.write (x:=a) (e:=a) mu (.inl rfl) (λb q hb z=>(hs.2 b hb).trans z) he new
theorem Bz8 {P:Program} {w:World} {H':Hp} {h':Heap} {kvs:List (Key×V)} {vs:List (Key×Value)} (z:kvs.length<=sizeLine) (hd:(a == sysModules)=false) (rel:KV kvs vs) (dd:h'.DictOf (Ae9 P w) a vs) :
  ObjOk P w H' h' a (.dK kvs):=⟨z,hd,vs,rel,dd⟩
theorem Ca5 {H':Hp} {Q:Unit->Shared->Prop} (hu:A.units+1<cLine) (I:Inv X pins σ H s) (g:DPut H a y v H') (ry:RelV y u) (rv:RelV v r) (h:∀ s',Inv X pins σ H' s'->Q () s') :
  wpAny (model X.prog X.w) A (setItem (.ref a) u r) Q E s:=by
 rcases g with ⟨kvs,k,e,ey,l,eH⟩ | ⟨kvs,k,b,e,ey,eb,l,eH⟩
 ·subst ey eH
  obtain ⟨z,hd,vs,rel,dd⟩:=Br7 I.hok e
  have hz:vs.length<=sizeLine:=by rw [<- rel.length]; exact z
  have hl:(putK kvs k v).length<=sizeLine:=by have:=An7 kvs k v; omega
  refine wpAny_setItem_pairs (hsz:=hz) (Bk6 ry) dd λh' dd' hs=>h _ ?_
  have he:∃ q,h'.get? a=some q:=let ⟨q,_,_,hq,_⟩:=dd'; ⟨q,hq⟩
  exact Az5 I (by rw [e]; exact True.intro) hs he (Bz8 hl hd (rel.put k rv) dd')
 ·subst ey eH
  cases (show u=Value.ref b from ry)
  obtain ⟨z,hd,xs,rel,dd⟩:=De2 I.hok e
  have hz:xs.length<=sizeLine:=by rw [<- Paired.length rel]; exact z
  have hl:(putK kvs k v).length<=sizeLine:=by have:=An7 kvs k v; omega
  refine wpAny_setItem_heap (hsz:=hz) (tupleKind_room_in1 hu) (Bc6 I.hok eb) dd λh' dd' hs=>h _ ?_
  obtain ⟨q,es,ep,hq,h2,h3,h4,_,h5⟩:=dd'
  refine Az5 I (by rw [e]; exact True.intro) hs ⟨q,hq⟩ ⟨hl,hd,_,(rel.put k eb rv).keeps λc ys ec=>?_,q,es,ep,hq,h2,h3,h4,h5⟩
  rw [Aa7 (Af1 ec e (λz=>nomatch z))]
  exact ec
end
section
variable {X : Cx} {pins : List (Addr × Obj)} {σ : St} {H : Hp} {s : Shared} {a : Addr} {kvs : List (Key × V)} {k : Key} {u : Value} {A : Around} {E : Value → Shared → Prop}
theorem De8 {v:V} {more:List Value} {Q:Value->Shared->Prop} (I:Inv X pins σ H s) (e:H a=some (.dK kvs)) (ry:RelV (kV k) u) (l:valV kvs k=some v) (hm:more=[]\/∃ x,more=[x])
  (h:∀ w' s',Inv X pins σ (upd H a (.dK (Ar4 kvs k))) s'->RelV v w'->Q w' s'):wpAny (model X.prog X.w) A (call (.builtin "dict.pop") (.ref a::u::more)) Q E s:=by
 obtain ⟨z,hd,vs,rel,dd⟩:=Br7 I.hok e
 obtain ⟨w',hw,rw'⟩:=RelO.some_of (v:=v) (o:=valueAt vs k) (by rw [<- l]; exact rel.val k)
 have hp:(keyPart u).isSome=true:=by
  cases k with
  | inl i=>obtain ⟨t,q⟩:=(show ∃ t,u=Value.int i t from ry); subst q; rfl
  | inr x=>obtain ⟨t,q⟩:=(show ∃ t,u=Value.str x t from ry); subst q; rfl
 have ha:argsOk "dict.pop" ⟨.ref a::u::more,[]⟩:=by
  rcases hm with q | ⟨x,q⟩
  ·subst q; exact PySem.F.args_dict_pop_2 _ _
  ·subst q; exact PySem.F.args_dict_pop_3 _ _ _
 refine call_meetsIn PySem.F.slot_dict_pop dd.typeIs PySem.F.entry_dict_pop ha (meets_dict_pop_there (Ae9 X.prog X.w) a (Bk6 ry) more hm hp)
  ⟨vs,w',dd,by rw [<- rel.length]; exact z,hw,λh' dd' hs=>h w' _ ?_ rw'⟩
 have he:∃ q,h'.get? a=some q:=let ⟨q,_,_,hq,_⟩:=dd'; ⟨q,hq⟩
 exact Az5 I (by rw [e]; exact True.intro) hs he (Bz8 (Nat.le_trans (Cj7 kvs k) z) hd (rel.drop k) dd')
theorem De9 {Q:Value->Shared->Prop} (I:Inv X pins σ H s) (e:Rd H a (.dK kvs)) (h:∀ t s',Inv X pins σ H s'->Q (.int kvs.length t) s'):wpAny (model X.prog X.w) A (call (.builtin "len") [.ref a]) Q E s:=by
 obtain ⟨z,hd,vs,rel,dd⟩:=Bk9 I.hok e
 refine call_len_dict hd dd (by rw [<- rel.length]; rw [sizeLine_eq] at z; omega) ?_
 rw [<- rel.length]
 exact h _ _ (I.tok _)
end
def NoSl (i:Expr):Prop:=∀ ov iv,subscripted i false ov iv=operate [ov,iv] (getItem ov iv)
theorem Cm3 {prog:Program} {w:World} {A:Around} {E:Value->Shared->Prop} {s:Shared} {env:Env} {value slice:Expr} {pos:Pos} {T id:String} {Q:Value->Shared->Prop}
  (hl:typeLookup (.type T) "__getitem__"=pure (some (.builtin id))) (hs:NoSl slice)
  (h:wpAny (model prog w) A (eval value env) (λo s₁=>wpAny (model prog w) A (eval slice env) (λi s₂=>s₂.TypeIs o T/\wpAny (model prog w) A (getItem o i) Q E s₂) E s₁) E s) :
  wpAny (model prog w) A (eval (.Subscript value slice pos) env) Q E s:=by
 refine Subscript_ (wpAny_mono h (λo s₁ h₁=>wpAny_mono h₁ (λi s₂ h₂=>?_) λ_ _ x=>x) λ_ _ x=>x)
 obtain ⟨hT,h₂⟩:=h₂
 unfold subscriptTail
 refine wpAny_bind ?_
 rw [getitemInPython_of_ne hT.not_modules]
 refine wpAny_bind (wpAny_specialOf hT hl ?_)
 have fin:wpAny (model prog w) A (subscripted slice false o i) (λr s₃=>wpAny (model prog w) A (letTemporaryGo value o r >>= λ_=>pure r) Q E s₃) E s₂:=by
  rw [hs o i]
  exact wpAny_operating (wpAny_mono h₂ (λr s₃ h₃=>wpAny_bind (wpAny_letTemporaryGo (wpAny_pure h₃))) λ_ _ x=>x)
 first
  | exact wpAny_pure (wpAny_bind fin)
  | exact wpAny_bind (wpAny_pure (wpAny_bind fin))
  | exact wpAny_bind fin
theorem Bl0 {X:Cx} {pins:List (Addr×Obj)} {σ:St} {H:Hp} {s:Shared} {a:Addr} {y:V} {o:Option V} (I:Inv X pins σ H s) (g:DGet H a y o):s.TypeIs (.ref a) "dict":=by
 rcases g with ⟨kvs,k,e,_,_⟩ | ⟨kvs,k,b,e,_,_,_⟩
 ·obtain ⟨_,_,vs,_,dd⟩:=Bk9 I.hok e
  exact dd.typeIs
 ·obtain ⟨_,_,xs,_,dd⟩:=Br6 I.hok e
  exact dd.typeIs
def Dc2 (td ty:TE):TE:=λσ H Q=>td σ H λx H1=>ty σ H1 λy H2=>∃ a v,x=.ref a/\DGet H2 a y (some v)/\Q v H2
def Cm2 (ty td:TE):TE:=λσ H Q=>ty σ H λy H1=>td σ H1 λx H2=>∃ a o,x=.ref a/\DGet H2 a y o/\Q (.bl (!o.isSome)) H2
def Dd2 (td ty tv:TE):TS:=λD σ H=>tv σ H λv H1=>td σ H1 λx H2=>ty σ H2 λy H3=>∃ a H4,x=.ref a/\DPut H3 a y v H4/\D.nx σ H4
section
variable {X : Cx} {o i e value : Expr} {pos pos' tpos : Pos} {td ty tv : TE}
theorem Ag5 (hu:X.A.units+1<cLine) (ho:PE X o td) (hi:PE X i ty) (hs:NoSl i):PE X (.Subscript o i pos) (Dc2 td ty):=by
 intro pins s σ H Q I h
 refine Cm3 PySem.F.slot_dict_getitem.lookup hs (thn (ho pins s σ H _ I h) λu s1 ⟨x,H1,I1,rx,q1⟩=>thn (hi pins s1 σ H1 _ I1 q1) λiv s2 ⟨y,H2,I2,ry,a,v,ex,g,q2⟩=>?_)
 subst ex
 obtain rfl:u=Value.ref a:=rx
 exact ⟨Bl0 I2 g,Ca6 hu I2 g ry λw' s3 I3 rw'=>⟨v,H2,I3,rw',q2⟩⟩
theorem Bw4 (hu:X.A.units+1<cLine) (hi:PE X i ty) (ho:PE X o td):PC X .NotIn i o (Cm2 ty td):=by
 intro pins s σ H Q I h
 refine thn (hi pins s σ H _ I h) λiv s1 ⟨y,H1,I1,ry,q1⟩=>thn (ho pins s1 σ H1 _ I1 q1) λu s2 ⟨x,H2,I2,rx,a,ov,ex,g,q2⟩=>?_
 subst ex
 obtain rfl:u=Value.ref a:=rx
 exact Cu0 hu I2 g ry λs3 I3=>⟨.bl (!ov.isSome),H2,I3,rfl,q2⟩
theorem Au0 (hu:X.A.units+1<cLine) (ho:PE X o td) (hi:PE X i ty) (hv:PE X value tv) (hs:swapsWith value (some (.Subscript o i pos')) pos.line X.env=pure false) :
  PS X (.Assign [.Subscript o i pos'] value pos) (Dd2 td ty tv):=by
 intro pins s σ H D I h
 refine wpAny_Assign_Subscript (thn (hv pins s σ H _ I h) λr s1 ⟨v,H1,I1,rv,q1⟩=>thn (ho pins s1 σ H1 _ I1 q1) λu s2 ⟨x,H2,I2,rx,q2⟩=>thn (hi pins s2 σ H2 _ I2 q2) λiv s3 ⟨y,H3,I3,ry,a,H4,ex,g,q3⟩=>?_) hs
 subst ex
 obtain rfl:u=Value.ref a:=rx
 exact Ca5 hu I3 g ry rv λs4 I4=>⟨σ,H4,I4,q3⟩
end
theorem Bo1 {P:Program} {w:World} {H:Hp} (h:Heap) (hb:sysModules<h.objs.size):ObjOk P w H (h.push { cls:=.type "dict",data:=.dict #[] }) h.objs.size (.dK []) :=
 ⟨Nat.zero_le _,beq_eq_false_iff_ne.mpr (Ne.symm (Nat.ne_of_lt hb)),[],.nil,Heap.DictOf.new h⟩
def Cu9:TE:=λ_ H Q=>∀ p,H p=none->Q (.ref p) (upd H p (.dK []))
section
variable {X : Cx} {pos : Pos}
theorem Bm4:PE X (.Dict [] [] pos) Cu9:=λpins s σ H Q I h =>
 wpAny_Dict_empty ⟨.ref s.heap.objs.size,_,I.laid (a:=s.heap.objs.size) (o:=.dK []) (t':=s.toks) (λ_ _ q=>Heap.get?_push_of_some _ q) (Nat.le_refl _) (Bo1 s.heap I.big),rfl,h _ (I.hok.fresh (Nat.le_refl _))⟩
end
def Bs3:List (TE×TE)->St->Hp->(List (V×V)->Hp->Prop)->Prop
 | [],_,H,Q=>Q [] H
 | (tk,tv)::r,σ,H,Q=>tk σ H λx H1=>tv σ H1 λy H2=>Bs3 r σ H2 λps H3=>Q ((x,y)::ps) H3
abbrev VV:List (V×V)->List (Value×Value)->Prop:=Paired λp q=>RelV p.1 q.1/\RelV p.2 q.2
def PPs (X:Cx) (pos:Pos) (keys:List (Option Expr)) (values:List Expr) (trs:List (TE×TE)):Prop :=
 ∀ (pins:List (Addr×Obj)) (s:Shared) (σ:St) (H:Hp) (Q:List (V×V)->Hp->Prop),Inv X pins σ H s->Bs3 trs σ H Q ->
  wpAny (model X.prog X.w) X.A (evalPairs (pairTrees keys values X.env pos)) (λvs s'=>∃ ps H',Inv X pins σ H' s'/\VV ps vs/\Q ps H') X.xe s
theorem Cp0 {X:Cx} {pos:Pos}:PPs X pos [] [] []:=λpins s σ H Q I h=>pairTrees_nil_walk ⟨[],H,I,.nil,h⟩
theorem Ap1 {X:Cx} {pos:Pos} {k v:Expr} {ks:List (Option Expr)} {vs:List Expr} {tk tv:TE} {trs:List (TE×TE)} (hk:PE X k tk) (hv:PE X v tv) (hr:PPs X pos ks vs trs) :
  PPs X pos (some k::ks) (v::vs) ((tk,tv)::trs):=λpins s σ H Q I h =>
 pairTrees_cons_walk (thn (hk pins s σ H _ I h) λu s1 ⟨x,H1,I1,rx,q1⟩=>thn (hv pins s1 σ H1 _ I1 q1) λw2 s2 ⟨y,H2,I2,ry,q2⟩ =>
  thn (hr pins s2 σ H2 _ I2 q2) λws s3 ⟨ps,H3,I3,rel,q3⟩=>⟨(x,y)::ps,H3,I3,.cons ⟨rx,ry⟩ rel,q3⟩)
def Av7 (kvs more:List (Key×V)):List (Key×V):=more.foldl (λacc kv=>putK acc kv.1 kv.2) kvs
theorem KV.merge:∀ {more:List (Key×V)} {rs:List (Key×Value)} {kvs:List (Key×V)} {vs:List (Key×Value)},KV more rs->KV kvs vs->KV (Av7 kvs more) (merged vs rs):=by
 intro more rs kvs vs r
 unfold KV at r
 induction r generalizing kvs vs with
 | nil=>intro q; exact q
 | @cons p q ps qs h t ih =>
  intro r0
  have e:KV (putK kvs p.1 p.2) (stored vs q.1 q.2):=by
   have:=r0.put p.1 h.2
   rw [<- h.1]; exact this
  exact ih e
theorem Ap3:∀ (more kvs:List (Key×V)),(Av7 kvs more).length<=kvs.length+more.length
 | [],kvs=>by show kvs.length<=kvs.length+0; omega
 | p::r,kvs=>by
  have h1:=Ap3 r (putK kvs p.1 p.2)
  have h2:=An7 kvs p.1 p.2
  show (Av7 (putK kvs p.1 p.2) r).length<=_
  rw [List.length_cons]; omega
theorem Aw0 {P:Program} {w:World}:∀ {kvs:List (Key×V)} {ws:List (Value×Value)},VV (kvs.map λkv=>(kV kv.1,kv.2)) ws->∃ rs,Carries (Ae9 P w) ws rs/\KV kvs rs
 | [],_,r=>by rw [List.map_nil] at r; cases r; exact ⟨[],True.intro,.nil⟩
 | p::kvs,_,r=>by
  rw [List.map_cons] at r
  cases r with
  | @cons a b as bs h t =>
   obtain ⟨rs,c,q⟩:=Aw0 (P:=P) (w:=w) t
   obtain ⟨b1,b2⟩:=b
   exact ⟨(p.1,b2)::rs,⟨Bk6 h.1,rfl,c⟩,.cons ⟨rfl,h.2⟩ q⟩
def Dc1 (trs:List (TE×TE)):TE:=λσ H Q=>∀ p,H p=none->Bs3 trs σ (upd H p (.dK [])) λps H2=>H2 p=some (.dK [])/\∃ kvs:List (Key×V),ps=kvs.map (λkv=>(kV kv.1,kv.2))/\kvs.length<=15/\Q (.ref p) (upd H2 p (.dK (Av7 [] kvs)))
theorem Cp3 {X:Cx} {pos:Pos} {keys:List (Option Expr)} {values:List Expr} {trs:List (TE×TE)} (h:PPs X pos keys values trs) (hall:keys.all (·.isSome)=true) (hl:keys.length=values.length) (h0:keys≠[])
  (h15:keys.length<=15):PE X (.Dict keys values pos) (Dc1 trs):=by
 intro pins s σ H Q I q
 have hn:=I.hok.fresh (Nat.le_refl s.heap.objs.size)
 have I1:=I.laid (a:=s.heap.objs.size) (o:=.dK []) (h':=s.heap.push { cls:=.type "dict",data:=.dict #[] }) (t':=s.toks) (λ_ _ q=>Heap.get?_push_of_some _ q) (Nat.le_refl _) (Bo1 s.heap I.big)
 refine wpAny_Dict_walk (knd:=Ae9 X.prog X.w) hall hl h0 h15 (thn (h pins _ σ _ _ I1 (q _ hn)) λws s2 ⟨ps,H2,I2,rel,e,kvs,ep,lk,q2⟩=>?_)
 subst ep
 obtain ⟨rs,c,rk⟩:=Aw0 (P:=X.prog) (w:=X.w) rel
 obtain ⟨z,hd,vs0,r0,dd⟩:=Br7 I2.hok e
 cases r0
 refine ⟨rs,c,dd,λh' dd' hs=>⟨.ref s.heap.objs.size,_,?_,rfl,q2⟩⟩
 have hz:(Av7 [] kvs).length<=sizeLine:=by
  have h1:=Ap3 kvs []
  rw [List.length_nil] at h1
  rw [sizeLine_eq]; omega
 have he:∃ q,h'.get? s.heap.objs.size=some q:=let ⟨q,_,_,hq,_⟩:=dd'; ⟨q,hq⟩
 exact Az5 I2 (by rw [e]; exact True.intro) hs he (Bz8 hz hd (rk.merge .nil) dd')
structure M1 (X:Cx) (o:Expr) (m:Str) (apos:Pos) (e:Expr) (cpos:Pos):Prop where
 base:attributeBase o m X.env (eval o X.env)=eval o X.env
 few:((backTo cpos (starEach [e] X.env)).all (λx=>!x.1) && (backToKw cpos (keywordEach [] X.env)).all (λx=>x.1.isSome)
  && decide (([e]:List Expr).length+([]:List Keyword).length+(if ([]:List Keyword).isEmpty then 0 else 1)<30))=true
 line:(apos.endLine == cpos.line)=true
 trees:backTo cpos (starEach [e] X.env)=[(false,eval e X.env)]
structure M2 (X:Cx) (o:Expr) (m:Str) (apos:Pos) (e f:Expr) (cpos:Pos):Prop where
 base:attributeBase o m X.env (eval o X.env)=eval o X.env
 few:((backTo cpos (starEach [e,f] X.env)).all (λx=>!x.1) && (backToKw cpos (keywordEach [] X.env)).all (λx=>x.1.isSome)
  && decide (([e,f]:List Expr).length+([]:List Keyword).length+(if ([]:List Keyword).isEmpty then 0 else 1)<30))=true
 line:(apos.endLine == cpos.line)=true
 trees:backTo cpos (starEach [e,f] X.env)=[(false,eval e X.env),(false,eval f X.env)]
def IsD (H:Hp) (a:Addr):Prop:=(∃ kvs,Rd H a (.dK kvs))\/∃ kvs,Rd H a (.dT kvs)
theorem Cl3 {X:Cx} {pins:List (Addr×Obj)} {σ:St} {H:Hp} {s:Shared} {a:Addr} (I:Inv X pins σ H s) (d:IsD H a) :
  s.TypeIs (.ref a) "dict"/\(∀ b,Value.ref a=.ref b->∃ ob,s.heap.get? b=some ob/\ob.dict=none)/\(a == sysModules)=false:=by
 rcases d with ⟨kvs,e⟩ | ⟨kvs,e⟩
 ·obtain ⟨_,hd,vs,_,dd⟩:=Bk9 I.hok e
  refine ⟨dd.typeIs,λb q=>?_,hd⟩
  cases q
  obtain ⟨ob,_,_,h1,h2,_⟩:=dd
  exact ⟨ob,h1,h2.2.1⟩
 ·obtain ⟨_,hd,xs,_,dd⟩:=Br6 I.hok e
  refine ⟨dd.typeIs,λb q=>?_,hd⟩
  cases q
  obtain ⟨ob,_,_,h1,h2,_⟩:=dd
  exact ⟨ob,h1,h2.2.1⟩
section
variable {X : Cx} {pins : List (Addr × Obj)} {σ : St} {H : Hp} {s : Shared} {a : Addr} {y d : V} {u r : Value} {o : Option V} {A : Around} {E : Value → Shared → Prop}
theorem Da8 {Q:Value->Shared->Prop} (hu:A.units+1<cLine) (I:Inv X pins σ H s) (g:DGet H a y o) (ry:RelV y u) (h:∀ w' s',Inv X pins σ H s'->RelV (o.getD .non) w'->Q w' s') :
  wpAny (model X.prog X.w) A (call (.builtin "dict.get") [.ref a,u]) Q E s:=by
 rcases g with ⟨kvs,k,e,ey,l⟩ | ⟨kvs,k,b,e,ey,eb,l⟩
 ·subst ey
  obtain ⟨z,hd,vs,rel,dd⟩:=Bk9 I.hok e
  refine call_meetsIn PySem.F.slot_dict_get dd.typeIs PySem.F.entry_dict_get (PySem.F.args_dict_get_2 _ _) (meets_dict_get (Ae9 X.prog X.w) a (Bk6 ry) hd) ⟨_,dd.mapOf,h _ _ (I.tok _) ?_⟩
  rw [l]
  exact (rel.val k).getD rfl
 ·subst ey
  cases (show u=Value.ref b from ry)
  obtain ⟨z,hd,xs,rel,dd⟩:=Br6 I.hok e
  refine call_meetsIn PySem.F.slot_dict_get dd.typeIs PySem.F.entry_dict_get (PySem.F.args_dict_get_2 _ _) (meetsH_dict_get (tupleKind (Ae9 X.prog X.w)) a b hd) ⟨tupleKind_room_in1 hu,k,xs,Bc6 I.hok eb,dd,h _ _ (I.tok _) ?_⟩
  rw [l]
  exact (rel.val k).getD rfl
end
def Cv0 (td ty:TE):TE:=λσ H Q=>td σ H λx H1=>∃ a,x=.ref a/\IsD H1 a/\ty σ H1 λy H2=>∃ o,DGet H2 a y o/\Q (o.getD .non) H2
def Cu8 (td ty:TE):TE:=λσ H Q=>td σ H λx H1=>∃ a,x=.ref a/\IsD H1 a/\ty σ H1 λy H2=>∃ kvs k v,H2 a=some (.dK kvs)/\y=kV k/\valV kvs k=some v/\Q v (upd H2 a (.dK (Ar4 kvs k)))
section
variable {X : Cx} {o e f : Expr} {apos cpos : Pos} {td ty tx : TE}
theorem Ce9 (hu:X.A.units+1<cLine) (ho:PE X o td) (he:PE X e ty) (m:M1 X o "get" apos e cpos):PE X (.Call (.Attribute o "get" apos) [e] [] cpos) (Cv0 td ty):=by
 intro pins s σ H Q I h
 refine wpAny_Call_method m.base m.few m.line PySem.F.plainAttrs_dict PySem.F.slot_dict_get PySem.F.type_dict_get (thn (ho pins s σ H _ I h) λu s1 ⟨x,H1,I1,rx,a,ex,d,q1⟩=>?_)
 subst ex
 obtain rfl:u=Value.ref a:=rx
 obtain ⟨t1,t2,_⟩:=Cl3 I1 d
 refine ⟨t1,t2,?_⟩
 rw [m.trees]
 refine Calls.callWith_builtin rfl (Calls.evalArgs_plain (Calls.spliced_cons (thn (he pins s1 σ H1 _ I1 q1) λiv s2 ⟨y,H2,I2,ry,ov,g,q2⟩=>Calls.spliced_nil ?_)))
 exact Da8 hu I2 g ry λw' s3 I3 rw'=>⟨_,H2,I3,rw',q2⟩
theorem Ce8 (ho:PE X o td) (he:PE X e ty) (m:M1 X o "pop" apos e cpos):PE X (.Call (.Attribute o "pop" apos) [e] [] cpos) (Cu8 td ty):=by
 intro pins s σ H Q I h
 refine wpAny_Call_method m.base m.few m.line PySem.F.plainAttrs_dict PySem.F.slot_dict_pop PySem.F.type_dict_pop (thn (ho pins s σ H _ I h) λu s1 ⟨x,H1,I1,rx,a,ex,d,q1⟩=>?_)
 subst ex
 obtain rfl:u=Value.ref a:=rx
 obtain ⟨t1,t2,_⟩:=Cl3 I1 d
 refine ⟨t1,t2,?_⟩
 rw [m.trees]
 refine Calls.callWith_builtin rfl (Calls.evalArgs_plain (Calls.spliced_cons (thn (he pins s1 σ H1 _ I1 q1) λiv s2 ⟨y,H2,I2,ry,kvs,k,v,ea,ey,l,q2⟩=>Calls.spliced_nil ?_)))
 subst ey
 exact De8 I2 ea ry l (.inl rfl) λw' s3 I3 rw'=>⟨v,_,I3,rw',q2⟩
end
section
variable {X : Cx} {pins : List (Addr × Obj)} {σ : St} {H : Hp} {s : Shared} {a : Addr} {kvs : List (Key × V)} {A : Around} {E : Value → Shared → Prop}
end
section
variable {X : Cx} {pins : List (Addr × Obj)} {σ : St} {H : Hp} {s : Shared} {a : Addr} {y : V} {u : Value} {A : Around} {E : Value → Shared → Prop}
end
end L2
namespace Att
open PySem PySem.W PySem.Calls PyProof.Rows
section
variable {prog : Program} {w : World} {A : Around} {E : Value → Shared → Prop} {s : Shared} {K : Frag}
end
end Att
namespace L2
open PySem PySem.Spec PyProof.Rows
end L2
namespace L2
open PySem PySem.Spec PyProof.Rows
end L2
namespace L2
open PySem PySem.Spec PyProof.Rows
section
variable {P : Program} {w : World} {K : PySem.W.Frag} {mg : Str → Option Value} {base : Heap}
end
section
variable {X : Cx}
theorem Cb0:Aq4 X (.builtin "len") (λxs H Q=>∃ a kvs,xs=[V.ref a]/\H a=some (.dK kvs)/\Q (.int kvs.length) H):=by
 intro pins s σ H xs us Q I r h
 obtain ⟨a,kvs,rfl,ha,q⟩:=h
 obtain ⟨u,rfl,ru⟩:=Bp0 r
 cases ru
 exact De9 I (.inl ha) λt s' I'=>⟨.int kvs.length,H,I',⟨t,rfl⟩,q⟩
end
section
variable {κ : Type} [DecidableEq κ]
theorem Bx6:∀ {l:List κ} {k:κ},l.Nodup->¬ k ∈ l->(l++[k]).Nodup
 | [],k,_,_=>by simp
 | a::r,k,h,hk=>by
  obtain ⟨h1,h2⟩:=List.nodup_cons.mp h
  show (a::(r++[k])).Nodup
  refine List.nodup_cons.mpr ⟨λm=>?_,Bx6 h2 λm=>hk (List.mem_cons.mpr (Or.inr m))⟩
  rcases List.mem_append.mp m with q | q
  ·exact h1 q
  ·exact hk (List.mem_cons.mpr (Or.inl (List.mem_singleton.mp q).symm))
theorem Bz3 {p:κ×V} {r:List (κ×V)} {k:κ} (e:p.1=k):Ar4 (p::r) k=Ar4 r k:=by
 unfold Ar4
 rw [List.filter_cons,if_neg (by simp [e])]
theorem Bz4 {p:κ×V} {r:List (κ×V)} {k:κ} (e:¬ p.1=k):Ar4 (p::r) k=p::Ar4 r k:=by
 unfold Ar4
 rw [List.filter_cons,if_pos (by simp [e])]
end
end L2
end
section
namespace L2
open PySem PySem.Spec PyProof.Rows
section
variable {X : Cx} {pins : List (Addr × Obj)} {σ σ0 : St} {H H0 : Hp} {s s0 : Shared} {d : Addr} {ob : Obj} {kvs : List (Key × V)}
theorem Inv.freeze (I:Inv X pins σ H s) (e:H d=some (.dK kvs)) (ho:s.heap.get? d=some ob):Inv X pins σ (upd H d (.frz ob (.dK kvs))) s:=by
 have nd:∀ b u,H b=some u->u≠.dK kvs->b≠d:=λb u q n z=>by subst z; rw [e] at q; exact n (Option.some.inj q).symm
 have hk:HOk X.prog X.w (upd H d (.frz ob (.dK kvs))) s.heap:=λb u q=>by
  have st:∀ {b:Addr} {u:HO},ObjOk X.prog X.w H s.heap b u->ObjOk X.prog X.w (upd H d (.frz ob (.dK kvs))) s.heap b u:=λx=>x.stay (λ_ _ _ q=>q)
   (λc q=>by rw [Aa7 (nd c _ q (by intro z; cases z))]; exact q) λc xs q=>by rw [Aa7 (nd c _ q (by intro z; cases z))]; exact q
  by_cases hb:b=d
  ·subst hb
   rw [upd_same] at q
   cases q
   exact ⟨ho,st (I.hok b _ e)⟩
  ·rw [Aa7 hb] at q
   exact st (I.hok b u q)
 refine I.un (h':=s.heap) (t':=s.toks) ⟨λb o q _ _ _=>q,λb o q _ _ _=>⟨o.slots,q⟩,λb o q n _=>?_,λb o q _=>⟨o,q⟩,λb xs q=>?_,λb o u q=>?_,λb ps q=>⟨#[],?_⟩⟩ hk
 ·rw [Aa7 (by intro z; subst z; rw [e] at n; cases n)]
  exact n
 ·rw [Aa7 (nd b _ q (by intro z; cases z))]
  exact q
 ·rw [Aa7 (nd b _ q (by intro z; cases z))]
  exact q
 ·rw [Aa7 (nd b _ q (by intro z; cases z)),q]
  simp
theorem Inv.thaw (I0:Inv X pins σ0 H0 s0) (e0:H0 d=some (.dK kvs)) (I:Inv X pins σ H s) (e:H d=some (.frz ob (.dK kvs))):Inv X pins σ (upd H d (.dK kvs)) s:=by
 have nd:∀ b u,H b=some u->u≠.frz ob (.dK kvs)->b≠d:=λb u q n z=>by subst z; rw [e] at q; exact n (Option.some.inj q).symm
 have nn:∀ b,H b=none->b≠d:=λb q z=>by subst z; rw [e] at q; cases q
 have n0:∀ b u,H0 b=some u->u≠.dK kvs->b≠d:=λb u q n z=>by subst z; rw [e0] at q; exact n (Option.some.inj q).symm
 have st:∀ {b:Addr} {u:HO},ObjOk X.prog X.w H s.heap b u->ObjOk X.prog X.w (upd H d (.dK kvs)) s.heap b u:=λx=>x.stay (λ_ _ _ q=>q)
   (λc q=>by rw [Aa7 (nd c _ q (by intro z; cases z))]; exact q) λc xs q=>by rw [Aa7 (nd c _ q (by intro z; cases z))]; exact q
 refine ⟨I.ok,I.os,I.bare,⟨I.base.keep,I.base.slot,λb o q n hx=>?_,I.base.there,λb xs q=>?_,λb o u q=>?_,λb ps q=>?_⟩,I.loc,I.cell,?_,λx c q=>?_,λp hp=>?_,λb u q=>?_,I.len⟩
 ·have z:=I.base.free b o q n hx
  rw [Aa7 (nn b z)]
  exact z
 ·have z:=I.base.tups b xs q
  rw [Aa7 (nd b _ z (by intro z; cases z))]
  exact z
 ·have z:=I0.base.frzs b o u q
  rw [Aa7 (n0 b _ z (by intro z; cases z))]
  exact I.base.frzs b o u q
 ·obtain ⟨more,z⟩:=I.base.tbls b ps q
  refine ⟨more,?_⟩
  rw [Aa7 (nd b _ z (by intro z; cases z))]
  exact z
 ·rw [Aa7 (nn _ I.free)]
  exact I.free
 ·rw [Aa7 (nn _ (I.freeC x c q))]
  exact I.freeC x c q
 ·obtain ⟨a,b,c⟩:=I.pin p hp
  refine ⟨a,?_,c⟩
  rw [Aa7 (nn _ b)]
  exact b
 ·by_cases hb:b=d
  ·subst hb
   rw [upd_same] at q
   cases q
   exact st (show ObjOk X.prog X.w H s.heap b (.frz ob (.dK kvs)) from I.hok b _ e).2
  ·rw [Aa7 hb] at q
   exact st (I.hok b u q)
end
theorem Cl2 {P:Program} {w:World} {k:Key} {u:Value} (h:(Ae9 P w).is k u=true):RelV (kV k) u:=by
 rcases Af3 (show Bk5 k u=true from h) with ⟨i,t,rfl,rfl⟩ | ⟨x,t,rfl,rfl⟩
 ·exact ⟨t,rfl⟩
 ·exact ⟨t,rfl⟩
theorem Vals.of_get:∀ {xs:List V} {us:List Value},xs.length=us.length->(∀ (i:Nat) (x:V) (u:Value),xs[i]?=some x->us[i]?=some u->RelV x u)->Vals xs us
 | [],[],_,_=>.nil
 | [],_::_,h,_=>by simp at h
 | _::_,[],h,_=>by simp at h
 | x::xs,u::us,h,f=>.cons (f 0 x u rfl rfl) (Vals.of_get (by simpa using h) λi y w h1 h2=>f (i+1) y w h1 h2)
theorem KV.get:∀ {kvs:List (Key×V)} {vs:List (Key×Value)},KV kvs vs->∀ (i:Nat) (k:Key) (v:V),kvs[i]?=some (k,v)->∃ u,vs[i]?=some (k,u)/\RelV v u
 | _,_,.nil,i,k,v,h=>by simp at h
 | p::kvs,q::vs,.cons r t,0,k,v,h=>by
  have h':some p=some (k,v):=h
  cases h'
  obtain ⟨r1,r2⟩:=r
  have r1':k=q.1:=r1
  exact ⟨q.2,by show some q=some (k,q.2); rw [r1'],r2⟩
 | p::kvs,q::vs,.cons r t,i+1,k,v,h=>KV.get (kvs:=kvs) (vs:=vs) t i k v h
theorem Bj2 {K:PySem.W.Frag}:PySem.W.kitOne K (.type "int") (.type "tuple")=some false:=by kernel_rfl
def Df5 (_ j:Int):Prop:=0<j/\j.natAbs.log2<9000
theorem Ar9 {X:Cx}:OpR X (binaryOp .FloorDiv) (rI Df5 λi j=>.int (i / j)):=opI λi j _ _ _ _ _ hc q=>by
 have h1:(0:Int)<j:=hc.1
 exact floordiv_int (by omega) (by rw [Int.fdiv_eq_ediv_of_nonneg i (by omega)]; exact q) (.inl (PyProof.noPylong_of_log2 hc.2))
theorem Av2 {X:Cx} (hcalm:X.calm=true):Aq4 X (.type "list") (λxs H Q=>∃ d kvs,xs=[.ref d]/\H d=some (.dK kvs)/\∀ l,H l=none->Q (.ref l) (upd H l (.lst (kvs.map λkv=>kV kv.1)))):=by
 intro pins s σ H xs us Q I r h
 obtain ⟨d,kvs,rfl,hd,q⟩:=h
 obtain ⟨u,rfl,rx⟩:=Bp0 r
 cases rx
 obtain ⟨z,lo,vs,rel,dd⟩:=Br7 I.hok hd
 obtain ⟨ep,hat⟩:=dd.dictAt
 refine PySem.W.kdl_call (PySem.W.kdl_dict (knd:=Ae9 X.prog X.w) (kvs:=vs) (ep:=ep) lo) (I.ok.hd hcalm) hat (by rw [<- KV.length rel]; exact z) λh' tk acc c kp hD hacc=>?_
 have hv:Vals (kvs.map λkv=>kV kv.1) acc.toList:=by
  have hl:acc.toList.length=kvs.length:=by rw [Array.length_toList,hacc.1,KV.length rel]
  refine Vals.of_get (by rw [List.length_map,hl]) λi x u hx hu=>?_
  rw [List.getElem?_map] at hx
  cases e:kvs[i]? with
  | none=>rw [e] at hx; cases hx
  | some kv =>
   rw [e] at hx
   obtain ⟨k,v⟩:=kv
   have hx':kV k=x:=Option.some.inj hx
   obtain ⟨k',x',h1,h2⟩:=hacc.2 i u (by rw [<- Array.getElem?_toList]; exact hu)
   obtain ⟨u',h3,_⟩:=KV.get rel i k v e
   rw [h1] at h3
   cases h3
   rw [<- hx']
   exact Cl2 h2
 refine ⟨.ref s.heap.objs.size,_,I.laid (o:=.lst (kvs.map λkv=>kV kv.1)) (t':=tk) kp (Nat.le_refl _) ⟨by rw [List.length_map]; exact z,acc.toList,c,hv,by rw [Array.toArray_toList]; exact hD⟩,rfl,q _ (I.hok.fresh (Nat.le_refl _))⟩
def Cc1 (v d:Addr):HO:=.ext λh=>h.IsItemsView v d
def Cw5:V->List V->Hp->VK->Prop:=λx vs H Q=>∃ d kvs,x=.ref d/\vs=[]/\H d=some (.dK kvs)/\∀ v,H v=none->Q (.ref v) (upd H v (Cc1 v d))
theorem Ci3 {X:Cx}:MtR X "dict.items" Cw5:=by
 intro pins s σ H x vs v us Q I rx rv h
 obtain ⟨d,kvs,rfl,rfl,hd,q⟩:=h
 cases rx
 cases rv
 obtain ⟨z,lo,vs,rel,dd⟩:=Br7 I.hok hd
 refine PySem.call_meetsIn PySem.F.slot_dict_items dd.typeIs PySem.F.entry_dict_items (PySem.F.args_dict_items_1 _) (meets_dict_items (Ae9 X.prog X.w) d lo) ⟨⟨_,dd⟩,?_⟩
 exact ⟨.ref s.heap.objs.size,_,I.laid (o:=Cc1 s.heap.objs.size d) (t':=s.toks) (λb o q=>Heap.get?_push_of_some _ q) (Nat.le_refl _) ⟨⟨_,Heap.get?_push_size _ rfl,rfl,rfl⟩,⟨_,Heap.get?_push_size _ rfl⟩,λh1 h2 ⟨o,a,b⟩ k=>⟨o,k o a,b⟩⟩,rfl,q _ (I.hok.fresh (Nat.le_refl _))⟩
def Itm (d:Addr) (ob:Obj) (kvs:List (Key×V)):It :=
 ⟨λi H=>H d=some (.frz ob (.dK kvs))/\i<kvs.length,λi H x H'=>∃ t k v,H t=none/\x=.ref t/\kvs[i]?=some (k,v)/\H'=upd H t (.tup [kV k,v]),λi H=>H d=some (.frz ob (.dK kvs))/\kvs.length<=i⟩
theorem Bp3 {P:Program} {w:World} {K:PySem.W.Frag} {elts:List Expr} {x1:Nat} {pos:Pos} (d it:Addr) (ob:Obj) (kvs:List (Key×V)) {es:Array DictEntry} {ep:Nat} (hob:ob.data=.dict es ep) :
  Turn P w K (.Tuple elts x1 pos) (Itm d ob kvs) [it] it (λi h=>∃ ok ov,IsItemIter h it d i kvs.length ep ok ov) where
 mem:=by simp
 obj:=λi h st b hb=>by
  obtain ⟨ok,ov,e⟩:=st
  rw [List.mem_singleton.mp hb]
  exact ⟨_,e,λv z=>by cases z⟩
 keep:=λi h h' ⟨ok,ov,e⟩ k=>⟨ok,ov,k it (by simp) _ e⟩
 item:=by
  intro X hP hw hK hc i pins s σ H E I hf st hg
  subst hP hw hK
  obtain ⟨hd,hi⟩:=hg
  obtain ⟨ok,ov,hit⟩:=st
  obtain ⟨ho,z,lo,vs,rel,dd⟩:=(show ObjOk X.prog X.w H s.heap d (.frz ob (.dK kvs)) from I.hok d _ hd)
  obtain ⟨ep',dat⟩:=dd.dictAt
  obtain ⟨o',es',g1,g2,g3,g4⟩:=id dat
  rw [ho] at g1
  cases g1
  rw [hob] at g3
  cases g3
  obtain ⟨k,v,hkv⟩:∃ k v,kvs[i]?=some (k,v):=⟨kvs[i].1,kvs[i].2,by simp [hi]⟩
  obtain ⟨u,hu,ru⟩:=KV.get rel i k v hkv
  have hil:it<s.heap.objs.size:=Heap.lt_size hit
  rw [KV.length rel] at hit
  refine wpAny_pyNext_items_item hit dat hu λkey h1 hkey hout ht hsz hk=>⟨_,rfl,?_⟩
  refine wpAny_letOwnedTupleGo_items hout λh2 he2 hs2=>?_
  have hs2:Heap.SameBut it h1 h2:=hs2
  have hT:H s.heap.objs.size=none:=I.hok.fresh (Nat.le_refl _)
  have I1:Inv X pins σ (upd H s.heap.objs.size (.tup [kV k,v])) { s with heap:=s.heap.push { cls:=.type "tuple",data:=.seq #[key,u] },toks:=s.toks }:=by
   refine I.laid (λb o z=>Heap.get?_push_of_some _ z) (Nat.le_refl _) ?_
   exact ⟨by show 2<=sizeLine; decide,[key,u],.cons (Cl2 hkey) (.cons ru .nil),_,Heap.get?_push_size _ rfl,rfl,_,rfl⟩
  have hf1:∀ b ∈ [it],FpOk X pins (upd H s.heap.objs.size (.tup [kV k,v])) b:=λb hb=>by
   obtain ⟨f0,f⟩:=hf b hb
   refine ⟨?_,f⟩
   rw [Aa7 (by rw [List.mem_singleton.mp hb]; exact Nat.ne_of_lt hil)]
   exact f0
  have I2:Inv X pins σ (upd H s.heap.objs.size (.tup [kV k,v])) { s with heap:=h2,toks:=s.toks }:=by
   refine Inv.turnedN (s:={ s with heap:=s.heap.push { cls:=.type "tuple",data:=.seq #[key,u] },toks:=s.toks }) (h':=h2) (t':=s.toks) (fp:=[it]) I1 (λb o hb z=>?_) hf1
   have n1:b≠it:=λq=>hb (by simp [q])
   rw [hs2.2 b n1]
   by_cases hbT:b=s.heap.objs.size
   ·subst hbT
    have z':some _=some o:=(Heap.get?_push_size s.heap (o:={ cls:=.type "tuple",data:=.seq #[key,u] }) rfl).symm.trans z
    rw [<- z']
    exact ht
   ·refine hk b o n1 ?_
    rwa [show (s.heap.push { cls:=.type "tuple",data:=.seq #[key,u] }).get? b=s.heap.get? b from Heap.get?_push_ne _ _ _ hbT] at z
  refine ⟨.ref s.heap.objs.size,_,I2,rfl,⟨_,k,v,hT,rfl,hkv,rfl⟩,⟨key,u,?_⟩,λb hb=>(hf1 b hb).1⟩
  rw [KV.length rel]
  exact he2
 done:=by
  intro X hP hw hK hc i pins s σ H E I hf st hg
  subst hP hw hK
  obtain ⟨hd,hi⟩:=hg
  obtain ⟨ok,ov,hit⟩:=st
  obtain ⟨ho,z,lo,vs,rel,dd⟩:=(show ObjOk X.prog X.w H s.heap d (.frz ob (.dK kvs)) from I.hok d _ hd)
  obtain ⟨ep',dat⟩:=dd.dictAt
  obtain ⟨o',es',g1,g2,g3,g4⟩:=id dat
  rw [ho] at g1
  cases g1
  rw [hob] at g3
  cases g3
  rw [KV.length rel] at hit
  refine wpAny_pyNext_items_end (I.ok.hd hc) hit dat (List.getElem?_eq_none_iff.mpr (by rw [<- KV.length rel]; exact hi)) λh' eb=>⟨rfl,I.turnedN (t':=s.toks) (fp:=[it]) (λb o hb z=>eb b o (λq=>hb (by simp [q])) z) hf⟩
 self:=λ_ _ _ _ _ ⟨_,_,st⟩ h=>PySem.W.kcp_self st h
def Bd4 (x y:Str) (N:List Str):List Str:=x::y::N.map λz=>if z=x\/z=y then ("":Str) else z
def Cc0 (x y:Str) (l:List (Str×NameKind)):Prop:=∀ n k,l.lookup n=some k->((n=x\/n=y\/n = ".0")/\k=.local)\/(k≠.local/\k≠.cell/\k≠.free)
def Bo8 (x y:Str):List (Str×NameKind)->Bool
 | []=>true
 | (n,k)::r=>(((n == x || n == y || n == ".0") && k == .local) || (k != .local && k != .cell && k != .free)) && Bo8 x y r
theorem Bd5 {x y:Str}:∀ {l:List (Str×NameKind)},Bo8 x y l=true->Cc0 x y l
 | [],_,n,k,h=>by simp at h
 | (m,j)::r,h0,n,k,h=>by
  unfold Bo8 at h0
  rw [Bool.and_eq_true] at h0
  rw [List.lookup_cons] at h
  split at h
  ·rename_i e
   cases h
   have e':=beq_iff_eq.mp e
   subst e'
   have h1:=h0.1
   simp only [Bool.or_eq_true,Bool.and_eq_true,beq_iff_eq,bne_iff_ne,ne_eq] at h1
   rcases h1 with ⟨a,b⟩ | ⟨⟨a,b⟩,c⟩
   ·exact .inl ⟨by rcases a with (a | a) | a <;> simp [a],b⟩
   ·exact .inr ⟨a,b,c⟩
  ·exact Bd5 h0.2 n k h
abbrev cxD (X:Cx) (x y:Str) (scope:Scope) (C:Addr) (s₂:Shared) (H₂:Hp) (fp:List Addr):Cx :=
 { X with N:=Bd4 x y X.N,s₀:=s₂,H₀:=H₂,env:=compEnvC scope [] C X.env,outer:=X.stack,ex:=fp,fn:=λ_=>false,pn:=[],xe:=λ_ _=>False }
section
variable {X : Cx} {pins : List (Addr × Obj)} {σ : St} {H₂ : Hp} {s₂ : Shared} {fp : List Addr} {x y : Str} {scope : Scope} {C : Addr}
theorem okD (I:Inv X pins σ H₂ s₂) (hf:∀ b ∈ fp,FpOk X pins H₂ b) (ho:∀ b ∈ fp,∃ o,s₂.heap.get? b=some o) (hkind:scope.kind=.function) (hc:Cc0 x y (relabel scope X.env).names) (hC:s₂.heap.objs.size<=C) :
  (cxD X x y scope C s₂ H₂ fp).Ok where
 mod:=I.ok.mod
 kind:=hkind
 glob:=I.ok.glob
 blt:=I.ok.blt
 above:=hC
 inj:=λy z c h1 h2=>by
  have h1':([]:List (Str×Addr)).lookup y=some c:=h1
  simp at h1'
 has:=λz hz=>by
  have hz':(relabel scope X.env).names.lookup z=some .cell\/(relabel scope X.env).names.lookup z=some .free:=hz
  rcases hz' with h | h
  ·rcases hc _ _ h with ⟨_,q⟩ | ⟨_,q,_⟩
   ·cases q
   ·exact absurd rfl q
  ·rcases hc _ _ h with ⟨_,q⟩ | ⟨_,_,q⟩
   ·cases q
   ·exact absurd rfl q
 cab:=λy c h _=>absurd (show false=true from h) Bool.false_ne_true
 hd:=I.ok.hd
 frames:=I.ok.frames
 stk:=.inl rfl
 exf:=λb hb=>by
  obtain ⟨o,e⟩:=ho b hb
  exact ⟨Nat.ne_of_lt (Nat.lt_of_lt_of_le (Heap.lt_size e) hC),λy c h=>by
   have h1':([]:List (Str×Addr)).lookup y=some c:=h
   simp at h1'⟩
 bs:=I.bs
 bsz:=Nat.le_trans I.ok.bsz I.sz
 noex:=λb o e hb=>by
  rcases (hf b hb).2.2.2.1 with z | z
  ·exact I.ok.noex b o e z
  ·exact absurd (Nat.lt_of_lt_of_le (Heap.lt_size (I.ok.bs b o e).1) z) (Nat.lt_irrefl _)
 exfs:=λb hb z=>by
  rcases List.mem_cons.mp (I.stkSub b z) with q | q
  ·exact (hf b hb).2.1 q
  ·exact (hf b hb).2.2.1 q
 funs:=I.stack
 frf:=I.stkFree
theorem invD {h₁:Heap} {tk:Nat} (I:Inv X pins σ H₂ s₂) (hf:∀ b ∈ fp,FpOk X pins H₂ b) (ho:∀ b ∈ fp,∃ o,s₂.heap.get? b=some o) (hkind:scope.kind=.function) (hc:Cc0 x y (relabel scope X.env).names) (hx0:x≠"") (hy0:y≠"") (hdot:(".0":Str) ∉ X.N)
  (hC:C=s₂.heap.objs.size+1) (hns:h₁.Ns C λ_=>none) (old:∀ b o,s₂.heap.get? b=some o->h₁.get? b=some o) (hD:∃ n,h₁.get? s₂.heap.objs.size=some { cls:=.type "list",data:=.seq #[] n }) :
  Inv (cxD X x y scope C s₂ H₂ fp) [] (none::none::σ) (upd H₂ s₂.heap.objs.size (.lst [])) { s₂ with heap:=h₁,toks:=tk }:=by
 have hn:H₂ s₂.heap.objs.size=none:=I.hok.fresh (Nat.le_refl _)
 have nocell:∀ (z:Str) (c:Addr),(compEnvC scope [] C X.env).cells.lookup z=some c->False:=λz c e=>by
  have h1':([]:List (Str×Addr)).lookup z=some c:=e
  simp at h1'
 refine ⟨okD I hf ho hkind hc (by rw [hC]; exact Nat.le_succ _),rfl,I.bare,Un.laid old (Nat.le_refl _) hn,⟨_,hns,λi n v h1 h2 h3=>?_⟩,λz c e=>(nocell z c e).elim,?_,λz c e=>(nocell z c e).elim,λp hp=>absurd (show p ∈ ([]:List (Addr×Obj)) from hp) (by simp),?_,?_⟩
 ·exfalso
  match i,h1,h2 with
  | 0,h1,h2 =>
   have h2':some (none:Option V)=some (some v):=h2
   cases h2'
  | 1,h1,h2 =>
   have h2':some (none:Option V)=some (some v):=h2
   cases h2'
  | i+2,h1,h2 =>
   have h1':(X.N.map λz=>if z=x\/z=y then ("":Str) else z)[i]?=some n:=h1
   rw [List.getElem?_map] at h1'
   cases e:X.N[i]? with
   | none=>rw [e] at h1'; cases h1'
   | some z =>
    rw [e] at h1'
    have h1'':(if z=x\/z=y then ("":Str) else z)=n:=Option.some.inj h1'
    have h3':(relabel scope X.env).names.lookup n=some .local\/(relabel scope X.env).names.lookup n=some .cell\/(relabel scope X.env).names.lookup n=some .free:=h3
    have key:n=x\/n=y\/n = ".0":=by
     rcases h3' with q | q | q
     ·rcases hc _ _ q with ⟨a,_⟩ | ⟨a,_⟩
      ·exact a
      ·exact absurd rfl a
     ·rcases hc _ _ q with ⟨_,a⟩ | ⟨_,a,_⟩
      ·cases a
      ·exact absurd rfl a
     ·rcases hc _ _ q with ⟨_,a⟩ | ⟨_,_,a⟩
      ·cases a
      ·exact absurd rfl a
    by_cases hz:z=x\/z=y
    ·rw [if_pos hz] at h1''
     rcases key with q | q | q
     ·exact hx0 (q.symm.trans h1''.symm)
     ·exact hy0 (q.symm.trans h1''.symm)
     ·rw [q] at h1''
      exact absurd h1'' (by decide +kernel)
    ·rw [if_neg hz] at h1''
     subst h1''
     rcases key with q | q | q
     ·exact hz (.inl q)
     ·exact hz (.inr q)
     ·subst q
      exact hdot (List.mem_of_getElem? e)
 ·show (upd H₂ s₂.heap.objs.size (.lst [])) C=none
  rw [Aa7 (by rw [hC]; exact Nat.ne_of_gt (Nat.lt_succ_self _))]
  exact I.hok.fresh (by rw [hC]; exact Nat.le_succ _)
 ·obtain ⟨n,e⟩:=hD
  exact I.hok.laid old (Nat.le_refl _) ⟨Nat.zero_le _,[],n,.nil,e⟩
 ·show (none::none::σ).length=(Bd4 x y X.N).length
  simp [Bd4,I.len]
theorem fpD (I:Inv X pins σ H₂ s₂) (hf:∀ b ∈ fp,FpOk X pins H₂ b) (ho:∀ b ∈ fp,∃ o,s₂.heap.get? b=some o) (hC:s₂.heap.objs.size<=C) {H:Hp} (hn:∀ b ∈ fp,H b=none):∀ b ∈ fp,FpOk (cxD X x y scope C s₂ H₂ fp) [] H b:=λb hb=>by
 obtain ⟨o,e⟩:=ho b hb
 refine ⟨hn b hb,Nat.ne_of_lt (Nat.lt_of_lt_of_le (Heap.lt_size e) hC),λz=>?_,.inl hb,λy c h=>?_,λp hp=>absurd (show p ∈ ([]:List (Addr×Obj)) from hp) (by simp)⟩
 ·rcases List.mem_cons.mp (I.stkSub b z) with q | q
  ·exact (hf b hb).2.1 q
  ·exact (hf b hb).2.2.1 q
 ·have h1':([]:List (Str×Addr)).lookup y=some c:=h
  simp at h1'
end
def Cv2 (ti te:TE):TE:=λσ H Q=>ti σ H λxv H1=>∃ v d kvs,xv=.ref v/\H1 v=some (Cc1 v d)/\H1 d=some (.dK kvs)/\∀ ob D,H1 D=none->∃ W:Nat->List V->Hp->Prop,
 W 0 [] (upd (upd H1 d (.frz ob (.dK kvs))) D (.lst []))/\∀ i ys H,W i ys H->H D=some (.lst ys)/\H d=some (.frz ob (.dK kvs)) /\
  (i=kvs.length->Q (.ref D) (upd H d (.dK kvs)))/\(∀ k z t,kvs[i]?=some (k,z)->H t=none->te (some (kV k)::some z::σ) (upd H t (.tup [kV k,z])) λy H3=>H3 D=some (.lst ys)/\W (i+1) (ys++[y]) (upd H3 D (.lst (ys++[y]))))/\ys.length=i
section
variable {X : Cx} {x y : Str} {px py pos tpos : Pos} {scope : Scope} {elt iter : Expr} {ti te : TE} {k1 : Nat}
theorem Cf0 (hcalm:X.calm=true) (hi:PE X iter ti) (hclos:closureFor scope X.env=pure []) (hcb:Bo8 x y (relabel scope X.env).names=true)
  (he:∀ C s₂ H₂ fp,PE (cxD X x y scope C s₂ H₂ fp) elt te) (hN:(Bd4 x y X.N).Nodup)
  (hkind:scope.kind=.function:=by rfl) (hnc:∀ y ∈ scope.names,y.2≠.cell:=by decide +kernel) (hnm:∀ y ∈ scope.names,y.2=.local->scope.names.lookup y.1=some .local:=by decide +kernel) (hx0:x≠"":=by decide +kernel) (hy0:y≠"":=by decide +kernel) (hdot:(".0":Str) ∉ X.N:=by decide +kernel)
  (hxl:scope.names.lookup x=some .local:=by rfl) (hyl:scope.names.lookup y=some .local:=by rfl)
  (hs:∀ x,foldedSetIterable iter X.env x=pure x:=by intro _; rfl):PE X (.ListComp elt [⟨.Tuple [.Name x px,.Name y py] k1 tpos,iter,[],0⟩] scope pos) (Cv2 ti te):=by
 have hc:=Bd5 hcb
 intro pins s σ H Q I h
 rw [eval_ListComp]
 refine wpAny_comprehension_free (use:=none) rfl hs hclos hkind hnm (wpAny_mono (hi pins s σ H _ I h) (λxv s₁ h₁=>?_) λ_ _ e=>e)
 obtain ⟨xv',H1,I1,rx,v,d,kvs,e,hv,hd,hq⟩:=h₁
 subst e
 cases rx
 obtain ⟨z,lo,vs,rel,dd⟩:=Br7 I1.hok hd
 obtain ⟨ob,es,ep,ho,hx1,hob,hrest⟩:=id dd
 have dat:s₁.heap.DictAt (Ae9 X.prog X.w) d vs ep:=⟨ob,es,ho,hx1,hob,hrest⟩
 have hvw:s₁.heap.IsItemsView v d:=(show ObjOk X.prog X.w H1 s₁.heap v (Cc1 v d) from I1.hok v _ hv).1
 refine wpAny_pyIter_items hvw dat ?_
 have T:=Bp3 (P:=X.prog) (w:=X.w) (K:=X.K) (elts:=[.Name x px,.Name y py]) (x1:=k1) (pos:=tpos) d s₁.heap.objs.size ob kvs hob
 have I2:Inv X pins σ (upd H1 d (.frz ob (.dK kvs))) { s₁ with heap:=s₁.heap.push { cls:=.type "dict_itemiterator",data:=.fields #[.none,.bool false,.ref d,.int 0 0,.int vs.length 0,.int ep 0,.none,.none] },toks:=s₁.toks } :=
  (I1.freeze hd ho).kept (t':=s₁.toks) λb o e=>Heap.get?_push_of_some _ e
 have st0:∃ ok ov,IsItemIter (s₁.heap.push { cls:=.type "dict_itemiterator",data:=.fields #[.none,.bool false,.ref d,.int 0 0,.int vs.length 0,.int ep 0,.none,.none] }) s₁.heap.objs.size d 0 kvs.length ep ok ov :=
  ⟨.none,.none,by rw [KV.length rel]; exact Heap.get?_push_size _ rfl⟩
 have f2:∀ b ∈ [s₁.heap.objs.size],FpOk X pins (upd H1 d (.frz ob (.dK kvs))) b:=λb hb=>by
  rw [List.mem_singleton.mp hb]
  exact I1.fpOk (Nat.le_refl _) (by rw [Aa7 (Nat.ne_of_gt (Heap.lt_size ho))]; exact I1.hok.fresh (Nat.le_refl _))
 obtain ⟨D,hDe⟩:∃ D,D=s₁.heap.objs.size+1:=⟨_,rfl⟩
 obtain ⟨W,w0,turn⟩:=hq ob (s₁.heap.objs.size+1) (I1.hok.fresh (Nat.le_succ _))
 generalize hs2:({ s₁ with heap:=s₁.heap.push { cls:=.type "dict_itemiterator",data:=.fields #[.none,.bool false,.ref d,.int 0 0,.int vs.length 0,.int ep 0,.none,.none] },toks:=s₁.toks }:Shared)=s₂ at I2
 have hsz2:s₂.heap.objs.size=s₁.heap.objs.size+1:=by rw [<- hs2]; exact Heap.size_push _ _
 have st2:∃ ok ov,IsItemIter s₂.heap s₁.heap.objs.size d 0 kvs.length ep ok ov:=by rw [<- hs2]; exact st0
 clear hs2 st0 hDe
 generalize hH2:upd H1 d (.frz ob (.dK kvs))=H₂ at I2 f2 w0
 generalize hit0:s₁.heap.objs.size=it at T f2 st2 hsz2 w0 turn
 rw [<- hsz2] at w0 turn
 refine wpAny_newObj_type (wpAny_newFunctionEnv hnc (by intro y hy; simp at hy) (λh₁ hns₁ hsb₁=>?_) hkind)
 dsimp only at hns₁ hsb₁ ⊢
 have hof:∀ b ∈ [it],∃ o,s₂.heap.get? b=some o:=λb hb=>let ⟨o,e,_⟩:=T.obj 0 _ st2 b hb; ⟨o,e⟩
 generalize hP2:s₂.heap.push { cls:=.type "list",dict:=none,data:=.seq ([]:List Value).toArray }=P2 at hns₁ hsb₁ ⊢
 have hC:P2.objs.size=s₂.heap.objs.size+1:=by rw [<- hP2,Heap.size_push]
 have old:∀ b o,s₂.heap.get? b=some o->h₁.get? b=some o:=λb o e=>hsb₁.extBut b o (by rw [hC]; exact Nat.ne_of_lt (Nat.lt_succ_of_lt (Heap.lt_size e))) (Heap.get?_push_of_some _ (hP2 ▸ Heap.get?_push_of_some _ e))
 have hD:∃ n,h₁.get? s₂.heap.objs.size=some { cls:=.type "list",data:=.seq #[] n }:=⟨_,hsb₁.extBut _ _ (by rw [hC]; exact Nat.ne_of_lt (Nat.lt_succ_self _)) (Heap.get?_push_of_some _ (hP2 ▸ Heap.get?_push_size _ rfl))⟩
 have hns':h₁.Ns P2.objs.size λ_=>none:=by
  have e:(λx:Str=>([]:List (Str×Value)).reverse.lookup x)=λ_=>none:=by funext y; rfl
  rw [<- e]
  exact hns₁
 have I0:=invD (tk:=s₂.toks+([]:List (Str×Value)).length) I2 f2 hof hkind hc hx0 hy0 hdot hC hns' old hD
 have hCs:X.s₀.heap.objs.size<=P2.objs.size:=by rw [hC]; exact Nat.le_succ_of_le I2.sz
 have loop:∀ s₃:Shared,s₃={ s₂ with heap:=h₁,toks:=s₂.toks+([]:List (Str×Value)).length } ->
   codeAny (model X.prog X.w) X.A (.compLoop (.ListComp elt [⟨.Tuple [.Name x px,.Name y py] k1 tpos,iter,[],0⟩] scope pos) 0 (.ref it) (.ref s₂.heap.objs.size) (compEnvC scope [] P2.objs.size X.env)) (compPost (model X.prog X.w) X.A X.xe none (EP X pins σ Q) (.ref s₂.heap.objs.size) P2.objs.size) s₃:=by
  rintro s₃ rfl
  refine Av0 (λn s'=>∃ i ys a b H,Inv (cxD X x y scope P2.objs.size s₂ H₂ [it]) [] (a::b::σ) H s'/\(∃ ok ov,IsItemIter s'.heap it d i kvs.length ep ok ov)/\(∀ b ∈ [it],H b=none)/\W i ys H/\i+n=kvs.length) ?_ kvs.length
   ⟨0,[],none,none,_,I0,T.keep _ _ _ st2 λb _ o e=>old b o e,λb hb=>by rw [Aa7 (by obtain ⟨o,e⟩:=hof b hb; exact Nat.ne_of_lt (Heap.lt_size e))]; exact (f2 b hb).1,w0,Nat.zero_add _⟩
  rintro n s' ⟨i,ys,a,b,H,I',st',fr',w',hn⟩
  have fpn:∀ {H:Hp},(∀ b ∈ [it],H b=none)->∀ b ∈ [it],FpOk (cxD X x y scope P2.objs.size s₂ H₂ [it]) [] H b:=λhn=>fpD I2 f2 hof (by rw [hC]; exact Nat.le_succ _) hn
  obtain ⟨hDl,hdf,stop,step,hlen⟩:=turn i ys H w'
  by_cases hlt:i<kvs.length
  ·refine wpAny_mono (T.item (cxD X x y scope P2.objs.size s₂ H₂ [it]) rfl rfl rfl hcalm i [] s' (a::b::σ) H (λ_ _=>False) I' (fpn fr') st' ⟨hdf,hlt⟩) (λr s4 z=>?_) λ_ _ z=>z
   obtain ⟨u,hr,h4⟩:=z
   subst hr
   refine wpAny_mono h4 (λ_ s5 z=>?_) λ_ _ z=>z
   obtain ⟨xt,H5,I5,r5,y5,st5,fr5⟩:=z
   obtain ⟨t,k,zv,ht0,rfl,hkv,rfl⟩:=y5
   have I5':=I5.pinned (fpn fr5) (T.obj _ _ st5)
   have hxl':(relabel scope X.env).names.lookup x=some .local:=lookup_relabel_local hxl
   have hyl':(relabel scope X.env).names.lookup y=some .local:=lookup_relabel_local hyl
   have hs6:=step k zv t hkv ht0
   have pg:=Aq9 (X:=cxD X x y scope P2.objs.size s₂ H₂ [it]) (k:=k1) (pos:=tpos) (n:=2) hcalm (Ae1 (Ad5 (X:=cxD X x y scope P2.objs.size s₂ H₂ [it]) (i:=0) (pos:=px) hN rfl (.inl hxl') (.inr hxl')) (Ae1 (Ad5 (X:=cxD X x y scope P2.objs.size s₂ H₂ [it]) (i:=1) (pos:=py) hN rfl (.inl hyl') (.inr hyl')) Al8))
   refine wpAny_mono (pg _ s5 (a::b::σ) _ (.ref t) u (λσ6 H6=>σ6=some (kV k)::some zv::σ/\H6=upd H t (.tup [kV k,zv])) I5' r5 ⟨t,[kV k,zv],rfl,SqT.of upd_same,rfl,_,_,rfl,_,_,rfl,rfl,rfl,rfl⟩) (λ_ s6 z=>?_) λ_ _ z=>z
   obtain ⟨σ6,H6,I6,rfl,rfl⟩:=z
   have again:∀ {H7:Hp} {s7:Shared} {zs:List V},Inv (cxD X x y scope P2.objs.size s₂ H₂ [it]) ([]++Au2 [it] s5.heap) (some (kV k)::some zv::σ) H7 s7->W (i+1) zs H7 ->
     ∃ m,m<n/\∃ i ys a b H,Inv (cxD X x y scope P2.objs.size s₂ H₂ [it]) [] (a::b::σ) H s7/\(∃ ok ov,IsItemIter s7.heap it d i kvs.length ep ok ov)/\(∀ b ∈ [it],H b=none)/\W i ys H/\i+m=kvs.length:=λ{H7 s7 zs} I7 w7=>by
    refine ⟨n - 1,by omega,i+1,zs,some (kV k),some zv,H7,I7.unpinned,T.keep _ _ _ st5 λb hb o e=>(I7.pin (b,o) (List.mem_append_right _ (List.mem_append_right _ (Ai3 hb e)))).1,λb hb=>?_,w7,by omega⟩
    obtain ⟨o,e,d⟩:=T.obj _ _ st5 b hb
    exact (I7.pin (b,o) (List.mem_append_right _ (List.mem_append_right _ (Ai3 hb e)))).2.1
   refine wpAny_tests_nil ?_
   refine wpAny_mono (he P2.objs.size s₂ H₂ [it] _ s6 _ _ _ I6 hs6) (λu8 s8 z=>?_) λ_ _ z=>z
   obtain ⟨y',H8,I8,r8,hD8,w8⟩:=z
   refine wpAny_mono (Ah6 (X:=cxD X x y scope P2.objs.size s₂ H₂ [it]) _ s8 _ H8 (.ref s₂.heap.objs.size) [y'] (.ref s₂.heap.objs.size) [u8] (λ_ H9=>H9=upd H8 s₂.heap.objs.size (.lst (ys++[y']))) I8 rfl (.cons r8 .nil) ⟨_,ys,y',rfl,rfl,hD8,Nat.lt_of_lt_of_le (by rw [hlen]; exact hlt) ‹_›,rfl⟩) (λ_ s9 z=>?_) λ_ _ z=>z
   obtain ⟨_,H9,I9,_,rfl⟩:=z
   exact again I9 w8
  ·have hie:i=kvs.length:=by omega
   refine wpAny_mono (T.done (cxD X x y scope P2.objs.size s₂ H₂ [it]) rfl rfl rfl hcalm i [] s' (a::b::σ) H (λ_ _=>False) I' (fpn fr') st' ⟨hdf,by omega⟩) (λr s4 z=>?_) λ_ _ z=>z
   obtain ⟨hr,I4⟩:=z
   subst hr
   obtain ⟨m4,hm4,_⟩:=I4.loc
   have Iout:Inv X pins σ H s4:=I2.call' I4.os I4.base I4.hok I4.bare λb hb=>by
    obtain ⟨f0,f1,f2,f3,f4,f5⟩:=f2 b hb
    exact ⟨f3,f1,f4,f5⟩
   have Ith:Inv X pins σ (upd H d (.dK kvs)) s4:=Inv.thaw I1 hd Iout hdf
   have hCn:(upd H d (.dK kvs)) P2.objs.size=none:=by
    have hCH:H P2.objs.size=none:=I4.free
    rw [Aa7 (by intro z; rw [z,hdf] at hCH; cases hCH)]
    exact hCH
   refine ⟨m4,hm4,λh' hs'=>?_⟩
   refine ⟨.ref s₂.heap.objs.size,upd H d (.dK kvs),Ith.turned (t':=s4.toks) (it:=P2.objs.size) (λb o hb e=>(hs'.2 b hb).trans e) hCn ?_ (.inr hCs) (λy c e z=>?_) (λp hp z=>?_),rfl,stop hie⟩
   ·rw [hC]
    exact Nat.ne_of_gt (Nat.lt_succ_of_lt I2.lt)
   ·obtain ⟨v',oc,g1,_⟩:=I2.cell y c e
    have:=Heap.lt_size g1
    rw [z,hC] at this
    exact absurd (Nat.lt_of_succ_lt this) (Nat.lt_irrefl _)
   ·have:=Heap.lt_size (I2.pin p hp).1
    rw [z,hC] at this
    exact absurd (Nat.lt_of_succ_lt this) (Nat.lt_irrefl _)
 exact codeAny_compStart_list (loop _ rfl) (T.self _ 0 _ _ _ (T.keep _ _ _ st2 λb _ o e=>old b o e) (loop _ rfl))
end
end L2
end
section
namespace L2
open PySem PySem.Spec PyProof.Rows Builtin Builtin.ObjectAttr
def Bq0:List Value->Bool
 | []=>false
 | v::r=>match v with
  | .ref _=>Bq0 r
  | _=>(v::r) == VB
theorem Ar1 (self:Value):∀ {l:List Value},Bq0 l=true->refuseLoop self "__setattr__" l=pure ()
 | [],e=>by cases e
 | v::r,e=>by
  unfold Bq0 at e
  split at e
  ·rw [refuseLoop_ref]; exact Ar1 self e
  ·rw [beq_iff_eq.mp e]; exact PySem.F.store_ValueError.passes self
theorem Bb4:∀ {l:List Value},Bq0 l=true->l.contains (.type "object")=true
 | [],e=>by cases e
 | v::r,e=>by
  unfold Bq0 at e
  split at e
  ·rw [List.contains_cons,Bb4 e,Bool.or_true]
  ·rw [beq_iff_eq.mp e]; decide
def overIn (K:PySem.W.Frag) (C:Addr):Bool:=(PySem.W.clsIn K C).any λcd=>Bq0 cd.mro
structure XCls (K:PySem.W.Frag) (C:Addr):Prop where
 sa:PySem.W.findIn K (.ref C) "__setattr__"=some (some (.builtin "object.__setattr__"))
 ov:overIn K C=true
 hd:PySem.W.hasDictIn K C=true
 ga:PySem.W.findIn K (.ref C) "__getattribute__"=some (some (.builtin "BaseException.__getattribute__"))
 gh:PySem.W.findIn K (.ref C) "__getattr__"=some none
 mb:PySem.W.mroIn K C (.type "BaseException")=some true
section
variable {prog : Program} {w : World} {A : Around} {s : Shared} {K : PySem.W.Frag} {x C : Addr} {R : Result → Shared → Prop}
theorem Bl4 {name:Str} {tk:Tok} {v:Value} (X:K.In s.heap) (L0:PySem.W.Looks (model prog w) s.heap (typeOf (.ref x)) (.ref C)) (hp:overIn K C=true) (ht:PySem.W.findIn K (.ref C) name=some none)
  (h:wpAny (model prog w) A.in1 (storeInOwnDict (.ref x) (.ref C) (.str name tk) name v false)
   (λfin s'=>match fin with | .done f=>R (.ok f) s' | .again c'=>c'.quiet=true/\codeAny (model prog w) A c' R s') (λe s'=>R (.error e) s') s) :
  codeAny (model prog w) A (.call (.builtin "object.__setattr__") ⟨[.ref x,.str name tk,v],[]⟩) R s:=by
 have SF:=PySem.F.store_object
 obtain ⟨cd,hc,ho⟩:=PySem.W.any_some hp
 have ne:cd.mro.isEmpty=false:=by
  cases q:cd.mro with
  | nil=>rw [q] at ho; cases ho
  | cons _ _=>rfl
 have sub:PySem.W.Looks (model prog w) s.heap (isInstance (.ref x) (.type "object")) true:=L0.andThen (PySem.W.looks_mroIn X (by
  unfold PySem.W.mroIn
  rw [hc,Option.bind_some,if_neg (by rw [ne]; decide),Bb4 ho]))
 refine codeAny_call_builtin SF.slot.plain SF.entry (@PySem.W.check_slot (model prog w) _ _ s "object.__setattr__" "object" "__setattr__" (.ref x) [.str name tk,v] [] _ SF.kind SF.split sub (SF.args (.ref x) (.str name tk) v) ?_)
 have hm:PySem.W.Looks (model prog w) s.heap (mroOf (.ref C)) cd.mro:=(PySem.W.looks_clsIn X hc).andThen .now
 rw [PySem.W.osa_eq,refuse_eq]
 refine wpAny_bind (wpAny_bind (L0.here (wpAny_bind (hm.here ?_))))
 rw [Ar1 _ ho]
 exact wpAny_pure (wpAny_bind (L0.here (wpAny_bind ((PySem.W.looks_findIn X ht).here (wpAny_bind (wpAny_pure h))))))
end
def xnw (e C t:Addr) (od:Option Addr):HO:=.ext λh=>h.get? e=some (xo C t od)
def xdo (d:Addr) (fs:List (Str×V)):HO:=.ext λh=>∃ mA,h.Ns1 d mA/\(∀ f,RelO (fs.lookup f) (mA f))/\PySem.Within mA (fs.map (·.1))
theorem Ck0 {P:Program} {w:World} {H:Hp} {h:Heap} {e C t:Addr} {od:Option Addr} (x:h.get? e=some (xo C t od)):ObjOk P w H h e (xnw e C t od):=⟨x,⟨_,x⟩,λh1 h2 z k=>k _ z⟩
theorem Bs0 {P:Program} {w:World} {H:Hp} {h:Heap} {d:Addr} {fs:List (Str×V)} {mA:Str->Option Value} (x:h.Ns1 d mA) (y:∀ f,RelO (fs.lookup f) (mA f)) (z:PySem.Within mA (fs.map (·.1))):ObjOk P w H h d (xdo d fs) :=
 ⟨⟨mA,x,y,z⟩,(by obtain ⟨o,_,_,e,_⟩:=x; exact ⟨o,e⟩),λh1 h2 ⟨m,⟨o,es,ep,e,r⟩,y,z⟩ k=>⟨m,⟨o,es,ep,k _ e,r⟩,y,z⟩⟩
section
variable {X : Cx} {pins : List (Addr × Obj)} {σ : St} {H : Hp} {s : Shared} {e C t d : Addr} {fs : List (Str × V)} {f : Str} {y : V} {u : Value} {A : Around} {E : Value → Shared → Prop} {Q : Unit → Shared → Prop}
theorem Db4 (I:Inv X pins σ H s) (e0:H e=some (xnw e C t none)) (c:XCls X.K C) (n:NoAttr X.K C f) (ry:RelV y u)
  (h:∀ d H' s',H d=none->d≠e->H' e=some (xnw e C t (some d))->H' d=some (xdo d [(f,y)])->(∀ b,b≠e->b≠d->H' b=H b)->Inv X pins σ H' s'->Q () s') :
  wpAny (model X.prog X.w) A (setAttr (.ref e) f u) Q E s:=by
 have hx:s.heap.get? e=some (xo C t none):=(show ObjOk X.prog X.w H s.heap e (xnw e C t none) from I.hok e _ e0).1
 have IA:PySem.W.InstAt s.heap e (xo C t none) C none:=⟨hx,rfl,rfl,trivial⟩
 refine PySem.W.set_plain I.kIn IA c.sa (Bl4 (s:={ s with toks:=s.toks+1 }) I.kIn (EX.ty hx rfl) c.ov n ?_)
 obtain ⟨cd,hc,hd'⟩:=PySem.W.any_some c.hd
 refine wpAny_bind (wpAny_pure (wpAny_bind (wpAny_bind (wpAny_loadPart hx (wpAny_bind (PySem.W.Looks.here (s:={ s with toks:=s.toks+1 }) (PySem.W.looks_clsIn I.kIn hc) ?_))))))
 rw [hd']
 have hxs:e≠s.heap.objs.size:=Nat.ne_of_lt (Heap.lt_size hx)
 have I1:=I.laid (a:=s.heap.objs.size) (o:=xdo s.heap.objs.size []) (t':=s.toks+1) (h':=s.heap.push { cls:=.type "dict",data:=.dict #[] }) (λb o z=>Heap.get?_push_of_some _ z) (Nat.le_refl _)
  (Bs0 (mA:=λ_=>none) (Heap.Ns1.of_empty ⟨_,#[],_,Heap.get?_push_at rfl rfl,rfl,λq hq=>absurd hq (by simp),λ_=>rfl⟩) (λ_=>trivial) PySem.Within.nil)
 rw [if_neg (by decide),if_neg (by show ¬ ((!true || !true)=true); decide)]
 have e1:(s.heap.push { cls:=.type "dict",data:=.dict #[] }).get? e=some (xo C t none):=Heap.get?_push_of_some _ hx
 refine wpAny_bind (wpAny_alloc' (wpAny_bind (wpAny_update' e1 (wpAny_pure ?_))))
 have he1:upd H s.heap.objs.size (xdo s.heap.objs.size []) e=some (xnw e C t none):=by rw [Aa7 hxs]; exact e0
 have hd0:H s.heap.objs.size=none:=I.hok.fresh (Nat.le_refl _)
 have e2:((s.heap.push { cls:=.type "dict",data:=.dict #[] }).update e λo=>{ cls:=o.cls,dict:=some s.heap.objs.size,data:=o.data,slots:=o.slots }).get? e=some (xo C t (some s.heap.objs.size)):=Heap.get?_update_self _ e1 rfl
 have I2:=I1.write (x:=e) (e:=e) (o:=xnw e C t (some s.heap.objs.size)) (t':=s.toks+1) (h':=(s.heap.push { cls:=.type "dict",data:=.dict #[] }).update e λo=>{ cls:=o.cls,dict:=some s.heap.objs.size,data:=o.data,slots:=o.slots })
  (by rw [he1]; exact True.intro) (.inl rfl) (λb o z q=>(Ae6 z).trans q) ⟨_,e2⟩ (Ck0 e2)
 have hd2:((s.heap.push { cls:=.type "dict",data:=.dict #[] }).update e λo=>{ cls:=o.cls,dict:=some s.heap.objs.size,data:=o.data,slots:=o.slots }).Ns1 s.heap.objs.size (λ_=>none) :=
  Heap.Ns1.of_empty ⟨_,#[],_,(Ae6 hxs.symm).trans (Heap.get?_push_at rfl rfl),rfl,λq hq=>absurd hq (by simp),λ_=>rfl⟩
 generalize ((s.heap.push { cls:=.type "dict",data:=.dict #[] }).update e λo=>{ cls:=o.cls,dict:=some s.heap.objs.size,data:=o.data,slots:=o.slots })=h2 at *
 generalize s.heap.objs.size=d at *
 have hd3:upd (upd H d (xdo d [])) e (xnw e C t (some d)) d=some (xdo d []):=by rw [Aa7 hxs.symm,upd_same]
 show wpAny _ _ (storeInDict d (.str f s.toks) f u) _ _ _
 unfold storeInDict newKeyGuard
 refine wpAny_bind (wpAny_pure (wpAny_bind (wpAny_nsSet1 hd2 λh' hn' hs=>?_)))
 obtain ⟨oD,esD,epD,hoD,hdD,hcD⟩:=hn'.count (PySem.Within.cons f u PySem.Within.nil)
 refine wpAny_bind (wpAny_lookBehind hoD (by rw [hdD]; exact pastItsLine_dict (Nat.le_trans hcD (by rw [List.length_cons,List.length_nil,sizeLine_eq]; omega))) (wpAny_pure ?_))
 refine h d _ _ hd0 hxs.symm ?_ ?_ ?_ (I2.write (x:=d) (e:=d) (o:=xdo d [(f,y)]) (by rw [hd3]; exact True.intro) (.inl rfl) (λb o z q=>(hs.2 b z).trans q) ⟨_,hoD⟩ (Bs0 hn' (λg=>?_) (λg hg=>?_)))
 ·rw [Aa7 hxs,upd_same]
 ·rw [upd_same]
 ·intro b z1 z2
  rw [Aa7 z2,Aa7 z1,Aa7 z2]
 ·show RelO (List.lookup g [(f,y)]) (if g=f then some u else none)
  by_cases q:g=f
  ·rw [q,if_pos rfl,List.lookup_cons_self]; exact ry
  ·rw [if_neg q,List.lookup_cons,beq_false_of_ne q]; exact True.intro
 ·by_cases q:g=f
  ·rw [q]; exact List.mem_cons_self ..
  ·exact absurd (if_neg q) hg
theorem xset (I:Inv X pins σ H s) (e0:H e=some (xnw e C t (some d))) (d0:H d=some (xdo d fs)) (c:XCls X.K C) (n:NoAttr X.K C f) (ry:RelV y u) (hl:fs.length<1000)
  (h:∀ s',Inv X pins σ (upd H d (xdo d (putF f y fs))) s'->Q () s'):wpAny (model X.prog X.w) A (setAttr (.ref e) f u) Q E s:=by
 have hx:s.heap.get? e=some (xo C t (some d)):=(show ObjOk X.prog X.w H s.heap e (xnw e C t (some d)) from I.hok e _ e0).1
 obtain ⟨⟨mA,hn,hr,hw⟩,⟨od,hod⟩,_⟩:=(show ObjOk X.prog X.w H s.heap d (xdo d fs) from I.hok d _ d0)
 have IA:PySem.W.InstAt s.heap e (xo C t (some d)) C (some od):=⟨hx,rfl,rfl,hod⟩
 refine PySem.W.set_plain I.kIn IA c.sa (Bl4 (s:={ s with toks:=s.toks+1 }) I.kIn (EX.ty hx rfl) c.ov n ?_)
 obtain ⟨cd,hc,hd'⟩:=PySem.W.any_some c.hd
 refine wpAny_bind (wpAny_pure (wpAny_bind (wpAny_bind (wpAny_loadPart hx (wpAny_bind (PySem.W.Looks.here (s:={ s with toks:=s.toks+1 }) (PySem.W.looks_clsIn I.kIn hc) ?_))))))
 rw [hd']
 refine wpAny_pure (a:=some d) ?_
 show wpAny _ _ (storeInDict d (.str f s.toks) f u) _ _ _
 unfold storeInDict newKeyGuard
 refine wpAny_bind (wpAny_pure (wpAny_bind (wpAny_nsSet1 (s:={ s with toks:=s.toks+1 }) hn λh' hn' hs=>?_)))
 obtain ⟨oD,esD,epD,hoD,hdD,hcD⟩:=hn'.count (PySem.Within.cons f u hw)
 refine wpAny_bind (wpAny_lookBehind hoD (by rw [hdD]; exact pastItsLine_dict (Nat.le_trans hcD (by rw [List.length_cons,List.length_map,sizeLine_eq]; omega))) (wpAny_pure ?_))
 refine h _ (I.write (x:=d) (e:=d) (by rw [d0]; exact True.intro) (.inl rfl) (λb o z q=>(hs.2 b z).trans q) ⟨_,hoD⟩ (Bs0 hn' (λg=>?_) (λg hg=>?_)))
 ·show RelO ((putF f y fs).lookup g) (if g=f then some u else mA g)
  rw [Ab7]
  by_cases q:g=f
  ·rw [if_pos q,if_pos q]; exact ry
  ·rw [if_neg q,if_neg q]; exact hr g
 ·by_cases q:g=f
  ·rw [q]; exact (Am1 f y fs).1
  ·refine (Am1 f y fs).2 g (hw g λz=>hg ?_)
   show (if g=f then some u else mA g)=none
   rw [if_neg q]; exact z
end
section
variable {prog : Program} {w : World} {A : Around} {s : Shared} {K : PySem.W.Frag} {x C : Addr} {E : Value → Shared → Prop}
theorem xga {name:Str} {v:Value} {b:Bool} {Q:Value->Shared->Prop} (X:K.In s.heap) (c:XCls K C) (L0:PySem.W.Looks (model prog w) s.heap (typeOf (.ref x)) (.ref C)) (Lf:PySem.W.Looks (model prog w) s.heap (find (.ref x) (.ref C) name) (.value v)) (hv:PySem.W.handedIn v=true)
  (h:Q v { s with toks:=s.toks+1 }):wpAny (model prog w) A (getAttr (.ref x) name b) Q E s:=by
 obtain ⟨hh,g,d,t,os⟩:=s
 have L1:=PySem.W.looks_findIn (M:=model prog w) X c.ga
 have L2:=PySem.W.looks_findIn (M:=model prog w) X c.gh
 have hx2:(Value.builtin "BaseException.__getattribute__" == Value.builtin "object.__getattribute__")=false:=by decide +kernel
 unfold getAttr getAttrBy
 refine wpAny_bind (wpAny_mkText (wpAny_holding (wpAny_bind (L0.at (wpAny_bind (L1.at ?_))))))
 dsimp only
 rw [if_neg (by rw [hx2,Bool.and_false]; exact Bool.false_ne_true)]
 unfold getAttrByItsOwn hookBefore
 refine wpAny_bind (L2.at ?_)
 refine wpAny_bind (wpAny_attempt (wpAny_holding ?_))
 unfold callGetattribute boundAndCalled
 rw [if_neg (by cases b <;> decide)]
 rw [PySem.F.attr_ValueError.ga.bind (.ref x)]
 refine wpAny_bind (wpAny_pure (wpAny_call ?_))
 refine codeAny_call_builtin PySem.F.attr_ValueError.ga.plain F.entry_bexc_ga (EX.check_ga X L0 c.mb ?_)
 refine wpAny_bind (wpAny_pure (a:=(Value.ref x,[Value.str name _])) ?_)
 refine wpAny_bind (wpAny_pure (a:=name) ?_)
 refine wpAny_bind (L0.at ?_)
 refine wpAny_bind (Lf.at ?_)
 refine wpAny_pure ?_
 exact PySem.W.handed_on hv h
end
end L2
end
section
namespace L2
open PySem PySem.Spec PyProof.Rows Builtin Builtin.ObjectAttr
section
variable {X : Cx} {pins : List (Addr × Obj)} {σ : St} {H : Hp} {s : Shared} {e C t d : Addr} {fs : List (Str × V)} {f : Str} {v : V}
theorem xget {A:Around} {E:Value->Shared->Prop} {b:Bool} {Q:Value->Shared->Prop} (I:Inv X pins σ H s) (e0:H e=some (xob e (.ref C) (some d))) (d0:H d=some (xdo d fs)) (c:XCls X.K C) (n:NoAttr X.K C f) (l:fs.lookup f=some v)
  (h:∀ u s',Inv X pins σ H s'->RelV v u->Q u s'):wpAny (model X.prog X.w) A (getAttr (.ref e) f b) Q E s:=by
 obtain ⟨⟨oe,h1,h2,h3,h4⟩,_,_⟩:=(show ObjOk X.prog X.w H s.heap e (xob e (.ref C) (some d)) from I.hok e _ e0)
 obtain ⟨⟨mA,hn,hr,_⟩,_,_⟩:=(show ObjOk X.prog X.w H s.heap d (xdo d fs) from I.hok d _ d0)
 obtain ⟨od,ho,hl⟩:=Bb9 hn
 obtain ⟨u,hu,ru⟩:=RelO.some_of (v:=v) (o:=mA f) (by rw [<- l]; exact hr f)
 have IA:PySem.W.InstAt s.heap e oe C (some od):=⟨h1,h2,h4,by rw [h3]; exact ho⟩
 have Lf:=PySem.W.looks_find (M:=model X.prog X.w) I.kIn IA (PySem.W.findObj_own c.hd n rfl (by rw [hl,hu]))
 exact xga I.kIn c (EX.ty h1 h2) Lf (Bc9 ru) (h u _ (I.tok _) ru)
end
def Cu3 (K:PySem.W.Frag) (ta:TE) (f:Str):TE:=λσ H Q=>ta σ H λx H1=>∃ e C d fs v,x=.ref e/\H1 e=some (xob e (.ref C) (some d))/\H1 d=some (xdo d fs)/\XCls K C/\NoAttr K C f/\fs.lookup f=some v/\Q v H1
def sXf0 (K:PySem.W.Frag) (ta tv:TE) (f:Str):TS:=λD σ H=>tv σ H λy H1=>ta σ H1 λx H2=>∃ e C t,x=.ref e/\H2 e=some (xnw e C t none)/\XCls K C/\NoAttr K C f /\
 ∀ d H',H2 d=none->d≠e->H' e=some (xnw e C t (some d))->H' d=some (xdo d [(f,y)])->(∀ b,b≠e->b≠d->H' b=H2 b)->D.nx σ H'
def sXf (K:PySem.W.Frag) (ta tv:TE) (f:Str):TS:=λD σ H=>tv σ H λy H1=>ta σ H1 λx H2=>∃ e C t d fs,x=.ref e/\H2 e=some (xnw e C t (some d))/\H2 d=some (xdo d fs)/\XCls K C/\NoAttr K C f/\fs.length<1000/\D.nx σ (upd H2 d (xdo d (putF f y fs)))
section
variable {X : Cx} {o e value : Expr} {f : Str} {pos pos' tpos : Pos} {ta tv : TE}
theorem Cp2 (he:PE X e ta) (hb:attributeBase e f X.env (eval e X.env)=eval e X.env):PE X (.Attribute e f pos) (Cu3 X.K ta f):=by
 intro pins s σ H Q I h
 refine Cb4 hb (thn (he pins s σ H _ I h) λu s1 ⟨x,H1,I1,rx,a,C,d,fs,v,ex,ea,ed,c,n,l,q⟩=>?_)
 subst ex
 obtain rfl:u=Value.ref a:=rx
 exact xget I1 ea ed c n l λu' s2 I2 ru=>⟨v,H1,I2,ru,q⟩
theorem Am5 {K:PySem.W.Frag} (hK:X.K=K) (he:PE X e ta) (hb:attributeBase e f X.env (eval e X.env)=eval e X.env):PE X (.Attribute e f pos) (Cu3 K ta f):=by
 subst hK
 exact Cp2 he hb
theorem Cw8 (ha:PE X o ta) (hv:PE X value tv) (hs:swapsWith value (some (.Attribute o f pos')) pos.line X.env=pure false):PS X (.Assign [.Attribute o f pos'] value pos) (sXf0 X.K ta tv f):=by
 intro pins s σ H D I h
 refine plainObj_wpAny_Assign_Attribute (thn (hv pins s σ H _ I h) λu s1 ⟨y,H1,I1,ry,q⟩=>thn (ha pins s1 σ H1 _ I1 q) λov s2 ⟨x,H2,I2,rx,a,C,t,ex,ea,c,n,q2⟩=>?_) hs
 subst ex
 obtain rfl:ov=Value.ref a:=rx
 exact Db4 I2 ea c n ry λd H' s3 h1 h2 h3 h4 h5 I3=>⟨σ,H',I3,q2 d H' h1 h2 h3 h4 h5⟩
theorem Cw9 (ha:PE X o ta) (hv:PE X value tv) (hs:swapsWith value (some (.Attribute o f pos')) pos.line X.env=pure false):PS X (.Assign [.Attribute o f pos'] value pos) (sXf X.K ta tv f):=by
 intro pins s σ H D I h
 refine plainObj_wpAny_Assign_Attribute (thn (hv pins s σ H _ I h) λu s1 ⟨y,H1,I1,ry,q⟩=>thn (ha pins s1 σ H1 _ I1 q) λov s2 ⟨x,H2,I2,rx,a,C,t,d,fs,ex,ea,ed,c,n,l,q2⟩=>?_) hs
 subst ex
 obtain rfl:ov=Value.ref a:=rx
 exact xset I2 ea ed c n ry l λs3 I3=>⟨σ,_,I3,q2⟩
end
def excInI (K:PySem.W.Frag) (C fI:Addr):Bool:=match K.lookup C with
 | some ⟨.type "type",_,.cls cd,sl⟩=>(match cd.mro,sl.toList with
  | .ref C'::bm,[_,_,_,_,some (.builtin n),_]=>C' == C && !cd.hasDel && n == "ValueError.__new__" && Ay9 K cd.ns && (PySem.W.nsIn K cd.ns "__init__" == some (some (.ref fI))) && Az8 K bm
  | _,_=>false)
 | _=>false
theorem Bq5 {K:PySem.W.Frag} {h:Heap} {N:Addr} {mg:Str->Option Value} {n:Str} {v:Value} (X:K.In h) (G:h.Ns N mg) (e:PySem.W.nsIn K N n=some (some v)):mg n=some v:=by
 obtain ⟨o,es,ep,ho,hd,_,hf⟩:=G
 unfold PySem.W.nsIn at e
 split at e
 ·rename_i c d es' n' sl q
  have z:=X _ _ q
  rw [ho] at z
  cases z
  cases hd
  revert e
  cases hx:List.find? (λy=>y.key.isStr n) es.toList with
  | none =>
   dsimp only
   split <;> exact nofun
  | some en =>
   intro e
   cases e
   rw [<- hf]
   unfold nsFind findBy
   rw [<- Array.find?_toList,hx]
   rfl
 ·cases e
theorem Br5 {K:PySem.W.Frag} {h₀:Heap} {C fI:Addr} (X₀:K.In h₀) (q:excInI K C fI=true):∃ bm N nm qn bs hdct sn sub ab col dd k0 k1 k2 k3 k5 mN,mN "__init__"=some (.ref fI) /\
  ∀ h:Heap,K.In h->h.get? C=some (excClassObj nm qn C N bs bm hdct sn sub ab col dd k0 k1 k2 k3 k5 "ValueError.__new__")/\h.Ns N mN/\OwnTail h VB bm:=by
 unfold excInI at q
 split at q
 ·rename_i dd cd sl ho
  split at q
  ·rename_i C' bm k0 k1 k2 k3 n k5 hm hs
   simp only [Bool.and_eq_true,beq_iff_eq,Bool.not_eq_true'] at q
   obtain ⟨⟨⟨⟨⟨rfl,hdel⟩,rfl⟩,hp⟩,hi⟩,ht⟩:=q
   obtain ⟨nm,bs,mro,ns,qn,hd,sn,sub,ab,col,del⟩:=cd
   dsimp only at hm hdel hi hp
   subst hm hdel
   have hsl:sl=#[k0,k1,k2,k3,some (.builtin "ValueError.__new__"),k5]:=by
    obtain ⟨l⟩:=sl
    simp only at hs
    rw [hs]
   subst hsl
   unfold Ay9 at hp
   split at hp
   ·rename_i c1 d1 es ep sl1 hl
    have sk:StrKeys es:=λen hen=>by
     have y:=(List.all_eq_true.mp hp) en (by simpa using hen)
     split at y
     ·rename_i n t hk
      exact ⟨n,t,hk⟩
     ·cases y
    have hN:∀ h:Heap,K.In h->h.Ns ns (nsFind es):=λh X=>⟨_,es,ep,X _ _ hl,rfl,sk,λ_=>rfl⟩
    exact ⟨bm,ns,nm,qn,bs,hd,sn,sub,ab,col,dd,k0,k1,k2,k3,k5,nsFind es,Bq5 X₀ (hN h₀ X₀) hi,λh X=>⟨X _ _ ho,hN h X,Aw6 X₀ ht h X⟩⟩
   ·cases hp
  ·cases q
 ·cases q
def spXI (C:Addr) (n:Nat) (ff:List V->List (Str×V)):Sp:=λvs H Q _=>∃ (e t:Addr) (xs:List V),vs=.ref e::xs/\xs.length=n/\H e=some (xnw e C t none) /\
 ∀ (d:Addr) (H':Hp),H d=none->d≠e->H' e=some (xnw e C t (some d))->H' d=some (xdo d (ff xs))->(∀ b,b≠e->b≠d->H' b=H b)->Q .non H'
def Cb7 (X:Cx) (E:XK):Prop:=∀ (pins:List (Addr×Obj)) (σ:St) (H:Hp) (s:Shared) (e C t:Addr) (od:Option Addr),Inv X pins σ H s->s.heap.get? e=some (xo C t od)->(∀ o,X.s₀.heap.get? e=some o->e ∈ X.ex)->H e=none->E (.ref C) od H->X.xe (.ref e) s
theorem Ak8 {P:Program} {w:World} {K:PySem.W.Frag} {mg:Str->Option Value} {base:Heap} {N:List Str} {qual:Str} {scope:Scope} {f:Addr} {cd:Value} {A:Around} {outer:List Env} {s₀:Shared} {H₀:Hp} {E:XK}:Cb7 (cxR P w K mg base N qual scope f cd A outer s₀ H₀ E) E:=λpins σ H s e C t od I he hn hH q=>by
 refine Bv9 I he ?_ hH q
 cases z:s₀.heap.get? e with
 | none=>rfl
 | some o=>exact absurd (show e ∈ ([]:List Addr) from hn o z) (by simp)
section
variable {X : Cx} {pins : List (Addr × Obj)} {σ : St} {H : Hp} {s : Shared} {e C t : Addr}
theorem Inv.lay {h':Heap} {us:List Value} (I:Inv X pins σ H s) (M:Heap.MadeExcOf s.heap h' e (.ref C) us):H e=none/\∃ t,h'.get? e=some (xo C t none)/\Inv X pins σ (upd H e (xnw e C t none)) { s with heap:=h' }:=by
 obtain ⟨t,he,_,_⟩:=M.there
 have hH:H e=none:=by
  cases z:H e with
  | none=>rfl
  | some u =>
   obtain ⟨ob,zb⟩:=(I.hok e u z).is
   rw [M.new] at zb
   cases zb
 have ne:∀ b o,s.heap.get? b=some o->b≠e:=λb o z y=>by rw [y,M.new] at z; cases z
 refine ⟨hH,t,he,I.un (t':=s.toks) ⟨λb o z _ _ _=>M.keeps b o z,λb o z _ _ _=>⟨o.slots,M.keeps b o z⟩,λb o z n _=>by rw [Aa7 (ne b o z)]; exact n,λb o z _=>⟨o,M.keeps b o z⟩,λb xs z=>by rw [Aa7 (Ac7 z hH)]; exact z,λb o u z=>by rw [Aa7 (Ac7 z hH)]; exact z,λb ps z=>⟨#[],by rw [Aa7 (Ac7 z hH),z]; simp⟩⟩ λa u q=>?_⟩
 by_cases ha:a=e
 ·subst ha
  rw [upd_same] at q
  cases q
  exact Ck0 he
 ·rw [Aa7 ha] at q
  exact (I.hok a u q).stay (λb o _ z=>M.keeps b o z) (λb z=>by rw [Aa7 (Ac7 z hH)]; exact z) λb xs z=>by rw [Aa7 (Ac7 z hH)]; exact z
theorem Inv.let {od:Option Addr} (I:Inv X pins σ H s) (e0:H e=some (xnw e C t od)):Inv X pins σ (λb=>if b=e then none else H b) s:=by
 have k:∀ b u,H b=some u->(∀ φ,u≠.ext φ)->(λb=>if b=e then none else H b) b=some u:=λb u z n=>by
  show (if b=e then none else H b)=some u
  rw [if_neg (λy=>by rw [y,e0] at z; cases z; exact n _ rfl)]
  exact z
 refine I.un (h':=s.heap) (t':=s.toks) ⟨λb o z _ _ _=>z,λb o z _ _ _=>⟨o.slots,z⟩,λb o z n _=>?_,λb o z _=>⟨o,z⟩,λb xs z=>k b _ z nofun,λb o u z=>k b _ z nofun,λb ps z=>⟨#[],(k b _ z nofun).trans (by simp)⟩⟩ λa u q=>?_
 ·show (if b=e then none else H b)=none
  split
  ·rfl
  ·exact n
 ·by_cases ha:a=e
  ·rw [if_pos ha] at q; cases q
  ·rw [if_neg ha] at q
   exact (I.hok a u q).stay (λb o _ z=>z) (λb z=>k b _ z nofun) λb xs z=>k b _ z nofun
end
section
variable {X : Cx} {x : Str} {C fI : Addr} {fdI : FuncData} {psI : List Str} {k n : Nat} {ff : List V → List (Str × V)} {E : XK} {e₀ : Expr} {rest : List Expr} {t : TA} {np cpos pos : Pos}
def Cm0 (C:Addr) (n:Nat) (ff:List V->List (Str×V)) (E:XK) (t:TA):TS:=λ_ σ H=>t σ H λvs H1=>vs.length=n/\∀ d,H1 d=none->E (.ref C) (some d) (upd H1 d (xdo d (ff vs)))
theorem Ai6 (hK:excInI X.K C fI=true) (hf:PySem.W.isFn X.K (.ref fI)=true) (hm:X.mg x=some (.ref C)) (hR:Cb7 X E) (hA:X.calm=true) (F:FnOk X.prog X.w X.K X.mg X.base CX0 k fI fdI psI (spXI C n ff)) (hr:Room (k+1) X.A) (hb:Binds X.K fdI psI []) (hz:n<=100)
  (ha:PA X (e₀::rest) t) (hg:Gl X x:=by rfl) (hd:(x == ("__debug__":Str))=false:=by decide)
  (he:starEach (e₀::rest) X.env=(false,eval e₀ X.env)::starEach rest X.env:=by rfl) (hpl:(backTo cpos (starEach rest X.env)).any (·.1)=false:=by rfl) :
  PS X (.Raise (some (.Call (.Name x np) (e₀::rest) [] cpos)) none pos) (Cm0 C n ff E t):=by
 intro pins s σ H D I h
 obtain ⟨bm,N,nm,q,bs,hdct,sn,sub,ab,col,dd,k0,k1,k2,k3,k5,mN,hi,hK⟩:=Br5 I.kIn hK
 obtain ⟨_,_,T₀⟩:=hK _ I.kIn
 refine Br9 (C:=C) (fI:=fI) (nm:=nm) (q:=q) (N:=N) (bs:=bs) (bm:=bm) (hdct:=hdct) (sn:=sn) (sub:=sub) (ab:=ab) (col:=col) (dd:=dd) (k0:=k0) (k1:=k1) (k2:=k2) (k3:=k3) (k5:=k5)
  PySem.F.excBase_ValueError (mN:=mN) (T₀.hasType PySem.F.excBase_ValueError.hasBase) (I.ok.hd hA) (by rw [he]; show (false || (backTo cpos (starEach rest X.env)).any (·.1))=false; rw [hpl]; rfl) hi (Am0 I hg hm ⟨rfl,?_⟩ hd)
 have h1:=ha cpos pins s σ H _ I h
 rw [he] at h1 ⊢
 refine Calls.evalArgs_plain (wpAny_mono h1 (λus s₂ h₂=>?_) λ_ _ y=>y)
 obtain ⟨vs,H1,I1,r,hl,q⟩:=h₂
 obtain ⟨g1,g2,g3⟩:=hK _ I1.kIn
 have hsz:us.length<=sizeLine:=by rw [<- r.length,hl]; exact Nat.le_trans hz (by decide)
 refine ⟨rfl,hsz,g1,g2,g3,?_,λh' e M=>?_⟩
 ·have y:=beq_iff_eq.mp hf
  unfold PySem.W.typeIn at y
  obtain ⟨oI,y1,y2⟩:=Option.map_eq_some_iff.mp y
  exact ⟨oI,I1.kIn _ _ y1,y2⟩
 obtain ⟨H1e,t0,he0,I2⟩:=I1.lay M
 have hsp:spXI C n ff (V.ref e::vs) (upd H1 e (xnw e C t0 none)) (λv H2=>v=.non/\∃ d,H1 d=none/\d≠e/\H2 e=some (xnw e C t0 (some d))/\H2 d=some (xdo d (ff vs))/\∀ b,b≠e->b≠d->H2 b=H1 b) E0 :=
  ⟨e,t0,vs,rfl,hl,upd_same,λd H' d1 d2 d3 d4 d5=>⟨rfl,d,by rw [Aa7 d2] at d1; exact d1,d2,d3,d4,λb b1 b2=>by rw [d5 b b1 b2,Aa7 b1]⟩⟩
 have r2:Vals (V.ref e::vs) (Value.ref e::us):=.cons rfl r
 have hlen:(Value.ref e::us++[]).length=psI.length:=by
  have z:=r2.length
  rw [F.len _ _ _ _ hsp] at z
  rw [List.append_nil]
  exact z.symm
 have hbb:=hb _ (Value.ref e::us) I2.kIn hlen
 rw [List.append_nil] at hbb
 refine wpAny_call (codeAny_mono (F.run _ X.stack _ _ ⟨Value.ref e::us,[]⟩ (Value.ref e::us) _ _ E0 (hr.make C us []) (I2.env0.make C us []) hbb r2 hsp) λr s' hq=>?_)
 cases r with
 | error x=>exact hq.elim
 | ok fl =>
  cases fl with
  | ret u =>
   obtain ⟨v,H',I3,rv,ev,d,d1,d2,d3,d4,d5⟩:=I2.after hq
   subst ev
   have he3:s'.heap.get? e=some (xo C t0 (some d)):=(show ObjOk X.prog X.w H' s'.heap e (xnw e C t0 (some d)) from I3.hok e _ d3).1
   have I4:=I3.let d3
   have eH:(λb=>if b=e then none else H' b)=upd H1 d (xdo d (ff vs)):=by
    funext b
    by_cases b1:b=e
    ·rw [if_pos b1,b1,Aa7 d2.symm,H1e]
    ·rw [if_neg b1]
     by_cases b2:b=d
     ·rw [b2,d4,upd_same]
     ·rw [d5 b b1 b2,Aa7 b2]
   rw [eH] at I4
   refine ⟨rv,(hK _ I3.kIn).1,⟨t0,some d,he3⟩,hR pins σ _ s' e C t0 (some d) I4 he3 (λo z=>?_) (by rw [Aa7 d2.symm]; exact H1e) (q d d1)⟩
   by_cases hx:e ∈ X.ex
   ·exact hx
   ·obtain ⟨o',z'⟩:=I1.base.there e o z hx
    rw [M.new] at z'
    cases z'
  | next=>exact False.elim hq
  | brk=>exact False.elim hq
  | cont=>exact False.elim hq
end
end L2
end
section
namespace L2
open PySem
def dP:Option (List Int)->PyData
 | none=>.none
 | some ws=>.list (ws.map PyData.int)
def dC (c:List (Option (List Int))):PyData:=.list (c.map dP)
theorem Df0 (o:Option (List Int)):(dP o).canLay0=true/\(dP o).depth<=1/\PyData.eqv (dP o) (dP o)=true:=by
 cases o with
 | none=>exact ⟨rfl,by decide,rfl⟩
 | some ws =>
  obtain ⟨h1,h2⟩:=layI ws
  exact ⟨by simp only [dP,PyData.canLay0,h1],by simp only [dP,PyData.depth,h2]; decide,eqvI ws⟩
theorem Ca7:∀ c:List (Option (List Int)),PyData.canLayAll0 (c.map dP)=true/\PyData.depthAll (c.map dP)<=1/\PyData.eqvAll (c.map dP) (c.map dP)=true
 | []=>⟨rfl,by decide,rfl⟩
 | o::r=>by
  obtain ⟨h1,h2,h3⟩:=Ca7 r
  obtain ⟨g1,g2,g3⟩:=Df0 o
  refine ⟨?_,?_,?_⟩
  ·simp only [List.map_cons,PyData.canLayAll0,h1,g1,Bool.and_self]
  ·simp only [List.map_cons,PyData.depthAll]
   omega
  ·simp only [List.map_cons,PyData.eqvAll,h3,g3,Bool.and_self]
theorem Bv0 (c:List (Option (List Int))):SeqAt.shaped (dC c)=true:=by
 obtain ⟨h1,h2,_⟩:=Ca7 c
 simp only [dC,SeqAt.shaped,PyData.canLay0,PyData.depth,h1,Bool.true_and]
 exact decide_eq_true (by omega)
theorem eqvC (c:List (Option (List Int))):PyData.eqv (dC c) (dC c)=true:=by
 simp only [dC,PyData.eqv]
 exact (Ca7 c).2.2
theorem datP {K:PySem.W.Frag} {H:Hp}:∀ ps:Pgs,(∀ (p:Addr) (ws:List Int),some (p,ws) ∈ ps->H p=some (.lst (ws.map V.int)))->DatsR K H (ps.map pgV) ((cont ps).map dP)
 | [],_=>.nil
 | none::r,h=>.cons .non (datP r λp ws m=>h p ws (List.mem_cons_of_mem _ m))
 | some (p,ws)::r,h=>.cons (.lst (SqL.of (h p ws (List.mem_cons_self ..))) (Da6 ws)) (datP r λp ws m=>h p ws (List.mem_cons_of_mem _ m))
theorem Da7 {K:PySem.W.Frag} {H:Hp} {a:Addr} {ps:Pgs} (g:Pg H a ps):DatR K H (.ref a) (dC (cont ps)):=.lst (SqL.of g.top) (datP ps λp ws m=>by
 obtain ⟨i,e⟩:=List.getElem?_of_mem m
 exact (g.each i p ws e).1)
structure PEq (X:Cx) (e:Expr) (t:TE):Prop where
 h:PE X e t
structure PAq (X:Cx) (es:List Expr) (t:TA):Prop where
 h:PA X es t
structure PSq (X:Cx) (st:Stmt) (t:TS):Prop where
 h:PS X st t
structure PSsq (X:Cx) (st:List Stmt) (t:TS):Prop where
 h:PSs X st t
theorem Cf3 {X:Cx} {e:Expr} {es:List Expr} {te:TE} {t:TA} (h1:PEq X e te) (h2:PAq X es t) (hs:∀ (l:List Expr) (env:Env),starEach (e::l) env=(false,eval e env)::starEach l env:=by intro _ _; rfl):PAq X (e::es) (Ap6 te t):=⟨Aa0 h1.h h2.h (hs es X.env)⟩
theorem Cp1 {X:Cx} {es:List Expr} {t:TA} {pos:Pos} (h:PAq X es t):PEq X (.List es pos) (tLst t):=⟨Ag1 h.h⟩
theorem Ce2 {X:Cx} {st:Stmt} {t:TS} (h:PSq X st t):PSsq X [st] t:=⟨Aa4 h.h⟩
structure PTq (X:Cx) (c:Expr) (t:TT):Prop where
 h:PT X c t
structure PIq (X:Cx) (tg iter:Expr) (w:TI):Prop where
 h:PI X tg iter w
structure PGq (X:Cx) (tg:Expr) (g:TG):Prop where
 h:PG X tg g
section
variable {X : Cx} {st : Stmt} {rest : List Stmt} {t u : TS} {e tg iter : Expr} {te : TE} {pos : Pos}
theorem Ce3:PSsq X [] Cu6:=⟨Ab0⟩
theorem At9 (h1:PSq X st t) (h2:PSsq X rest u):PSsq X (st::rest) (tSeq t u):=⟨Aa2 h1.h h2.h⟩
theorem Cw7 {c:Expr} {a b:List Stmt} {tc:TT} (hc:PTq X c tc) (ha:PSsq X a t) (hb:PSsq X b u):PSq X (.If c a b pos) (tIfS tc t u):=⟨Ac8 hc.h ha.h hb.h⟩
theorem Cx1 {a b:Expr} {ta tb:TE} {r:R2} (hr:IxR X r) (ha:PEq X a ta) (hb:PEq X b tb) (hs:Cb8 b):PEq X (.Subscript a b pos) (tOp r ta tb):=⟨Ad3 hr ha.h hb.h hs⟩
theorem Ar0 {a b:Expr} {ta tb:TE} {op:Operator} {r:R2} (ho:OpR X (binaryOp op) r) (ha:PEq X a ta) (hb:PEq X b tb):PEq X (.BinOp a op b pos) (tOp r ta tb):=⟨Ab9 ho ha.h hb.h⟩
theorem Ay8 {i:Nat} {x:Str} {pos':Pos} (hN:X.N.Nodup) (hi:X.N[i]?=some x) (hx:Loc X.env.scope x) (he:PEq X e te) (hs:swapsWith e (some (.Name x pos')) pos.line X.env=pure false:=by rfl) (hf:X.fn x=true\/X.env.scope.names.lookup x=some .local:=by first | exact .inl rfl | exact .inr rfl | assumption) :
  PSq X (.Assign [.Name x pos'] e pos) (tAsg te (Bz1 i)):=⟨Ac5 hN hi hx he.h hs hf⟩
theorem PSsq.ex {D:Ends} {σ:St} {H:Hp} {sts:List Stmt} (h:PSsq X sts t) (g:t D σ H):∃ t,PSs X sts t/\t D σ H:=⟨t,h.h,g⟩
end
inductive Cb9:List Expr->List Int->Prop
 | nil:Cb9 [] []
 | cons {z:Int} {j:Nat} {p:Pos} {es:List Expr} {zs:List Int}:Cb9 es zs->Cb9 (.Constant (.int z) j p::es) (z::zs)
def Cu4 (vs:List V):TA:=λ_ H Q=>Q vs H
theorem Cp4 {X:Cx} {es:List Expr} {zs:List Int} (h:Cb9 es zs):PAq X es (Cu4 (zs.map V.int)):=by
 induction h with
 | nil=>exact ⟨Aa3⟩
 | cons _ ih=>exact ⟨λp pins s σ H Q I q=>(Cf3 ⟨Aa5⟩ ih).h p pins s σ H Q I q⟩
theorem Ce7 {X:Cx} {es:List Expr} {zs:List Int} {pos:Pos} (h:Cb9 es zs):PEq X (.List es pos) (tLst (Cu4 (zs.map V.int))):=Cp1 (Cp4 h)
end L2
end
section
namespace K28
open PySem L2
abbrev Aq5:Stmt:=top 16
abbrev Aj5:Stmt:=top 17
abbrev Ay1:Stmt:=top 18
abbrev Ao6:Stmt:=top 25
abbrev At5:Stmt:=top 26
abbrev Aq8:Stmt:=top 27
abbrev Av1:Stmt:=Ab1 (top 28) 4
abbrev Ao0:Stmt:=Ab1 (top 28) 5
abbrev Ba5:Stmt:=Ab1 (top 28) 7
abbrev Am8:Stmt:=Ab1 (top 28) 8
abbrev Bp8:Stmt:=Ab1 (top 29) 0
abbrev Ay2:Stmt:=Ab1 (top 29) 1
abbrev sHas:Stmt:=Ab1 (top 29) 2
abbrev An3:Stmt:=Ab1 (top 29) 3
abbrev Ak5:Stmt:=Ab1 (top 29) 4
def Ag7:V->Int->Bool
 | .int i,b=>decide (0<=i) && decide (i<b)
 | _,_=>false
theorem Ak2 {x:V} {b:Int} (h:Ag7 x b=true):∃ i,x=.int i/\0<=i/\i<b:=by
 cases x with
 | int i =>
  simp only [Ag7,Bool.and_eq_true,decide_eq_true_eq] at h
  exact ⟨i,rfl,h.1,h.2⟩
 | _=>cases h
theorem Ae3 {i b:Int} (h0:0<=i) (h1:i<b):Ag7 (.int i) b=true:=by simp [Ag7,h0,h1]
structure Dn (K:PySem.W.Frag) (mg:Str->Option Value) (x:Str) (st:Stmt) (ps:List Str) (f:Addr) (fd:FuncData):Prop where
 F:Fun K x x st f fd
 m:mg x=some (.ref f)
 b:Binds K fd ps []
structure Me (K:PySem.W.Frag) (C:Addr) (x qual:Str) (st:Stmt) (ps:List Str) (f:Addr) (fd:FuncData):Prop where
 F:Fun K x qual st f fd
 m:Meth K C x f
 b:Binds K fd ps []
structure Txt (K:PySem.W.Frag) (mg:Str->Option Value):Prop where
 isi:mg "isinstance"=none
 int:mg "int"=none
 boo:mg "bool"=none
 lst:mg "list"=none
 len:mg "len"=none
 all:mg "all"=none
 rng:mg "range"=none
structure Sto (K:PySem.W.Frag) (mg:Str->Option Value) (C NP NL NW NI:Addr):Prop where
 cl:Cls K C
 nh:NoAttr K C "held"
 words:∃ t,mg "WORDS"=some (.int 281474976710656 t)
 cells:∃ t,mg "CELLS"=some (.int 8 t)
 most:∃ t,mg "MOST_PAGES"=some (.int 24 t)
 np:mg "NoPage"=some (.ref NP)
 xp:L2.excIn K NP=true
 nl:mg "NoPlace"=some (.ref NL)
 xl:L2.excIn K NL=true
 nw:mg "NoWord"=some (.ref NW)
 xw:L2.excIn K NW=true
 ni:mg "NoImage"=some (.ref NI)
 xi:L2.excIn K NI=true
def flds (h:Addr):List (Str×V):=putF "held" (.ref h) []
theorem Ai9 (h:Addr):(flds h).lookup ("held":Str)=some (.ref h):=by
 unfold flds
 rw [Ab7,if_pos rfl]
theorem Ai8 (h:Addr) {m:Str} (h1:¬ m = "held"):(flds h).lookup m=none:=by
 unfold flds
 rw [Ab7,if_neg h1]
 rfl
structure Mem (C:Addr) (H:Hp) (m h:Addr) (ps:Pgs):Prop where
 ob:∃ dx,H m=some (.ins C dx (flds h))
 pg:Pg H h ps
 good:Good ps
 len:1<=ps.length/\ps.length<=24
theorem Mem.same {C:Addr} {H H':Hp} {m h:Addr} {ps:Pgs} (M:Mem C H m h ps) (s:Same H H'):Mem C H' m h ps:=⟨⟨_,s _ _ M.ob.choose_spec⟩,M.pg.same s,M.good,M.len⟩
def Af4:Option (Option (Addr×List Int))->Bool
 | some (some _)=>true
 | _=>false
def hasP (ps:Pgs):V->Bool
 | .int i=>decide (0<=i) && decide (i<ps.length) && Af4 ps[i.toNat]?
 | _=>false
theorem Ag4 {ps:Pgs} {x:V} (h:hasP ps x=true):∃ (i:Nat) (p:Addr) (ws:List Int),x=.int i/\ps[i]?=some (some (p,ws)):=by
 cases x with
 | int i =>
  simp only [hasP,Bool.and_eq_true,decide_eq_true_eq] at h
  obtain ⟨⟨h0,h1⟩,h2⟩:=h
  cases e:ps[i.toNat]? with
  | none=>rw [e] at h2; cases h2
  | some o =>
   cases o with
   | none=>rw [e] at h2; cases h2
   | some q=>exact ⟨i.toNat,q.1,q.2,congrArg V.int (by omega),e⟩
 | _=>cases h
theorem Au8 {ps:Pgs} {i:Nat} {p:Addr} {ws:List Int} (e:ps[i]?=some (some (p,ws))):hasP ps (.int i)=true:=by
 have hi:i<ps.length:=(List.getElem?_eq_some_iff.mp e).1
 simp only [hasP,Int.toNat_natCast,e,Af4,Bool.and_true,Bool.and_eq_true,decide_eq_true_eq]
 omega
def Ak3:Sp:=λvs H Q _=>∃ x,vs=[x]/\Th H x/\Q (.bl (isI x)) H
def Aj9:Sp:=λvs H Q _=>∃ x b,vs=[x,.int b]/\Th H x/\Q (.bl (Ag7 x b)) H
def As3:Sp:=λvs H Q _=>∃ x,vs=[x]/\Th H x/\Q (.bl (Ag7 x 281474976710656)) H
def Ba0 (C:Addr):Sp:=λvs H Q _=>∃ m h ps,vs=[.ref m]/\Mem C H m h ps/\Q (.int ps.length) H
def Cd1 (C:Addr):Sp:=λvs H Q _=>∃ m h ps x,vs=[.ref m,x]/\Mem C H m h ps/\Th H x/\Q (.bl (hasP ps x)) H
def Bf8 (C NP:Addr):Sp:=λvs H Q E=>∃ m h ps x,vs=[.ref m,x]/\Mem C H m h ps/\Th H x/\(hasP ps x=true->Q .non H)/\(hasP ps x=false->E (.ref NP) none H)
def Aw9 (C:Addr):Sp:=λvs H Q _=>∃ m h ps,∃ (i j:Nat) (p:Addr) (ws:List Int),vs=[.ref m,.int i,.int j]/\Mem C H m h ps/\ps[i]?=some (some (p,ws))/\j<8/\Q (.int (ws.getD j 0)) H
def As6 (C:Addr):Sp:=λvs H Q _=>∃ m h ps,∃ (i j:Nat) (w:Int) (p:Addr) (ws:List Int),vs=[.ref m,.int i,.int j,.int w]/\Mem C H m h ps/\ps[i]?=some (some (p,ws))/\j<8/\Q .non (upd H p (.lst ((ws.map V.int).set j (.int w))))
section
variable {P : Program} {w : World} {K : PySem.W.Frag} {mg : Str → Option Value} {base : Heap} {C NP NL NW NI : Addr}
theorem scWh:Ab5 ["thing"] ["thing"] (Aa1 Aq5):=FSc
theorem Bm7 {f:Addr} {fd:FuncData} (F:Fun K "is_whole" "is_whole" Aq5 f fd) (T:Txt K mg):FnOk P w K mg base CX0 1 f fd ["thing"] Ak3:=by
 refine F.ok scWh (λvs H Q E h=>?_) (λcdv A outer s H vs Q E hr h=>?_)
 ·obtain ⟨x,rfl,_⟩:=h
  rfl
 ·obtain ⟨x,rfl,th,q⟩:=h
  refine ⟨_,(Aa4 (Ab2 (Aj7 (Ac9 Aw1 (by rfl) T.isi PyProof.Rows.boot_isinstance (Aa0 (pv 0) (Aa0 (Ag0 (by rfl) T.int PyProof.Rows.boot_int (show RelV (.ty "int") (.type "int") from rfl)) Aa3))) (Al9 (Bw3 (Ac9 Al1 (by rfl) T.isi PyProof.Rows.boot_isinstance (Aa0 (pv 0) (Aa0 (Ag0 (by rfl) T.boo PyProof.Rows.boot_bool (show RelV (.ty "bool") (.type "bool") from rfl)) Aa3)))))))),?_⟩
  refine ⟨x,rfl,x,rfl,th,_,rfl,?_⟩
  cases th with
  | non=>exact iteF q
  | bl b=>exact iteT ⟨_,rfl,_,rfl,.bl b,_,rfl,q⟩
  | int i=>exact iteT ⟨_,rfl,_,rfl,.int i,_,rfl,q⟩
  | str z=>exact iteF q
  | lst e=>exact iteF q
  | frz e=>exact iteF q
  | tup e=>exact iteF q
  | dic e=>exact iteF q
theorem scBe:Ab5 ["thing","bound"] ["thing","bound"] (Aa1 Aj5):=FSc
theorem Ci0 {f f1:Addr} {fd fd1:FuncData} (F:Fun K "is_below" "is_below" Aj5 f fd) (W:Dn K mg "is_whole" Aq5 ["thing"] f1 fd1) (T:Txt K mg):FnOk P w K mg base CX0 2 f fd ["thing","bound"] Aj9:=by
 have G:FnOk P w K mg base CX0 1 f1 fd1 ["thing"] Ak3:=Bm7 W.F T
 refine F.ok scBe (λvs H Q E h=>?_) (λcdv A outer s H vs Q E hr h=>?_)
 ·obtain ⟨x,b,rfl,_⟩:=h
  rfl
 ·obtain ⟨x,b,rfl,th,q⟩:=h
  refine ⟨_,(Aa4 (Ab2 (Aj7 (Ab3 G hr (by rfl) W.m W.F.kp W.b .nil Ac1 (Aa0 (pv 0) Aa3)) (Al9 (Cf2 Bq2 Bb5 Aa5 (pv 0) (pv 1)))))),?_⟩
  refine ⟨x,rfl,x,rfl,th,_,rfl,?_⟩
  cases th with
  | int i =>
   refine iteT ⟨_,rfl,0,i,rfl,rfl,_,rfl,?_⟩
   by_cases h0:(0:Int)<=i
   ·rw [decide_eq_true h0]
    refine iteT ⟨_,rfl,i,b,rfl,rfl,?_⟩
    simp only [Ag7,decide_eq_true h0,Bool.true_and] at q
    exact q
   ·rw [decide_eq_false h0]
    refine iteF ?_
    simp only [Ag7,decide_eq_false h0,Bool.false_and] at q
    exact q
  | non=>exact iteF q
  | bl b=>exact iteF q
  | str z=>exact iteF q
  | lst e=>exact iteF q
  | frz e=>exact iteF q
  | tup e=>exact iteF q
  | dic e=>exact iteF q
theorem scWd:Ab5 ["thing"] ["thing"] (Aa1 Ay1):=FSc
theorem Cp6 {f f1:Addr} {fd fd1:FuncData} (F:Fun K "is_word" "is_word" Ay1 f fd) (B:Dn K mg "is_below" Aj5 ["thing","bound"] f1 fd1) (G:FnOk P w K mg base CX0 2 f1 fd1 ["thing","bound"] Aj9) (S:Sto K mg C NP NL NW NI):FnOk P w K mg base CX0 3 f fd ["thing"] As3:=by
 refine F.ok scWd (λvs H Q E h=>?_) (λcdv A outer s H vs Q E hr h=>?_)
 ·obtain ⟨x,rfl,_⟩:=h
  rfl
 ·obtain ⟨x,rfl,th,q⟩:=h
  obtain ⟨t1,m1⟩:=S.words
  refine ⟨_,(Aa4 (Ab2 (Ab3 G hr (by rfl) B.m B.F.kp B.b .nil Ac1 (Aa0 (pv 0) (Aa0 (Ad6 (by rfl) m1 (show RelV (.int 281474976710656) (.int 281474976710656 t1) from ⟨_,rfl⟩)) Aa3))))),?_⟩
  exact ⟨x,rfl,x,_,rfl,th,q⟩
theorem scSi:Ab5 ["self"] ["self"] (Aa1 Ay2):=FSc
theorem Cq0 {f:Addr} {fd:FuncData} (F:Fun K "size" "Memory.size" Ay2 f fd) (S:Sto K mg C NP NL NW NI) (T:Txt K mg):FnOk P w K mg base CX0 1 f fd ["self"] (Ba0 C):=by
 refine F.ok scSi (λvs H Q E h=>?_) (λcdv A outer s H vs Q E hr h=>?_)
 ·obtain ⟨m,h,ps,rfl,_⟩:=h
  rfl
 ·obtain ⟨m,h,ps,rfl,M,q⟩:=h
  obtain ⟨dx,hm⟩:=M.ob
  refine ⟨_,(Aa4 (Ab2 (Ac9 Ad2 (by rfl) T.len PySem.boot_len (Aa0 (Af0 (pv 0) rfl) Aa3)))),?_⟩
  refine ⟨_,rfl,m,C,dx,_,_,rfl,hm,S.cl,S.nh,Ai9 h,h,_,rfl,.inl (SqL.of M.pg.top),?_⟩
  rw [List.length_map]
  exact q
theorem scHa:Ab5 ["self","page"] ["self","page"] (Aa1 sHas):=FSc
theorem Cy7 {f f1 f2:Addr} {fd fd1 fd2:FuncData} (F:Fun K "has" "Memory.has" sHas f fd) (B:Dn K mg "is_below" Aj5 ["thing","bound"] f1 fd1) (G:FnOk P w K mg base CX0 2 f1 fd1 ["thing","bound"] Aj9)
  (Z:Me K C "size" "Memory.size" Ay2 ["self"] f2 fd2) (GZ:FnOk P w K mg base CX0 1 f2 fd2 ["self"] (Ba0 C)) (S:Sto K mg C NP NL NW NI):FnOk P w K mg base CX0 3 f fd ["self","page"] (Cd1 C):=by
 refine F.ok scHa (λvs H Q E h=>?_) (λcdv A outer s H vs Q E hr h=>?_)
 ·obtain ⟨m,h,ps,x,rfl,_⟩:=h
  rfl
 ·obtain ⟨m,h,ps,x,rfl,M,th,q⟩:=h
  obtain ⟨dx,hm⟩:=M.ob
  have hr1:Room 1 _:=hr.mono (by decide)
  refine ⟨_,(Aa4 (Ab2 (Aj7 (Ab3 G hr (by rfl) B.m B.F.kp B.b .nil Ac1 (Aa0 (pv 1) (Aa0 (Ag3 (pv 0) S.cl Z.m GZ hr1 Z.b .nil Ac1) Aa3))) (Al9 (Af6 Aq0 (Ad3 Ae2 (Af0 (pv 0) rfl) (pv 1) (λ_ _=>rfl)) Ae8 (Ac0 _)))))),?_⟩
  refine ⟨_,rfl,_,rfl,m,dx,_,rfl,hm,Ai8 h (by decide +kernel),m,h,ps,rfl,M,x,_,rfl,th,_,rfl,?_⟩
  cases hb:Ag7 x (ps.length:Int) with
  | false =>
   refine iteF ?_
   have e:hasP ps x=false:=by
    cases x with
    | int i =>
     simp only [Ag7] at hb
     simp only [hasP,hb,Bool.false_and]
    | _=>rfl
   rw [e] at q
   exact q
  | true =>
   obtain ⟨i,rfl,h0,h1⟩:=Ak2 hb
   obtain ⟨n,rfl⟩:∃ n:Nat,i=(n:Int):=⟨i.toNat,by omega⟩
   obtain ⟨o,ho,ha⟩:=Aw2 (ps:=ps) (i:=n) (by omega)
   refine iteT ⟨_,rfl,m,C,dx,_,_,rfl,hm,S.cl,S.nh,Ai9 h,_,rfl,h,_,_,_,rfl,rfl,SqL.of M.pg.top,ha,rfl,?_⟩
   cases o with
   | none =>
    have e:hasP ps (.int (n:Int))=false:=by simp [hasP,ho,Af4]
    rw [e] at q
    exact q
   | some z =>
    rw [Au8 ho] at q
    exact q
theorem scCp:Ab5 ["self","page"] ["self","page"] (Aa1 Am8):=FSc
theorem Ch8 {f f2:Addr} {fd fd2:FuncData} (F:Fun K "check_page" "Store.check_page" Am8 f fd)
  (Z:Me K C "has" "Memory.has" sHas ["self","page"] f2 fd2) (GZ:FnOk P w K mg base CX0 3 f2 fd2 ["self","page"] (Cd1 C)) (S:Sto K mg C NP NL NW NI):FnOk P w K mg base (CXr P w) 4 f fd ["self","page"] (Bf8 C NP):=by
 refine F.okR scCp (λvs H Q E h=>?_) (λcdv A outer s H vs Q E hr h=>?_)
 ·obtain ⟨m,h,ps,x,rfl,_⟩:=h
  rfl
 ·obtain ⟨m,h,ps,x,rfl,M,th,q,e⟩:=h
  obtain ⟨dx,hm⟩:=M.ob
  refine ⟨_,(Aa4 (Ac8 (Ae0 (Ad1 (Ac4 (pv 0) S.cl Z.m GZ hr Z.b .nil Ac1 (Aa0 (pv 1) Aa3)))) (Aa4 (Aj6 S.xp S.np Al6 rfl (Aa0 Ab8 Aa3))) Ab0)),?_⟩
  refine ⟨_,rfl,m,dx,_,rfl,hm,Ai8 h (by decide +kernel),_,rfl,m,h,ps,x,rfl,M,th,_,rfl,?_⟩
  cases hb:hasP ps x with
  | false=>exact iteT ⟨by decide,e hb⟩
  | true=>exact iteF (q hb)
theorem scWa:Ab5 ["self","page","cell"] ["self","page","cell"] (Aa1 An3):=FSc
theorem Bx0 {f:Addr} {fd:FuncData} (F:Fun K "word_at" "Memory.word_at" An3 f fd) (S:Sto K mg C NP NL NW NI):FnOk P w K mg base CX0 1 f fd ["self","page","cell"] (Aw9 C):=by
 refine F.ok scWa (λvs H Q E h=>?_) (λcdv A outer s H vs Q E hr h=>?_)
 ·obtain ⟨m,h,ps,i,j,p,ws,rfl,_⟩:=h
  rfl
 ·obtain ⟨m,h,ps,i,j,p,ws,rfl,M,e,hj,q⟩:=h
  obtain ⟨dx,hm⟩:=M.ob
  obtain ⟨o,ho,ha⟩:=Aw2 (ps:=ps) (i:=i) (List.getElem?_eq_some_iff.mp e).1
  obtain rfl:o=some (p,ws):=Option.some.inj (ho.symm.trans e)
  refine ⟨_,(Aa4 (Ab2 (Ad3 Ae2 (Ad3 Ae2 (Af0 (pv 0) rfl) (pv 1) (λ_ _=>rfl)) (pv 2) (λ_ _=>rfl)))),?_⟩
  exact ⟨_,rfl,m,C,dx,_,_,rfl,hm,S.cl,S.nh,Ai9 h,_,rfl,h,_,_,_,rfl,rfl,SqL.of M.pg.top,ha,_,rfl,p,_,_,_,rfl,rfl,SqL.of (M.pg.each i p ws e).1,Al2 (by rw [(M.good i p ws e).1]; exact hj),q⟩
theorem scPw:Ab5 ["self","page","cell","word"] ["self","page","cell","word"] (Aa1 Ak5):=FSc
theorem Bq4 {f:Addr} {fd:FuncData} (F:Fun K "put_word" "Memory.put_word" Ak5 f fd) (S:Sto K mg C NP NL NW NI):FnOk P w K mg base CX0 1 f fd ["self","page","cell","word"] (As6 C):=by
 refine F.ok scPw (λvs H Q E h=>?_) (λcdv A outer s H vs Q E hr h=>?_)
 ·obtain ⟨m,h,ps,i,j,v,p,ws,rfl,_⟩:=h
  rfl
 ·obtain ⟨m,h,ps,i,j,v,p,ws,rfl,M,e,hj,q⟩:=h
  obtain ⟨dx,hm⟩:=M.ob
  obtain ⟨o,ho,ha⟩:=Aw2 (ps:=ps) (i:=i) (List.getElem?_eq_some_iff.mp e).1
  obtain rfl:o=some (p,ws):=Option.some.inj (ho.symm.trans e)
  refine ⟨_,(Aa4 (Al3 (pv 3) (Ap2 (Ad3 Ae2 (Af0 (pv 0) rfl) (pv 1) (λ_ _=>rfl)) (pv 2) Ai0))),?_⟩
  exact ⟨_,rfl,_,rfl,m,C,dx,_,_,rfl,hm,S.cl,S.nh,Ai9 h,_,rfl,h,_,_,_,rfl,rfl,SqL.of M.pg.top,ha,_,rfl,p,_,_,_,rfl,rfl,(M.pg.each i p ws e).1,Am2 (by rw [List.length_map,(M.good i p ws e).1]; exact hj),q⟩
theorem scCW:Ab5 ["word"] ["word"] (Aa1 Aq8):=FSc
def Ax8 (NW:Addr):Sp:=λvs H Q E=>∃ z,vs=[z]/\Th H z/\(Ag7 z 281474976710656=true->Q .non H)/\(Ag7 z 281474976710656=false->E (.ref NW) none H)
theorem Ch7 {f f3:Addr} {fd fd3:FuncData} (F:Fun K "check_word" "check_word" Aq8 f fd) (B:Dn K mg "is_word" Ay1 ["thing"] f3 fd3) (G:FnOk P w K mg base CX0 3 f3 fd3 ["thing"] As3) (S:Sto K mg C NP NL NW NI):FnOk P w K mg base (CXr P w) 4 f fd ["word"] (Ax8 NW):=by
 refine F.okR scCW (λvs H Q E h=>?_) (λcdv A outer s H vs Q E hr h=>?_)
 ·obtain ⟨z,rfl,_⟩:=h
  rfl
 ·obtain ⟨z,rfl,tz,q,e3⟩:=h
  refine ⟨_,(Aa4 (Ac8 (Ae0 (Ad1 (Ab3 G hr (by rfl) B.m B.F.kp B.b .nil Ac1 (Aa0 (pv 0) Aa3)))) (Aa4 (Aj6 S.xw S.nw Al6 rfl (Aa0 Ab8 Aa3))) Ab0)),?_⟩
  refine ⟨_,rfl,z,rfl,tz,_,rfl,?_⟩
  cases hd:Ag7 z 281474976710656 with
  | false=>exact iteT ⟨by decide,e3 hd⟩
  | true=>exact iteF (q hd)
theorem scEi:Ab5 ["thing"] ["thing"] (Aa1 Ao6):=FSc
theorem ndEi:(Ar5 "word" ["thing"]).Nodup:=by decide +kernel
theorem Da5:(".0":Str) ∉ (["thing"]:List Str):=by decide +kernel
def Ax7:Sp:=λvs H Q _=>∃ (p:Addr) (ws:List Int),vs=[.ref p]/\H p=some (.lst (ws.map V.int))/\ws.length=8/\(∀ w ∈ ws,0<=w/\w<281474976710656)/\∀ H',Same H H'->Q (.bl true) H'
theorem Ch6 {f f1:Addr} {fd fd1:FuncData} (F:Fun K "is_eight_words" "is_eight_words" Ao6 f fd) (B:Dn K mg "is_word" Ay1 ["thing"] f1 fd1) (G:FnOk P w K mg base CX0 3 f1 fd1 ["thing"] As3) (S:Sto K mg C NP NL NW NI) (T:Txt K mg):FnOk P w K mg base CX0 4 f fd ["thing"] Ax7:=by
 refine F.ok scEi (λvs H Q E h=>?_) (λcdv A outer s H vs Q E hr h=>?_)
 ·obtain ⟨p,ws,rfl,_⟩:=h
  rfl
 ·obtain ⟨p,ws,rfl,hp,hl,hw,q⟩:=h
  obtain ⟨t2,m2⟩:=S.cells
  refine ⟨_,(Aa4 (Ab2 (Aj7 (Ac9 Ah2 (by rfl) T.isi PyProof.Rows.boot_isinstance (Aa0 (pv 0) (Aa0 (Ag0 (by rfl) T.lst PyProof.Rows.boot_list (show RelV (.ty "list") (.type "list") from rfl)) Aa3))) (Aj7 (Af6 Ae4 (Ac9 Ad2 (by rfl) T.len PySem.boot_len (Aa0 (pv 0) Aa3)) (Ad6 (by rfl) m2 (show RelV (.int 8) (.int 8 t2) from ⟨_,rfl⟩)) (Ac0 _)) (Al9 (Ac9 (Bd6 rfl) (by rfl) T.all PyProof.Rows.boot_all (Aa0 (Ap9 (cl:=[]) (tc:=tYes) (te:=Cc3 As3 [] E0 (Ap6 (tVar 0) tNil)) rfl (Af9 (pv 0)) (closureFor_none (by decide +kernel)) (show CapOk _ _ _ _ from ⟨.inl ⟨.inr rfl,rfl⟩,.inl ⟨.inl rfl,rfl⟩,.inr (.inl ⟨by decide,by decide,by decide⟩),trivial⟩) trivial (λC s₂ H₂ fp=>.nil) (λC s₂ H₂ fp=>(Ab3 G hr (by rfl) B.m B.F.kp B.b .nil Ac1 (Aa0 (pv 0) Aa3))) ndEi (hdot:=Da5)) Aa3))))))),?_⟩
  refine ⟨_,rfl,_,rfl,.lst hp,_,rfl,Ae7 (Ak9 hp) ?_⟩
  refine ⟨_,rfl,p,_,rfl,.inl (SqL.of hp),rfl,_,rfl,Ae7 (by show decide (V.int ((ws.map V.int).length:Int)=V.int 8)=true; rw [List.length_map,hl]; rfl) ?_⟩
  refine ⟨_,rfl,p,rfl,⟨_,SqL.of hp⟩,Am3 (xs:=ws.map V.int) (λD i ys H'=>H D=none/\Same H H'/\ys=(List.replicate i true).map V.bl/\H' D=some (.lst ys)) ?_ ?_ ?_ ?_⟩
  ·exact λD hD=>⟨hD,Aa6 hD,rfl,upd_same⟩
  ·rintro D i ys H' _ ⟨hD,ss,rfl,hy⟩
   exact ⟨SqL.of (ss _ _ hp),hy⟩
  ·rintro D i x ys H' hi ⟨hD,ss,rfl,hy⟩
   rw [List.getElem?_map] at hi
   cases e:ws[i]? with
   | none=>rw [e] at hi; cases hi
   | some z =>
    rw [e] at hi
    have hi':V.int z=x:=Option.some.inj hi
    subst hi'
    obtain ⟨z0,z1⟩:=hw z (List.mem_of_getElem? e)
    have hil:i<8:=by rw [<- hl]; exact (List.getElem?_eq_some_iff.mp e).1
    refine iteT ⟨_,rfl,_,rfl,.int z,?_⟩
    rw [Ae3 z0 z1]
    refine ⟨hy,?_,hD,Same.set ss hD,?_,upd_same⟩
    ·rw [List.length_map,List.length_replicate]
     exact Nat.lt_of_lt_of_le hil (by decide)
    ·rw [List.replicate_succ',List.map_append]
     rfl
  ·rintro D ys H' ⟨hD,ss,rfl,hy⟩
   refine ⟨D,_,rfl,hy,?_⟩
   rw [show ((List.replicate (ws.map V.int).length true).all id)=true by simp]
   exact q H' ss
theorem scIm:Ab5 ["pages","page"] ["pages"] (Aa1 At5):=FSc
def Bf4:Sp:=λvs H Q _=>∃ (p:Addr) (ps:Pgs),vs=[.ref p]/\Pg H p ps/\Good ps/\1<=ps.length/\ps.length<=24/\∀ H',Same H H'->Q .non H'
theorem Ch3 {f f1:Addr} {fd fd1:FuncData} (F:Fun K "check_image" "check_image" At5 f fd) (B:Dn K mg "is_eight_words" Ao6 ["thing"] f1 fd1) (G:FnOk P w K mg base CX0 4 f1 fd1 ["thing"] Ax7) (S:Sto K mg C NP NL NW NI) (T:Txt K mg):FnOk P w K mg base (CXr P w) 5 f fd ["pages"] Bf4:=by
 refine F.okR scIm (λvs H Q E h=>?_) (λcdv A outer s H vs Q E hr h=>?_)
 ·obtain ⟨p,ps,rfl,_⟩:=h
  rfl
 ·obtain ⟨p,ps,rfl,g,hg,l1,l2,q⟩:=h
  obtain ⟨t3,m3⟩:=S.most
  refine ⟨_,(Aa2 (Ac8 (PW.pt (Al7 (Ae0 (Ad1 (Ac9 Ah2 (by rfl) T.isi PyProof.Rows.boot_isinstance (Aa0 (pv 0) (Aa0 (Ag0 (by rfl) T.lst PyProof.Rows.boot_list (show RelV (.ty "list") (.type "list") from rfl)) Aa3))))) (Ai5 (Ae0 (Bm3 Bq2 Bq2 Aa5 (Ac9 Ad2 (by rfl) T.len PySem.boot_len (Aa0 (pv 0) Aa3)) (Ad6 (by rfl) m3 (show RelV (.int 24) (.int 24 t3) from ⟨_,rfl⟩))))))) (Aa4 (Aj6 S.xi S.ni Al6 rfl (Aa0 Ab8 Aa3))) Ab0) (Aa4 (Ah9 Bp9 rfl (Af9 (pv 0)) (Ad5 (i:=1) scIm.nd rfl (Or.inl rfl)) (Aa4 (Ac8 (PW.pt (Ah1 (Ab6 Aq0 (pv 1) Ae8 (Ac0 _)) (Af8 (Ae0 (Ad1 (Ab3 G hr (by rfl) B.m B.F.kp B.b .nil Ac1 (Aa0 (pv 1) Aa3))))))) (Aa4 (Aj6 S.xi S.ni Al6 rfl (Aa0 Ab8 Aa3))) Ab0))))),?_⟩
  refine ⟨_,rfl,_,rfl,.lst g.top,_,rfl,Ac3 (by show (!Ar3 H (.ref p))=false; rw [Ak9 g.top]; rfl) ?_⟩
  refine ⟨_,rfl,p,_,rfl,.inl (SqL.of g.top),1,_,rfl,rfl,_,rfl,Ae7 (by show decide ((1:Int)<=((ps.map pgV).length:Int))=true; rw [List.length_map]; exact decide_eq_true (by omega)) ?_⟩
  refine ⟨_,24,rfl,rfl,_,rfl,Ac3 (by show (!decide ((((ps.map pgV).length:Int))<=24))=false; rw [List.length_map,decide_eq_true (by omega)]; rfl) ?_⟩
  refine ⟨_,rfl,p,rfl,⟨_,SqL.of g.top⟩,Ah0 (K:=K) (a:=p) (xs:=ps.map pgV) (λi σ H'=>(∃ v,σ=[some (.ref p),v])/\Same H H') ⟨⟨_,rfl⟩,Same.refl _⟩ (λi σ H' _ ⟨_,ss⟩=>SqL.of (ss _ _ g.top)) ?_ ?_⟩
  ·rintro i x σ H' hi ⟨⟨v,rfl⟩,ss⟩
   rw [List.getElem?_map] at hi
   cases e:ps[i]? with
   | none=>rw [e] at hi; cases hi
   | some o =>
    rw [e] at hi
    have hi':pgV o=x:=Option.some.inj hi
    subst hi'
    cases o with
    | none =>
     refine ⟨_,rfl,rfl,_,rfl,iteF ?_⟩
     refine iteF ?_
     exact ⟨⟨_,rfl⟩,ss⟩
    | some z =>
     obtain ⟨a,ws⟩:=z
     refine ⟨_,rfl,rfl,_,rfl,iteT ?_⟩
     refine ⟨_,rfl,a,ws,rfl,ss _ _ (g.each i a ws e).1,(hg i a ws e).1,(hg i a ws e).2,λH2 s2=>⟨_,rfl,iteF ?_⟩⟩
     exact ⟨⟨_,rfl⟩,ss.trans s2⟩
  ·rintro σ H' ⟨_,ss⟩
   exact q H' ss
theorem scIn:Ab5 ["self","pages"] ["self","pages"] (Aa1 Bp8):=FSc
theorem ndIn:(Ar5 "page" ["self","pages"]).Nodup:=by decide +kernel
theorem De6:(".0":Str) ∉ (["self","pages"]:List Str):=by decide +kernel
def Bu4 (C:Addr):Sp:=λvs H Q _=>∃ (m dx p:Addr) (ps:Pgs),vs=[.ref m,.ref p]/\H m=some (.ins C dx [])/\Pg H p ps/\Good ps/\1<=ps.length/\ps.length<=24 /\
 ∀ (h:Addr) (H':Hp) (qs:Pgs),(∀ b o,b≠m->H b=some o->H' b=some o)->Mem C H' m h qs->cont qs=cont ps->(∀ b,At h qs b->H b=none)->Q .non H'
theorem Ap4 {ps qs:Pgs} (h:cont qs=cont ps) (g:Good ps):Good qs:=λi p ws e=>by
 obtain ⟨q,f⟩:=Ca8 h e
 exact g i q ws f
theorem Cs0 {f f1:Addr} {fd fd1:FuncData} (F:Fun K "__init__" "Memory.__init__" Bp8 f fd) (B:Dn K mg "check_image" At5 ["pages"] f1 fd1) (G:FnOk P w K mg base (CXr P w) 5 f1 fd1 ["pages"] Bf4) (S:Sto K mg C NP NL NW NI) (T:Txt K mg):FnOk P w K mg base (CXr P w) 6 f fd ["self","pages"] (Bu4 C):=by
 refine F.okR scIn (λvs H Q E h=>?_) (λcdv A outer s H vs Q E hr h=>?_)
 ·obtain ⟨m,dx,p,ps,rfl,_⟩:=h
  rfl
 ·obtain ⟨m,dx,p,ps,rfl,hm,g,hg,l1,l2,q⟩:=h
  refine ⟨_,(Aa2 (Ad7 (Ab3 G hr (by rfl) B.m B.F.kp B.b .nil Ah8 (Aa0 (pv 1) Aa3))) (Aa4 (Ap0 (pv 0) (Ap9 (cl:=[]) (tc:=tYes) (te:=Cv1 K) rfl (Af9 (pv 1)) (closureFor_none (by decide +kernel)) (show CapOk _ _ _ _ from ⟨.inl ⟨.inr rfl,rfl⟩,.inl ⟨.inl rfl,rfl⟩,.inr (.inl ⟨by decide,by decide,by decide⟩),trivial⟩) trivial (λC s₂ H₂ fp=>.nil) (λC s₂ H₂ fp=>(Ar8 (Ab6 Au3 (pv 0) Ae8 (Ac0 _)) Ae8 (Ah5 Ag6 (by rfl) T.lst PyProof.Rows.boot_list (Aa0 (pv 0) Aa3)))) ndIn (hdot:=De6)) rfl))),?_⟩
  refine ⟨_,rfl,p,ps,rfl,g,hg,l1,l2,λH1 s1=>?_⟩
  refine ⟨_,rfl,p,rfl,⟨_,SqL.of (s1 _ _ g.top)⟩,Br8 (g.same s1) (by omega) λD H2 qs s2 g2 hc hf=>?_⟩
  have s12:=s1.trans s2
  have hm2:=s12 _ _ hm
  have nm:∀ b,At D qs b->b≠m:=λb hb z=>by
   have:=s1.free (hf b hb)
   rw [z,hm] at this
   cases this
  refine ⟨_,rfl,m,C,dx,_,rfl,hm2,S.cl,S.nh,(by show 0<1000; decide),?_⟩
  refine q D _ qs (λb o hb e=>by rw [Aa7 hb]; exact s12 _ _ e) ⟨⟨dx,upd_same⟩,g2.keep λb hb=>Aa7 (nm b hb),Ap4 hc hg,?_⟩ hc λb hb=>s1.free (hf b hb)
  have:=Am7 hc
  omega
end
end K28
end
section
namespace K28
open PySem L2
abbrev Bh6:Stmt:=Ab1 (top 29) 5
abbrev sLay:Stmt:=Ab1 (top 29) 6
theorem Ai7 {ps qs:Pgs} (h:cont ps=cont qs) (x:V):hasP ps x=hasP qs x:=by
 cases x with
 | int i =>
  have hl:=Am7 h
  have e:Af4 ps[i.toNat]?=Af4 qs[i.toNat]?:=by
   have z:=Bl2 h i.toNat
   revert z
   cases ps[i.toNat]? with
   | none=>cases qs[i.toNat]? with
    | none=>intro; rfl
    | some o=>intro z; cases z
   | some o=>cases qs[i.toNat]? with
    | none=>intro z; cases z
    | some o' =>
     intro z
     cases o <;> cases o' <;> first | rfl | cases z
  simp only [hasP,e,hl]
 | _=>rfl
theorem Bz0 {ps:Pgs} {k:Nat} (h:ps[k]?=some none):hasP ps (.int k)=false:=by simp [hasP,h,Af4]
theorem Be1 {i b:Int} (h:b<=i):Ag7 (.int i) b=false:=by
 have e:decide (i<b)=false:=decide_eq_false (by omega)
 simp [Ag7,e]
structure Both (C:Addr) (H:Hp) (m h D:Addr) (ps qs:Pgs):Prop where
 M:Mem C H m h ps
 g:Pg H D qs
 c:cont ps=cont qs
 ap:∀ b,At h ps b->¬ At D qs b
theorem Bb3 {P:Program} {w:World} {X:Cx}:An1 (CXr P w) X E0:=by
 rintro _ _ _ _ _ _ _ ⟨_,_,_,_,_,_,_,_,_,_,_,_,_,_,_,q⟩
 exact q.elim
theorem _root_.L2.At.setW {h b:Addr} {ps:Pgs} {i j:Nat} {w:Int} (x:At h (setW ps i j w) b):At h ps b:=by
 rcases x with rfl | ⟨k,ws,e⟩
 ·exact .inl rfl
 ·unfold L2.setW at e
  by_cases hk:i=k
  ·subst hk
   cases e0:ps[i]? with
   | none =>
    rw [List.getElem?_eq_none (by rw [List.length_set]; exact List.getElem?_eq_none_iff.mp e0)] at e
    cases e
   | some o =>
    rw [List.getElem?_set_self (List.getElem?_eq_some_iff.mp e0).1,e0] at e
    cases o with
    | none=>cases e
    | some z =>
     obtain ⟨p,vs⟩:=z
     cases e
     exact .inr ⟨i,vs,e0⟩
  ·rw [List.getElem?_set_ne hk] at e
   exact .inr ⟨k,ws,e⟩
theorem Bp4 {ps:Pgs} {i j:Nat} {w:Int} (n:Nat):Af4 (setW ps i j w)[n]?=Af4 ps[n]?:=by
 unfold L2.setW
 by_cases hn:i=n
 ·subst hn
  cases e:ps[i]? with
  | none=>rw [List.getElem?_eq_none (by rw [List.length_set]; exact List.getElem?_eq_none_iff.mp e)]
  | some o =>
   rw [List.getElem?_set_self (List.getElem?_eq_some_iff.mp e).1]
   cases o <;> rfl
 ·rw [List.getElem?_set_ne hn]
theorem _root_.L2.Good.setW {ps:Pgs} {i j:Nat} {w:Int} {p:Addr} {ws:List Int} (g:Good ps) (h:ps[i]?=some (some (p,ws))) (w0:0<=w) (w1:w<281474976710656):Good (setW ps i j w):=λk q vs e=>by
 rw [Ak4 h] at e
 have hi:i<ps.length:=(List.getElem?_eq_some_iff.mp h).1
 by_cases hk:i=k
 ·subst hk
  rw [List.getElem?_set_self hi] at e
  cases e
  obtain ⟨g1,g2⟩:=g i p ws h
  refine ⟨by rw [List.length_set]; exact g1,λv hv=>?_⟩
  rcases List.mem_or_eq_of_mem_set hv with z | z
  ·exact g2 v z
  ·rw [z]
   exact ⟨w0,w1⟩
 ·rw [List.getElem?_set_ne hk] at e
  exact g k q vs e
theorem Mem.setW {C:Addr} {H:Hp} {m h:Addr} {ps:Pgs} {i j:Nat} {w:Int} {p:Addr} {ws:List Int} (M:Mem C H m h ps) (e:ps[i]?=some (some (p,ws))) (w0:0<=w) (w1:w<281474976710656):Mem C (upd H p (.lst ((ws.map V.int).set j (.int w)))) m h (setW ps i j w):=by
 obtain ⟨dx,hm⟩:=M.ob
 have hp:=(M.pg.each i p ws e).1
 exact ⟨⟨dx,by rw [Aa7 (Af1 hm hp (by intro z; cases z))]; exact hm⟩,M.pg.setW e,M.good.setW e w0 w1,by rw [Bm0]; exact M.len⟩
theorem Bo4 (ns:List Int) (lo hi:Option Int):∃ ms:List Int,cutV (ns.map V.int) lo hi=ms.map V.int/\ms.length<=ns.length:=by
 refine ⟨(ns.drop (HT.sIx (ns.map V.int).length 0 lo)).take (HT.sIx (ns.map V.int).length (ns.map V.int).length hi - HT.sIx (ns.map V.int).length 0 lo),?_,?_⟩
 ·unfold cutV
  rw [List.map_take,List.map_drop]
 ·rw [List.length_take,List.length_drop]
  omega
theorem Ba4 {ps:Pgs} {o:Option (Addr×List Int)} {p:Addr} {vs:List Int} {i k:Nat} (z:(ps.set i o)[k]?=some (some (p,vs))):(k≠i/\ps[k]?=some (some (p,vs)))\/(k=i/\o=some (p,vs)):=by
 by_cases hk:i=k
 ·subst hk
  refine .inr ⟨rfl,?_⟩
  have hi:i<ps.length:=by
   have:=(List.getElem?_eq_some_iff.mp z).1
   rwa [List.length_set] at this
  rw [List.getElem?_set_self hi] at z
  exact Option.some.inj z
 ·rw [List.getElem?_set_ne hk] at z
  exact .inl ⟨λq=>hk q.symm,z⟩
theorem _root_.L2.Pg.put {H H2:Hp} {h:Addr} {ps:Pgs} {o:Option (Addr×List Int)} {i:Nat} (g:Pg H h ps) (s2:Same H H2) (hn:∀ (p:Addr) (ws:List Int),o=some (p,ws)->H2 p=some (.lst (ws.map V.int))/\H p=none) :
  Pg (upd H2 h (.lst ((ps.map pgV).set i (pgV o)))) h (ps.set i o):=by
 refine ⟨by rw [upd_same,List.map_set],λk p ws z=>?_,λk l p ws ws' z1 z2=>?_⟩
 ·rcases Ba4 z with ⟨_,z⟩ | ⟨_,z⟩
  ·have:=g.each k p ws z
   refine ⟨?_,this.2⟩
   rw [Aa7 this.2]
   exact s2 _ _ this.1
  ·obtain ⟨z1,z2⟩:=hn p ws z
   have ne:p≠h:=λq=>by rw [q,g.top] at z2; cases z2
   refine ⟨?_,ne⟩
   rw [Aa7 ne]
   exact z1
 ·have old:∀ (k:Nat) (vs vs':List Int),ps[k]?=some (some (p,vs))->o=some (p,vs')->False:=λk vs vs' z1 z2=>by
   have h1:=(g.each k p vs z1).1
   rw [(hn p vs' z2).2] at h1
   cases h1
  rcases Ba4 z1 with ⟨_,a1⟩ | ⟨rfl,a1⟩ <;> rcases Ba4 z2 with ⟨_,a2⟩ | ⟨rfl,a2⟩
  ·exact g.nd k l p ws ws' a1 a2
  ·exact (old _ _ _ a1 a2).elim
  ·exact (old _ _ _ a2 a1).elim
  ·rfl
theorem _root_.L2.At.put {h b:Addr} {ps:Pgs} {o:Option (Addr×List Int)} {i:Nat} (x:At h (ps.set i o) b):At h ps b\/∃ ws,o=some (b,ws):=by
 rcases x with rfl | ⟨k,ws,z⟩
 ·exact .inl (.inl rfl)
 ·rcases Ba4 z with ⟨_,z⟩ | ⟨_,z⟩
  ·exact .inl (.inr ⟨k,ws,z⟩)
  ·exact .inr ⟨ws,z⟩
theorem _root_.L2.Good.put {ps:Pgs} {o:Option (Addr×List Int)} {i:Nat} (g:Good ps) (h:∀ (p:Addr) (ws:List Int),o=some (p,ws)->ws.length=8/\∀ w ∈ ws,0<=w/\w<281474976710656):Good (ps.set i o):=λk p ws z=>by
 rcases Ba4 z with ⟨_,z⟩ | ⟨_,z⟩
 ·exact g k p ws z
 ·exact h p ws z
theorem As2 {ps qs:Pgs} {o o':Option (Addr×List Int)} {i:Nat} (h:cont ps=cont qs) (ho:o.map (·.2)=o'.map (·.2)):cont (ps.set i o)=cont (qs.set i o'):=by
 unfold cont at h ⊢
 rw [List.map_set,List.map_set,h,ho]
theorem Mem.put {C:Addr} {H H2:Hp} {m h:Addr} {ps:Pgs} {o:Option (Addr×List Int)} {i:Nat} (M:Mem C H m h ps) (s2:Same H H2) (hn:∀ (p:Addr) (ws:List Int),o=some (p,ws)->H2 p=some (.lst (ws.map V.int))/\H p=none)
  (hg:∀ (p:Addr) (ws:List Int),o=some (p,ws)->ws.length=8/\∀ w ∈ ws,0<=w/\w<281474976710656):Mem C (upd H2 h (.lst ((ps.map pgV).set i (pgV o)))) m h (ps.set i o):=by
 obtain ⟨dx,hm⟩:=M.ob
 exact ⟨⟨dx,by rw [Aa7 (Af1 hm M.pg.top (by intro z; cases z))]; exact s2 _ _ hm⟩,M.pg.put s2 hn,M.good.put hg,by rw [List.length_set]; exact M.len⟩
def Bo9 (H:Hp) (x:V):Prop:=(Th H x/\Ar3 H x=false)\/(∃ a xs,x=.ref a/\H a=some (.lst xs)/\xs.length≠8)\/(∃ a xs,x=.ref a/\H a=some (.lst xs)/\xs.length=8/\(∀ v ∈ xs,∀ H',Th H' v)/\∃ v ∈ xs,Ag7 v 281474976710656=false)
def Ax6:Sp:=λvs H Q _=>∃ x,vs=[x]/\Bo9 H x/\∀ H',Same H H'->Q (.bl false) H'
def Bl8:Sp:=λvs H Q E=>Ax7 vs H Q E\/Ax6 vs H Q E
theorem FnOk.or {P:Program} {w:World} {K:PySem.W.Frag} {mg:Str->Option Value} {base:Heap} {CX:CXT} {k:Nat} {f:Addr} {fd:FuncData} {ps:List Str} {sp sq:Sp} (a:FnOk P w K mg base CX k f fd ps sp) (b:FnOk P w K mg base CX k f fd ps sq):FnOk P w K mg base CX k f fd ps (λvs H Q E=>sp vs H Q E\/sq vs H Q E) :=
 ⟨λvs H Q E h=>h.elim (a.len vs H Q E) (b.len vs H Q E),λA o s H as us vs Q E hr e0 hb r h=>h.elim (a.run A o s H as us vs Q E hr e0 hb r) (b.run A o s H as us vs Q E hr e0 hb r)⟩
def Bu5 (C NP:Addr):Sp:=λvs H Q E=>∃ m h ps x,vs=[.ref m,x]/\Mem C H m h ps/\Th H x/\(∀ (i:Nat),x=.int i->i<ps.length->hasP ps x=true->Q .non (upd H h (.lst ((ps.map pgV).set i (pgV none)))))/\(hasP ps x=false->E (.ref NP) none H)
def Cm8 (C NP NW:Addr):Sp:=λvs H Q E=>∃ m h ps x y,vs=[.ref m,x,y]/\Mem C H m h ps/\Th H x /\
 ((Ag7 x ps.length=false/\E (.ref NP) none H)\/(Ag7 x ps.length=true/\Bo9 H y/\∀ H',Same H H'->E (.ref NW) none H') \/
   (∃ (i:Nat) (p:Addr) (ws:List Int),x=.int i/\i<ps.length/\y=.ref p/\H p=some (.lst (ws.map V.int))/\ws.length=8/\(∀ w ∈ ws,0<=w/\w<281474976710656)/\∀ (l:Addr) (H1:Hp),Same H H1->H1 l=none->Q .non (upd (upd H1 l (.lst (ws.map V.int))) h (.lst ((ps.map pgV).set i (.ref l))))))
section
variable {P : Program} {w : World} {K : PySem.W.Frag} {mg : Str → Option Value} {base : Heap} {C NP NL NW NI : Addr}
theorem Bx4 {f f1:Addr} {fd fd1:FuncData} (F:Fun K "is_eight_words" "is_eight_words" Ao6 f fd) (B:Dn K mg "is_word" Ay1 ["thing"] f1 fd1) (G:FnOk P w K mg base CX0 3 f1 fd1 ["thing"] As3) (S:Sto K mg C NP NL NW NI) (T:Txt K mg):FnOk P w K mg base CX0 4 f fd ["thing"] Ax6:=by
 refine F.ok scEi (λvs H Q E h=>?_) (λcdv A outer s H vs Q E hr h=>?_)
 ·obtain ⟨x,rfl,_⟩:=h
  rfl
 ·obtain ⟨x,rfl,hx,q⟩:=h
  obtain ⟨t2,m2⟩:=S.cells
  refine ⟨_,(Aa4 (Ab2 (Aj7 (Ac9 Ah2 (by rfl) T.isi PyProof.Rows.boot_isinstance (Aa0 (pv 0) (Aa0 (Ag0 (by rfl) T.lst PyProof.Rows.boot_list (show RelV (.ty "list") (.type "list") from rfl)) Aa3))) (Aj7 (Af6 Ae4 (Ac9 Ad2 (by rfl) T.len PySem.boot_len (Aa0 (pv 0) Aa3)) (Ad6 (by rfl) m2 (show RelV (.int 8) (.int 8 t2) from ⟨_,rfl⟩)) (Ac0 _)) (Al9 (Ac9 (Bd6 rfl) (by rfl) T.all PyProof.Rows.boot_all (Aa0 (Ap9 (cl:=[]) (tc:=tYes) (te:=Cc3 As3 [] E0 (Ap6 (tVar 0) tNil)) rfl (Af9 (pv 0)) (closureFor_none (by decide +kernel)) (by repeat' (first | exact trivial | refine ⟨.inl ⟨.inr rfl,rfl⟩,?_⟩ | refine ⟨.inl ⟨.inl rfl,rfl⟩,?_⟩ | refine ⟨.inr (.inl ⟨by decide,by decide,by decide⟩),?_⟩ | refine ⟨.inr (.inr ⟨rfl,by decide +kernel,by decide +kernel,rfl,rfl⟩),?_⟩)) trivial (λC s₂ H₂ fp=>.nil) (λC s₂ H₂ fp=>(Ab3 G hr (by rfl) B.m B.F.kp B.b .nil Ac1 (Aa0 (pv 0) Aa3))) ndEi (hdot:=Da5)) Aa3))))))),?_⟩
  rcases hx with ⟨t,e⟩ | ⟨p,xs,rfl,hp,hl⟩ | ⟨p,xs,rfl,hp,hl,ht,hv⟩
  ·refine ⟨_,rfl,_,rfl,t,_,rfl,Ac3 e (q H (Same.refl _))⟩
  ·refine ⟨_,rfl,_,rfl,.lst hp,_,rfl,Ae7 (Ak9 hp) ?_⟩
   refine ⟨_,rfl,p,_,rfl,.inl (SqL.of hp),rfl,_,rfl,Ac3 (decide_eq_false λz=>hl (by have:=V.int.inj z; omega)) (q H (Same.refl _))⟩
  ·refine ⟨_,rfl,_,rfl,.lst hp,_,rfl,Ae7 (Ak9 hp) ?_⟩
   refine ⟨_,rfl,p,_,rfl,.inl (SqL.of hp),rfl,_,rfl,Ae7 (by show decide (V.int (xs.length:Int)=V.int 8)=true; rw [hl]; rfl) ?_⟩
   refine ⟨_,rfl,p,rfl,⟨_,SqL.of hp⟩,Am3 (xs:=xs) (λD i ys H'=>H D=none/\Same H H'/\ys=((xs.take i).map λv=>Ag7 v 281474976710656).map V.bl/\H' D=some (.lst ys)) ?_ ?_ ?_ ?_⟩
   ·exact λD hD=>⟨hD,Aa6 hD,rfl,upd_same⟩
   ·rintro D i ys H' _ ⟨hD,ss,rfl,hy⟩
    exact ⟨SqL.of (ss _ _ hp),hy⟩
   ·rintro D i x ys H' hi ⟨hD,ss,rfl,hy⟩
    have hil:i<8:=by rw [<- hl]; exact (List.getElem?_eq_some_iff.mp hi).1
    refine iteT ⟨_,rfl,_,rfl,ht x (List.mem_of_getElem? hi) H',?_⟩
    refine ⟨hy,?_,hD,Same.set ss hD,?_,upd_same⟩
    ·rw [List.length_map,List.length_map,List.length_take]
     exact Nat.lt_of_lt_of_le (by omega:min i xs.length<1001) (by decide)
    ·rw [List.take_add_one,hi,List.map_append,List.map_append]
     rfl
   ·rintro D ys H' ⟨hD,ss,rfl,hy⟩
    refine ⟨D,_,rfl,hy,?_⟩
    rw [List.take_length] at *
    rw [show ((xs.map λv=>Ag7 v 281474976710656).all id)=false by
     obtain ⟨v,hm,hb⟩:=hv
     rw [List.all_eq_false]
     exact ⟨_,List.mem_map.mpr ⟨v,hm,rfl⟩,by rw [hb]; decide⟩]
    exact q H' ss
theorem scGi:Ab5 ["self","page"] ["self","page"] (Aa1 Bh6):=FSc
theorem Cs1 {f f2:Addr} {fd fd2:FuncData} (F:Fun K "give" "Memory.give" Bh6 f fd) (Z:Me K C "check_page" "Store.check_page" Am8 ["self","page"] f2 fd2) (GZ:FnOk P w K mg base (CXr P w) 4 f2 fd2 ["self","page"] (Bf8 C NP)) (S:Sto K mg C NP NL NW NI):FnOk P w K mg base (CXr P w) 5 f fd ["self","page"] (Bu5 C NP):=by
 refine F.okR scGi (λvs H Q E h=>?_) (λcdv A outer s H vs Q E hr h=>?_)
 ·obtain ⟨m,h,ps,x,rfl,_⟩:=h
  rfl
 ·obtain ⟨m,h,ps,x,rfl,M,th,q,e1⟩:=h
  obtain ⟨dx,hm⟩:=M.ob
  refine ⟨_,(Aa2 (Ad7 (Ac4 (pv 0) S.cl Z.m GZ hr Z.b .nil Ah8 (Aa0 (pv 1) Aa3))) (Aa4 (Al3 Ae8 (Ap2 (Af0 (pv 0) rfl) (pv 1) Ai0)))),?_⟩
  refine ⟨_,rfl,m,dx,_,rfl,hm,Ai8 h (by decide +kernel),_,rfl,m,h,ps,x,rfl,M,th,λhb=>?_,e1⟩
  obtain ⟨i,p,ws,rfl,e⟩:=Ag4 hb
  have hi:i<ps.length:=(List.getElem?_eq_some_iff.mp e).1
  exact ⟨_,rfl,m,C,dx,_,_,rfl,hm,S.cl,S.nh,Ai9 h,_,rfl,h,_,_,i,rfl,rfl,M.pg.top,Am2 (by rw [List.length_map]; exact hi),q i rfl hi hb⟩
theorem scLy:Ab5 ["self","page","words"] ["self","page","words"] (Aa1 sLay):=FSc
theorem Cy3 {f f1 f2 f3:Addr} {fd fd1 fd2 fd3:FuncData} (F:Fun K "lay" "Memory.lay" sLay f fd) (B:Dn K mg "is_below" Aj5 ["thing","bound"] f1 fd1) (G:FnOk P w K mg base CX0 2 f1 fd1 ["thing","bound"] Aj9)
  (B8:Dn K mg "is_eight_words" Ao6 ["thing"] f3 fd3) (G8:FnOk P w K mg base CX0 4 f3 fd3 ["thing"] Bl8)
  (Z:Me K C "size" "Memory.size" Ay2 ["self"] f2 fd2) (GZ:FnOk P w K mg base CX0 1 f2 fd2 ["self"] (Ba0 C)) (S:Sto K mg C NP NL NW NI) (T:Txt K mg):FnOk P w K mg base (CXr P w) 5 f fd ["self","page","words"] (Cm8 C NP NW):=by
 refine F.okR scLy (λvs H Q E h=>?_) (λcdv A outer s H vs Q E hr h=>?_)
 ·obtain ⟨m,h,ps,x,y,rfl,_⟩:=h
  rfl
 ·obtain ⟨m,h,ps,x,y,rfl,M,th,hc⟩:=h
  obtain ⟨dx,hm⟩:=M.ob
  have hr1:Room 1 _:=hr.mono (by decide)
  have hr2:Room 2 _:=hr.mono (by decide)
  refine ⟨_,(Aa2 (Ac8 (Ae0 (Ad1 (Ab3 G hr2 (by rfl) B.m B.F.kp B.b .nil Ac1 (Aa0 (pv 1) (Aa0 (Ag3 (pv 0) S.cl Z.m GZ hr1 Z.b .nil Ac1) Aa3))))) (Aa4 (Aj6 S.xp S.np Al6 rfl (Aa0 Ab8 Aa3))) Ab0) (Aa2 (Ac8 (Ae0 (Ad1 (Ab3 G8 hr (by rfl) B8.m B8.F.kp B8.b .nil Ac1 (Aa0 (pv 2) Aa3)))) (Aa4 (Aj6 S.xw S.nw Al6 rfl (Aa0 Ab8 Aa3))) Ab0) (Aa4 (Al3 (Ah5 Ag6 (by rfl) T.lst PyProof.Rows.boot_list (Aa0 (pv 2) Aa3)) (Ap2 (Af0 (pv 0) rfl) (pv 1) Ai0))))),?_⟩
  refine ⟨_,rfl,_,rfl,m,dx,_,rfl,hm,Ai8 h (by decide +kernel),m,h,ps,rfl,M,x,_,rfl,th,_,rfl,?_⟩
  rcases hc with ⟨hb,e⟩ | ⟨hb,hn,e⟩ | ⟨i,p,ws,rfl,hi,rfl,hp,hl,hw,q⟩
  ·rw [hb]
   exact iteT ⟨by decide,e⟩
  ·rw [hb]
   refine iteF ⟨_,rfl,.inr ⟨y,rfl,hn,λH1 s1=>⟨_,rfl,iteT ⟨by decide,e H1 s1⟩⟩⟩⟩
  ·rw [Ae3 (by omega) (by omega)]
   refine iteF ⟨_,rfl,.inl ⟨p,ws,rfl,hp,hl,hw,λH1 s1=>⟨_,rfl,iteF ?_⟩⟩⟩
   refine ⟨_,rfl,p,_,rfl,.inl (SqL.of (s1 _ _ hp)),λl hl0=>?_⟩
   have sl:=Aa6 (o:=.lst (ws.map V.int)) hl0
   have M1:=M.same (s1.trans sl)
   exact ⟨_,rfl,m,C,dx,_,_,rfl,sl _ _ (s1 _ _ hm),S.cl,S.nh,Ai9 h,_,rfl,h,_,_,i,rfl,rfl,M1.pg.top,Am2 (by rw [List.length_map]; exact hi),q l H1 s1 hl0⟩
end
end K28
end
section
namespace K28
open PySem L2
abbrev Av4:Stmt:=Ab1 (top 23) 0
abbrev At3:Stmt:=Ab1 (top 23) 5
abbrev Rs:=List (Int×Int×Int)
def Aj2:Rs->Int->Option (Int×Int)
 | [],_=>none
 | x::r,k=>if x.1=k then some x.2 else Aj2 r k
def putR:Rs->Int×Int×Int->Rs
 | [],x=>[x]
 | y::r,x=>if y.1=x.1 then x::r else y::putR r x
def delR (rs:Rs) (k:Int):Rs:=rs.filter λx=>decide (x.1≠k)
def Ai1 (n:Int) (rs:Rs) (x:Int×Int×Int):Rs×Option Int:=if ((putR rs x).length:Int)<=n then (putR rs x,none) else ((putR rs x).tail,(putR rs x).head?.map (·.1))
def oV:Option Int->V
 | none=>.non
 | some i=>.int i
inductive Rws (H:Hp):List (Key×V)->Rs->Prop
 | nil:Rws H [] []
 | cons {k p r:Int} {t:Addr} {kvs:List (Key×V)} {rs:Rs}:H t=some (.tup [.int p,.int r])->Rws H kvs rs->Rws H ((Sum.inl k,.ref t)::kvs) ((k,p,r)::rs)
theorem Rws.imp {H H':Hp} (f:∀ t xs,H t=some (.tup xs)->H' t=some (.tup xs)) {kvs:List (Key×V)} {rs:Rs} (h:Rws H kvs rs):Rws H' kvs rs:=by
 induction h with
 | nil=>exact .nil
 | cons e _ ih=>exact .cons (f _ _ e) ih
theorem Rws.len {H:Hp} {kvs:List (Key×V)} {rs:Rs} (h:Rws H kvs rs):kvs.length=rs.length:=by
 induction h with
 | nil=>rfl
 | cons e _ ih=>rw [List.length_cons,List.length_cons,ih]
theorem Rws.keys {H:Hp} {kvs:List (Key×V)} {rs:Rs} (h:Rws H kvs rs):(kvs.map λkv=>kV kv.1)=rs.map λx=>V.int x.1:=by
 induction h with
 | nil=>rfl
 | cons e _ ih=>rw [List.map_cons,List.map_cons,ih]; rfl
theorem By8 {a b:Int} (h:¬ a=b):¬ (Sum.inl a:Key)=Sum.inl b:=λz=>h (Sum.inl.inj z)
theorem Rws.look {H:Hp} {kvs:List (Key×V)} {rs:Rs} (h:Rws H kvs rs) (k:Int):(Aj2 rs k=none/\valV kvs (Sum.inl k)=none)\/∃ p r t,Aj2 rs k=some (p,r)/\valV kvs (Sum.inl k)=some (.ref t)/\H t=some (.tup [.int p,.int r]):=by
 induction h with
 | nil=>exact .inl ⟨rfl,rfl⟩
 | @cons k' p r t kvs rs e _ ih =>
  by_cases hk:k'=k
  ·subst hk
   exact .inr ⟨p,r,t,by unfold Aj2; rw [if_pos rfl],Ar6 rfl,e⟩
  ·have e1:Aj2 ((k',p,r)::rs) k=Aj2 rs k:=by
    show (if k'=k then _ else _)=_
    rw [if_neg hk]
   rw [e1,Ar7 (p:=(Sum.inl k',V.ref t)) (By8 hk)]
   exact ih
theorem Rws.del {H:Hp} {kvs:List (Key×V)} {rs:Rs} (h:Rws H kvs rs) (k:Int):Rws H (Ar4 kvs (Sum.inl k)) (delR rs k):=by
 induction h with
 | nil=>exact .nil
 | @cons k' p r t kvs rs e _ ih =>
  by_cases hk:k'=k
  ·rw [Bz3 (p:=(Sum.inl k',V.ref t)) (by rw [hk]),show delR ((k',p,r)::rs) k=delR rs k from by unfold delR; rw [List.filter_cons_of_neg (by simp [hk])]]
   exact ih
  ·rw [Bz4 (p:=(Sum.inl k',V.ref t)) (By8 hk),show delR ((k',p,r)::rs) k=(k',p,r)::delR rs k from by unfold delR; rw [List.filter_cons_of_pos (by simp [hk])]]
   exact .cons e ih
theorem Rws.get {H:Hp} {kvs:List (Key×V)} {rs:Rs} (h:Rws H kvs rs):∀ (i:Nat) (k:Key) (z:V),kvs[i]?=some (k,z)->∃ x t,rs[i]?=some x/\k=Sum.inl x.1/\z=.ref t/\H t=some (.tup [.int x.2.1,.int x.2.2]):=by
 induction h with
 | nil=>intro i k z e; simp at e
 | @cons k' p r t kvs rs e _ ih =>
  intro i k z he
  cases i with
  | zero =>
   have he':some (Sum.inl k',V.ref t)=some (k,z):=he
   cases he'
   exact ⟨(k',p,r),t,rfl,rfl,rfl,e⟩
  | succ i=>exact ih i k z he
theorem Bb8:∀ {rs:Rs} {k:Int},Aj2 rs k=none->¬ k ∈ rs.map (·.1)
 | [],k,_=>by simp
 | x::rs,k,h=>by
  unfold Aj2 at h
  by_cases hk:x.1=k
  ·rw [if_pos hk] at h
   cases h
  ·rw [if_neg hk] at h
   rw [List.map_cons,List.mem_cons]
   rintro (z | z)
   ·exact hk z.symm
   ·exact Bb8 h z
theorem Bb1 {kvs:List (Key×V)} {k j:Key} {v u:V} (h:¬ j=k):putK ((j,u)::kvs) k v=(j,u)::putK kvs k v:=by
 unfold putK
 rw [List.any_cons,decide_eq_false h,Bool.false_or]
 split
 ·rw [List.map_cons,if_neg h]
 ·rfl
theorem Ck9 {k:Key} {v:V}:∀ {kvs:List (Key×V)},¬ k ∈ kvs.map (·.1)->kvs.map (λkv=>if kv.1=k then (kv.1,v) else kv)=kvs
 | [],_=>rfl
 | p::kvs,h=>by
  rw [List.map_cons,List.mem_cons] at h
  rw [List.map_cons,if_neg (λz=>h (.inl z.symm)),Ck9 λz=>h (.inr z)]
theorem Rws.keyl {H:Hp} {kvs:List (Key×V)} {rs:Rs} (h:Rws H kvs rs):kvs.map (·.1)=rs.map λx=>(Sum.inl x.1:Key):=by
 induction h with
 | nil=>rfl
 | cons e _ ih=>rw [List.map_cons,List.map_cons,ih]
theorem Rws.put {H:Hp} {kvs:List (Key×V)} {rs:Rs} {k p r:Int} {t:Addr} (h:Rws H kvs rs) (nd:(rs.map (·.1)).Nodup) (e:H t=some (.tup [.int p,.int r])):Rws H (putK kvs (Sum.inl k) (.ref t)) (putR rs (k,p,r)):=by
 induction h with
 | nil=>exact .cons e .nil
 | @cons k' p' r' t' kvs rs e' h' ih =>
  rw [List.map_cons,List.nodup_cons] at nd
  by_cases hk:k'=k
  ·subst hk
   have e1:putR ((k',p',r')::rs) (k',p,r)=(k',p,r)::rs:=by unfold putR; rw [if_pos rfl]
   have e2:putK ((Sum.inl k',V.ref t')::kvs) (Sum.inl k') (V.ref t)=(Sum.inl k',V.ref t)::kvs:=by
    unfold putK
    rw [List.any_cons,decide_eq_true rfl,Bool.true_or,if_pos rfl,List.map_cons,if_pos rfl,Ck9]
    rw [h'.keyl]
    intro z
    obtain ⟨x,hx,he⟩:=List.mem_map.mp z
    exact nd.1 (List.mem_map.mpr ⟨x,hx,Sum.inl.inj he⟩)
   rw [e1,e2]
   exact .cons e h'
  ·have e1:putR ((k',p',r')::rs) (k,p,r)=(k',p',r')::putR rs (k,p,r):=by
    show (if k'=k then _ else _)=_
    rw [if_neg hk]
   rw [e1,Bb1 (By8 hk)]
   exact .cons e' (ih nd.2)
theorem Ao9:∀ {rs:Rs} {x:Int×Int×Int},(putR rs x).map (·.1)=if x.1 ∈ rs.map (·.1) then rs.map (·.1) else rs.map (·.1)++[x.1]
 | [],x=>by simp [putR]
 | y::rs,x=>by
  unfold putR
  by_cases h:y.1=x.1
  ·rw [if_pos h,if_pos (by rw [List.map_cons,h]; exact List.mem_cons_self),List.map_cons,List.map_cons,h]
  ·rw [if_neg h,List.map_cons,Ao9,List.map_cons]
   by_cases m:x.1 ∈ rs.map (·.1)
   ·rw [if_pos m,if_pos (List.mem_cons_of_mem _ m)]
   ·rw [if_neg m,if_neg (by rw [List.mem_cons]; rintro (z | z); exact h z.symm; exact m z)]
    rfl
theorem Bi3 {rs:Rs} {x:Int×Int×Int} (h:(rs.map (·.1)).Nodup):((putR rs x).map (·.1)).Nodup:=by
 rw [Ao9]
 split
 ·exact h
 ·exact Bx6 h ‹_›
theorem putR_len {rs:Rs} {x:Int×Int×Int}:(putR rs x).length<=rs.length+1/\1<=(putR rs x).length:=by
 have h:=congrArg List.length (Ao9 (rs:=rs) (x:=x))
 rw [List.length_map] at h
 have g:=Ao9 (rs:=rs) (x:=x)
 split at h
 ·rename_i m
  rw [List.length_map] at h
  have:rs≠[]:=by rintro rfl; simp at m
  have:=List.length_pos_iff.mpr this
  omega
 ·rw [List.length_append,List.length_map] at h
  simp at h
  omega
theorem Ca1 {y:Int×Int×Int} {rs:Rs} (h:((y::rs).map (·.1)).Nodup):delR (y::rs) y.1=rs:=by
 rw [List.map_cons,List.nodup_cons] at h
 unfold delR
 rw [List.filter_cons_of_neg (by simp),List.filter_eq_self]
 intro z hz
 refine decide_eq_true λe=>h.1 (List.mem_map.mpr ⟨z,hz,e⟩)
theorem Ca0 {rs:Rs} {k:Int} (h:(rs.map (·.1)).Nodup):((delR rs k).map (·.1)).Nodup:=h.sublist (List.filter_sublist.map _)
theorem Bz9 {rs:Rs} {k:Int} (h:Aj2 rs k=none):delR rs k=rs:=by
 unfold delR
 rw [List.filter_eq_self]
 intro z hz
 exact decide_eq_true λe=>Bb8 h (List.mem_map.mpr ⟨z,hz,e⟩)
theorem Bo2 (rs:Rs) (k:Int):(delR rs k).length<=rs.length:=List.length_filter_le ..
theorem Cj2 {n:Int} {rs:Rs} {x:Int×Int×Int} (h:(rs.map (·.1)).Nodup):((Ai1 n rs x).1.map (·.1)).Nodup:=by
 unfold Ai1
 split
 ·exact Bi3 h
 ·exact (Bi3 h).sublist ((List.tail_sublist _).map _)
theorem By5 {n:Int} {rs:Rs} {x:Int×Int×Int} (h:(rs.length:Int)<=n):((Ai1 n rs x).1.length:Int)<=n:=by
 unfold Ai1
 split
 ·assumption
 ·have:=(putR_len (rs:=rs) (x:=x)).1
  show ((putR rs x).tail.length:Int)<=n
  rw [List.length_tail]
  omega
structure Shf (K:PySem.W.Frag) (mg:Str->Option Value) (C:Addr):Prop where
 cl:Cls K C
 nm:NoAttr K C "most"
 ns:NoAttr K C "seats"
 seats:∃ t,mg "SEATS"=some (.int 12 t)
structure FsOk (fs:List (Str×V)) (n:Int) (q:Addr):Prop where
 most:fs.lookup ("most":Str)=some (.int n)
 seats:fs.lookup ("seats":Str)=some (.ref q)
 no:∀ m:Str,¬ m = "most"->¬ m = "seats"->fs.lookup m=none
 few:fs.length<=100
theorem Ak0 (f:Str) (v:V):∀ {fs:List (Str×V)},(fs.lookup f).isSome=true->(putF f v fs).length=fs.length
 | [],h=>by simp at h
 | (g,x)::r,h=>by
  show (if g=f then (g,v)::r else (g,x)::putF f v r).length=_
  by_cases e:g=f
  ·rw [if_pos e]
   rfl
  ·rw [if_neg e,List.length_cons,List.length_cons,Ak0 f v (fs:=r)]
   rw [List.lookup_cons,beq_eq_false_iff_ne.mpr (Ne.symm e)] at h
   exact h
structure Sh (C:Addr) (H:Hp) (m q:Addr) (n:Int) (rs:Rs):Prop where
 ob:∃ dx fs,H m=some (.ins C dx fs)/\FsOk fs n q
 se:∃ kvs,H q=some (.dK kvs)/\Rws H kvs rs
 nd:(rs.map (·.1)).Nodup
 ln:rs.length<=13
 n1:1<=n
 n2:n<=12
theorem Sh.same {C:Addr} {H H':Hp} {m q:Addr} {n:Int} {rs:Rs} (S:Sh C H m q n rs) (s:Same H H'):Sh C H' m q n rs:=by
 obtain ⟨dx,fs,e,f⟩:=S.ob
 obtain ⟨kvs,e2,r⟩:=S.se
 exact ⟨⟨dx,fs,s _ _ e,f⟩,⟨kvs,s _ _ e2,r.imp λt xs z=>s _ _ z⟩,S.nd,S.ln,S.n1,S.n2⟩
def But (a:Addr) (H H':Hp):Prop:=∀ b o,b≠a->H b=some o->H' b=some o
theorem But.of {a:Addr} {H H':Hp} (s:Same H H'):But a H H':=λb o _ e=>s b o e
theorem But.upd {a:Addr} {H:Hp} {o:HO}:But a H (upd H a o):=λb u h e=>by rw [Aa7 h]; exact e
theorem But.trans {a:Addr} {H H1 H2:Hp} (s:But a H H1) (t:But a H1 H2):But a H H2:=λb o h e=>t b o h (s b o h e)
theorem Sh.but {C a:Addr} {H H':Hp} {m q:Addr} {n:Int} {rs:Rs} (S:Sh C H m q n rs) (s:But a H H') (h1:m≠a) (h2:q≠a) (h3:∀ xs,H a≠some (.tup xs)):Sh C H' m q n rs:=by
 obtain ⟨dx,fs,e,f⟩:=S.ob
 obtain ⟨kvs,e2,r⟩:=S.se
 exact ⟨⟨dx,fs,s _ _ h1 e,f⟩,⟨kvs,s _ _ h2 e2,r.imp λt xs z=>s _ _ (λy=>h3 xs (y ▸ z)) z⟩,S.nd,S.ln,S.n1,S.n2⟩
theorem Sh.nq {C:Addr} {H:Hp} {m q:Addr} {n:Int} {rs:Rs} (S:Sh C H m q n rs):m≠q:=by
 obtain ⟨dx,fs,e,f⟩:=S.ob
 obtain ⟨kvs,e2,r⟩:=S.se
 exact Af1 e e2 (by intro z; cases z)
theorem Sh.qt {C:Addr} {H:Hp} {m q:Addr} {n:Int} {rs:Rs} (S:Sh C H m q n rs) (xs:List V):H q≠some (.tup xs):=by
 obtain ⟨kvs,e2,r⟩:=S.se
 rw [e2]
 intro z
 cases z
theorem Sh.seat {C:Addr} {H:Hp} {m q:Addr} {n:Int} {rs rs':Rs} {kvs':List (Key×V)} (S:Sh C H m q n rs) (r':Rws H kvs' rs') (nd:(rs'.map (·.1)).Nodup) (ln:rs'.length<=13):Sh C (upd H q (.dK kvs')) m q n rs':=by
 obtain ⟨dx,fs,e,f⟩:=S.ob
 exact ⟨⟨dx,fs,by rw [Aa7 S.nq]; exact e,f⟩,⟨kvs',upd_same,r'.imp λt xs z=>by rw [Aa7 λy=>S.qt xs (by rw [<- y]; exact z)]; exact z⟩,nd,ln,S.n1,S.n2⟩
inductive Trs (H:Hp):List V->Rs->Prop
 | nil:Trs H [] []
 | cons {k p r:Int} {t:Addr} {ys:List V} {rs:Rs}:H t=some (.tup [.int k,.int p,.int r])->Trs H ys rs->Trs H (.ref t::ys) ((k,p,r)::rs)
theorem Trs.imp {H H':Hp} (f:∀ t xs,H t=some (.tup xs)->H' t=some (.tup xs)) {ys:List V} {rs:Rs} (h:Trs H ys rs):Trs H' ys rs:=by
 induction h with
 | nil=>exact .nil
 | cons e _ ih=>exact .cons (f _ _ e) ih
theorem Trs.len {H:Hp} {ys:List V} {rs:Rs} (h:Trs H ys rs):ys.length=rs.length:=by
 induction h with
 | nil=>rfl
 | cons e _ ih=>rw [List.length_cons,List.length_cons,ih]
theorem Trs.app {H:Hp} {ys:List V} {rs:Rs} {k p r:Int} {t:Addr} (h:Trs H ys rs) (e:H t=some (.tup [.int k,.int p,.int r])):Trs H (ys++[.ref t]) (rs++[(k,p,r)]):=by
 induction h with
 | nil=>exact .cons e .nil
 | cons e' _ ih=>exact .cons e' ih
theorem Trs.get {H:Hp} {ys:List V} {rs:Rs} (h:Trs H ys rs):∀ (i:Nat) (x:Int×Int×Int),rs[i]?=some x->∃ t,ys[i]?=some (.ref t)/\H t=some (.tup [.int x.1,.int x.2.1,.int x.2.2]):=by
 induction h with
 | nil=>intro i x e; simp at e
 | @cons k p r t ys rs e _ ih =>
  intro i x he
  cases i with
  | zero =>
   have he':some (k,p,r)=some x:=he
   cases he'
   exact ⟨t,rfl,e⟩
  | succ i=>exact ih i x he
structure TL (H:Hp) (l:Addr) (rs:Rs):Prop where
 ls:∃ ys,H l=some (.lst ys)/\Trs H ys rs
theorem TL.same {H H':Hp} {l:Addr} {rs:Rs} (T:TL H l rs) (s:Same H H'):TL H' l rs:=by
 obtain ⟨ys,e,t⟩:=T.ls
 exact ⟨ys,s _ _ e,t.imp λt xs z=>s _ _ z⟩
def Bf1 (C:Addr):Sp:=λvs H Q _=>∃ (m dx:Addr) (n:Int),vs=[.ref m,.int n]/\H m=some (.ins C dx [])/\1<=n/\n<=12/\∀ (q:Addr) (H':Hp),But m H H'->H q=none->Sh C H' m q n []->Q .non H'
def Bf0 (C:Addr):Sp:=λvs H Q _=>∃ (m q:Addr) (n:Int) (rs:Rs),vs=[.ref m]/\Sh C H m q n rs/\∀ (l:Addr) (H':Hp),Same H H'->H l=none->TL H' l rs->Q (.ref l) H'
section
variable {P : Program} {w : World} {K : PySem.W.Frag} {mg : Str → Option Value} {base : Heap} {C : Addr}
theorem Dd0:Ab5 ["self","most"] ["self","most"] (Aa1 Av4):=FSc
theorem Cg6 {f f1:Addr} {fd fd1:FuncData} (F:Fun K "__init__" "Shelf.__init__" Av4 f fd) (D1:Dn K mg "is_whole" Aq5 ["thing"] f1 fd1) (G1:FnOk P w K mg base CX0 1 f1 fd1 ["thing"] Ak3) (S:Shf K mg C):FnOk P w K mg base CX0 2 f fd ["self","most"] (Bf1 C):=by
 obtain ⟨t1,m1⟩:=S.seats
 refine F.ok Dd0 (λvs H Q E h=>?_) (λcdv A outer s H vs Q E hr h=>?_)
 ·obtain ⟨m,dx,n,rfl,_⟩:=h
  rfl
 ·obtain ⟨m,dx,n,rfl,hm,h1,h2,q⟩:=h
  refine ⟨_,Aa2 (Ac8 (PW.pt (Al7 (Ae0 (Ad1 (Ab3 G1 hr (by rfl) D1.m D1.F.kp D1.b .nil Ac1 (Aa0 (pv 1) Aa3)))) (Ai5 (Ae0 (Bm3 Bq2 Bq2 Aa5 (pv 1) (Ad6 (by rfl) m1 (show RelV (.int 12) (.int 12 t1) from ⟨_,rfl⟩))))))) Bw1 Ab0) (Aa2 (Ap0 (pv 0) (pv 1) rfl) (Aa4 (Ap0 (pv 0) Bm4 rfl))),?_⟩
  refine ⟨_,rfl,.int n,rfl,.int n,_,rfl,iteF ?_⟩
  refine ⟨_,rfl,1,n,rfl,rfl,_,rfl,?_⟩
  rw [decide_eq_true h1]
  refine iteT ⟨n,12,rfl,rfl,_,rfl,?_⟩
  rw [decide_eq_true h2]
  refine iteF ?_
  refine ⟨_,rfl,_,rfl,m,C,dx,_,rfl,hm,S.cl,S.nm,(by show 0<1000; decide),?_⟩
  intro p hp
  have np:m≠p:=Ac7 upd_same hp
  refine ⟨_,rfl,m,C,dx,_,rfl,(by rw [Aa7 np]; exact upd_same),S.cl,S.ns,(by show 1<1000; decide),?_⟩
  have hp0:H p=none:=by
   rw [Aa7 np.symm] at hp
   exact hp
  refine q p _ (λb o hb e=>?_) hp0 ⟨⟨dx,_,upd_same,⟨?_,?_,λg z1 z2=>?_,?_⟩⟩,⟨[],?_,.nil⟩,List.nodup_nil,by decide,h1,h2⟩
  ·rw [Aa7 hb,Aa7 (Ac7 e hp0),Aa7 hb]
   exact e
  ·rw [Ab7,if_neg (by decide +kernel),Ab7,if_pos rfl]
  ·rw [Ab7,if_pos rfl]
  ·rw [Ab7,if_neg z2,Ab7,if_neg z1]
   rfl
  ·exact Nat.le_trans (Af2 _ _ _) (Nat.le_trans (Nat.succ_le_succ (Af2 _ _ _)) (by decide))
  ·rw [Aa7 np.symm]
   exact upd_same
theorem Dc9:Ab5 ["self"] ["self"] (Aa1 At3):=FSc
theorem Dd7:(Bd4 "number" "row" ["self"]).Nodup:=by decide +kernel
theorem Da4:(".0":Str) ∉ (["self"]:List Str):=by decide +kernel
theorem Cg4 {f:Addr} {fd:FuncData} (F:Fun K "told" "Shelf.told" At3 f fd) (S:Shf K mg C):FnOk P w K mg base CX0 1 f fd ["self"] (Bf0 C):=by
 refine F.ok Dc9 (λvs H Q E h=>?_) (λcdv A outer s H vs Q E hr h=>?_)
 ·obtain ⟨m,q,n,rs,rfl,_⟩:=h
  rfl
 ·obtain ⟨m,q,n,rs,rfl,W,qq⟩:=h
  obtain ⟨dx,fs,hm,fo⟩:=W.ob
  obtain ⟨kvs,hq,rw⟩:=W.se
  refine ⟨_,Aa4 (Ab2 (Cf0 (te:=tTup (Ap6 (tVar 0) (Ap6 (tOp (rIxT K) (tVar 1) (tC (.int 0))) (Ap6 (tOp (rIxT K) (tVar 1) (tC (.int 1))) tNil)))) rfl (Cx3 PySem.F.plainAttrs_dict PySem.F.slot_dict_items PySem.F.type_dict_items Ci3 (Af0 (pv 0) rfl)) (closureFor_none (by decide +kernel)) (by rfl) (λC s₂ H₂ fp=>(Af5 (Aa0 (pv 0) (Aa0 (Ad3 Ad4 (pv 1) Aa5 (λ_ _=>rfl)) (Aa0 (Ad3 Ad4 (pv 1) Aa5 (λ_ _=>rfl)) Aa3))))) Dd7 (hdot:=Da4))),?_⟩
  refine ⟨_,rfl,m,C,dx,fs,_,rfl,hm,S.cl,S.ns,fo.seats,.inr (.inr (.inl ⟨rfl,.inl ⟨kvs,hq⟩⟩)),q,kvs,rfl,rfl,hq,λv hv=>?_⟩
  have nv:∀ b o,H b=some o->b≠v:=λb o e=>Ac7 e hv
  refine ⟨v,q,kvs,rfl,upd_same,(by rw [Aa7 (nv _ _ hq)]; exact hq),λob D hD=>?_⟩
  have hDv:D≠v:=λz=>by rw [z,upd_same] at hD; cases hD
  rw [Aa7 hDv] at hD
  have nD:∀ b o,H b=some o->b≠D:=λb o e=>Ac7 e hD
  refine ⟨λi ys H'=>H' q=some (.frz ob (.dK kvs))/\H' D=some (.lst ys)/\But q H H'/\Trs H' ys (rs.take i)/\i<=rs.length,⟨?_,upd_same,λb o hb e=>?_,?_,Nat.zero_le _⟩,?_⟩
  ·rw [Aa7 (nD _ _ hq),upd_same]
  ·rw [Aa7 (nD _ _ e),Aa7 hb,Aa7 (nv _ _ e)]
   exact e
  ·rw [List.take_zero]
   exact .nil
  ·rintro i ys H' ⟨hqf,hDl,bt,tr,hi⟩
   have hlen:ys.length=i:=by rw [tr.len,List.length_take]; omega
   refine ⟨hDl,hqf,λhie=>?_,λk z t hkz ht=>?_,hlen⟩
   ·refine qq D _ (λb o e=>?_) hD ⟨ys,?_,?_⟩
    ·by_cases hb:b=q
     ·subst hb
      rw [upd_same,<- e,hq]
     ·rw [Aa7 hb]
      exact bt b o hb e
    ·rw [Aa7 (nD _ _ hq).symm]
     exact hDl
    ·rw [hie,rw.len,List.take_length] at tr
     exact tr.imp λt xs e=>by rw [Aa7 (λy=>by rw [y,hqf] at e; cases e)]; exact e
   ·obtain ⟨x,tt,hx,rfl,rfl,htt⟩:=rw.get i k z hkz
    have nqt:tt≠q:=λy=>W.qt _ (y ▸ htt)
    have htt':=bt tt _ nqt htt
    have s1:=Aa6 (o:=.tup [kV (Sum.inl x.1),V.ref tt]) ht
    have h2:=SqT.of (K:=K) (s1 _ _ htt')
    refine ⟨_,rfl,_,rfl,tt,_,_,_,rfl,rfl,h2,rfl,_,rfl,tt,_,_,_,rfl,rfl,h2,rfl,(by show 3<=sizeLine; decide),λt2 ht2=>?_⟩
    have s2:=s1.trans (Aa6 (o:=.tup [kV (Sum.inl x.1),.int x.2.1,.int x.2.2]) ht2)
    have hD3:=s2 _ _ hDl
    have hq3:=s2 _ _ hqf
    have ht3:(upd (upd H' t (.tup [kV (Sum.inl x.1),V.ref tt])) t2 (.tup [kV (Sum.inl x.1),.int x.2.1,.int x.2.2])) t2=some (.tup [V.int x.1,.int x.2.1,.int x.2.2]):=upd_same
    have hlt:i<rs.length:=(List.getElem?_eq_some_iff.mp hx).1
    generalize (upd (upd H' t (.tup [kV (Sum.inl x.1),V.ref tt])) t2 (.tup [kV (Sum.inl x.1),.int x.2.1,.int x.2.2]))=H3 at *
    refine ⟨hD3,?_,upd_same,λb o hb e=>?_,?_,hlt⟩
    ·rw [Aa7 (Af1 hq3 hD3 (by intro y; cases y))]
     exact hq3
    ·rw [Aa7 (nD _ _ e)]
     exact s2 _ _ (bt b o hb e)
    ·rw [List.take_succ,hx]
     have up:∀ t xs,H3 t=some (.tup xs)->upd H3 D (.lst (ys++[V.ref t2])) t=some (.tup xs):=λt xs e=>by rw [Aa7 (Af1 e hD3 (by intro y; cases y))]; exact e
     exact (tr.imp λt xs e=>up t xs (s2 _ _ e)).app (up _ _ ht3)
end
end K28
end
section
namespace K28
open PySem L2
abbrev Av5:Stmt:=Ab1 (top 48) 0
abbrev Aq7:Stmt:=Ab1 (top 48) 1
abbrev Ao5:Stmt:=Ab1 (top 48) 2
abbrev Aj4:Stmt:=Ab1 (top 48) 3
abbrev An5:Stmt:=Ab1 (top 48) 5
abbrev Bh9:Stmt:=Ab1 (top 48) 6
abbrev sAsk:Stmt:=Ab1 (top 48) 7
abbrev Av3:Stmt:=Ab1 (top 47) 0
abbrev At0:Stmt:=Ab1 (top 47) 15
abbrev Bg0:Stmt:=Ab1 (top 47) 16
abbrev At2:Stmt:=Ab1 (top 47) 17
abbrev Bg5:Stmt:=Ab1 (top 47) 12
abbrev An4:Stmt:=Ab1 (top 47) 18
abbrev As8:Stmt:=Ab1 (top 28) 6
structure Wf (fs:List (Str×V)) (m r aw:Addr) (b:Int):Prop where
 mem:fs.lookup ("memory":Str)=some (.ref m)
 bas:fs.lookup ("base":Str)=some (.int b)
 rck:fs.lookup ("rack":Str)=some (.ref r)
 ans:fs.lookup ("answers":Str)=some (.ref aw)
 no:∀ n:Str,¬ n = "memory"->¬ n = "base"->¬ n = "rack"->¬ n = "answers"->fs.lookup n=none
 len:fs.length<=8
theorem Wf.nq {fs:List (Str×V)} {m r aw:Addr} {b:Int} (wf:Wf fs m r aw b) (n:Str) (h1:¬ n = "memory":=by decide +kernel) (h2:¬ n = "base":=by decide +kernel) (h3:¬ n = "rack":=by decide +kernel) (h4:¬ n = "answers":=by decide +kernel):fs.lookup n=none:=wf.no n h1 h2 h3 h4
structure Plc (K:PySem.W.Frag) (PL:Addr):Prop where
 cl:Cls K PL
 nm:NoAttr K PL "memory"
 nb:NoAttr K PL "base"
 nr:NoAttr K PL "rack"
 na:NoAttr K PL "answers"
structure Way (C SC PL:Addr) (H:Hp) (a m h r q aw:Addr) (ps:Pgs) (n:Int) (rs:Rs) (bs:List Bool) (b:Int):Prop where
 ob:∃ dx fs,H a=some (.ins PL dx fs)/\Wf fs m r aw b
 M:Mem C H m h ps
 S:Sh SC H r q n rs
 an:H aw=some (.lst (bs.map V.bl))
 nd:¬ At h ps aw
theorem Way.same {C SC PL:Addr} {H H':Hp} {a m h r q aw:Addr} {ps:Pgs} {n:Int} {rs:Rs} {bs:List Bool} {b:Int} (w:Way C SC PL H a m h r q aw ps n rs bs b) (s:Same H H'):Way C SC PL H' a m h r q aw ps n rs bs b:=by
 obtain ⟨dx,fs,e,f⟩:=w.ob
 exact ⟨⟨dx,fs,s _ _ e,f⟩,w.M.same s,w.S.same s,s _ _ w.an,w.nd⟩
theorem Way.ask {C SC PL:Addr} {H:Hp} {a m h r q aw:Addr} {ps:Pgs} {n:Int} {rs:Rs} {bs:List Bool} {b:Int} (w:Way C SC PL H a m h r q aw ps n rs bs b) (br:List Bool):Way C SC PL (upd H aw (.lst (br.map V.bl))) a m h r q aw ps n rs br b:=by
 obtain ⟨dx,fs,e,f⟩:=w.ob
 obtain ⟨dm,em⟩:=w.M.ob
 obtain ⟨dr,fr,er,_⟩:=w.S.ob
 obtain ⟨kvs,eq,_⟩:=w.S.se
 refine ⟨⟨dx,fs,by rw [Aa7 (Af1 e w.an nofun)]; exact e,f⟩,⟨⟨dm,by rw [Aa7 (Af1 em w.an nofun)]; exact em⟩,w.M.pg.keep λb hb=>Aa7 (λz=>w.nd (z ▸ hb)),w.M.good,w.M.len⟩,w.S.but But.upd (Af1 er w.an nofun) (Af1 eq w.an nofun) (λxs z=>by rw [w.an] at z; cases z),upd_same,w.nd⟩
theorem Way.put {C SC PL:Addr} {H H2:Hp} {a m h r q aw:Addr} {ps:Pgs} {n:Int} {rs:Rs} {bs:List Bool} {b:Int} {o:Option (Addr×List Int)} {i:Nat} (w:Way C SC PL H a m h r q aw ps n rs bs b) (s2:Same H H2) (hn:∀ (p:Addr) (ws:List Int),o=some (p,ws)->H2 p=some (.lst (ws.map V.int))/\H p=none)
  (hg:∀ (p:Addr) (ws:List Int),o=some (p,ws)->ws.length=8/\∀ w ∈ ws,0<=w/\w<281474976710656):Way C SC PL (upd H2 h (.lst ((ps.map pgV).set i (pgV o)))) a m h r q aw (ps.set i o) n rs bs b:=by
 obtain ⟨dx,fs,e,f⟩:=w.ob
 obtain ⟨dr,fr,er,_⟩:=w.S.ob
 obtain ⟨kvs,eq,_⟩:=w.S.se
 have eh:=w.M.pg.top
 have nah:aw≠h:=λz=>w.nd (z ▸ .inl rfl)
 refine ⟨⟨dx,fs,by rw [Aa7 (Af1 e eh nofun)]; exact s2 _ _ e,f⟩,w.M.put s2 hn hg,(w.S.same s2).but But.upd (Af1 er eh nofun) (Af1 eq eh nofun) (λxs z=>by rw [s2 _ _ eh] at z; cases z),by rw [Aa7 nah]; exact s2 _ _ w.an,λz=>?_⟩
 rcases z.put with y | ⟨ws,y⟩
 ·exact w.nd y
 ·have:=(hn aw ws y).2
  rw [w.an] at this
  cases this
theorem seq0 (n:Nat):seqIndex? 0 (n+1)=some 0:=by
 simp [seqIndex?]
theorem Ci9 {ws:List Int} (h:ws.length=8):[ws.getD 0 0,ws.getD 1 0,ws.getD 2 0,ws.getD 3 0,ws.getD 4 0,ws.getD 5 0,ws.getD 6 0,ws.getD 7 0]=ws:=by
 match ws,h with
 | [_,_,_,_,_,_,_,_],_=>rfl
def Ax4 (C SC PL:Addr):Sp:=λvs H Q _=>∃ (a m h r q aw:Addr) (ps:Pgs) (n:Int) (rs:Rs) (bs:List Bool) (b:Int),vs=[.ref a]/\Way C SC PL H a m h r q aw ps n rs bs b/\Q (.int ps.length) H
def Al5 (C SC PL:Addr):Sp:=λvs H Q _=>∃ (a m h r q aw:Addr) (ps:Pgs) (n:Int) (rs:Rs) (bs:List Bool) (b:Int) (x:V),vs=[.ref a,x]/\Way C SC PL H a m h r q aw ps n rs bs b/\Th H x/\Q (.bl (hasP ps x)) H
def Al4 (C SC PL:Addr):Sp:=λvs H Q _=>∃ (a m h r q aw:Addr) (ps:Pgs) (n:Int) (rs:Rs) (bs:List Bool) (b:Int) (i j:Nat) (p:Addr) (ws:List Int),vs=[.ref a,.int i,.int j]/\Way C SC PL H a m h r q aw ps n rs bs b/\ps[i]?=some (some (p,ws))/\j<8/\Q (.int (ws.getD j 0)) H
def Ax5 (C SC PL:Addr):Sp:=λvs H Q _=>∃ (a m h r q aw:Addr) (ps:Pgs) (n:Int) (rs:Rs) (bs:List Bool) (b:Int) (i:Nat),vs=[.ref a,.int i]/\Way C SC PL H a m h r q aw ps n rs bs b/\hasP ps (.int i)=true/\Q .non (upd H h (.lst ((ps.map pgV).set i (pgV none))))
def Bu8 (C SC PL:Addr):Sp:=λvs H Q _=>∃ (a m h r q aw:Addr) (ps:Pgs) (n:Int) (rs:Rs) (bs:List Bool) (b:Int) (i:Nat),vs=[.ref a,.int i]/\Way C SC PL H a m h r q aw ps n rs bs b/\i<ps.length/\∀ (l:Addr) (H1:Hp),Same H H1->H1 l=none->Q .non (upd (upd H1 l (.lst (([0,0,0,0,0,0,0,0]:List Int).map V.int))) h (.lst ((ps.map pgV).set i (.ref l))))
def Cn3 (C SC PL:Addr):Sp:=λvs H Q _=>∃ (a m h r q aw:Addr) (ps:Pgs) (n:Int) (rs:Rs) (bs:List Bool) (b:Int),vs=[.ref a]/\Way C SC PL H a m h r q aw ps n rs bs b/\(bs=[]->Q (.bl false) H)/\∀ b0 br,bs=b0::br->Q (.bl b0) (upd H aw (.lst (br.map V.bl)))
def Be6 (C SC PL:Addr):Sp:=λvs H Q _=>∃ (a m h r q aw:Addr) (ps:Pgs) (n:Int) (rs:Rs) (bs:List Bool) (b:Int) (x:V),vs=[.ref a,x]/\Way C SC PL H a m h r q aw ps n rs bs b/\Th H x/\(hasP ps x=false->Q (.bl false) H)/\∀ i:Nat,x=.int i->hasP ps x=true->Q (.bl true) (upd H h (.lst ((ps.map pgV).set i (pgV none))))
def Bs8 (C SC PL:Addr):Sp:=λvs H Q _=>∃ (a m h r q aw:Addr) (ps:Pgs) (n:Int) (rs:Rs) (bs:List Bool) (b:Int) (x:V),vs=[.ref a,x]/\Way C SC PL H a m h r q aw ps n rs bs b/\Th H x/\((Ag7 x ps.length=false\/hasP ps x=true\/bs=[])->Q (.bl false) H) /\
 (Ag7 x ps.length=true->hasP ps x=false->∀ br,bs=false::br->Q (.bl false) (upd H aw (.lst (br.map V.bl)))) /\
 (∀ (i:Nat) br,x=.int i->i<ps.length->hasP ps x=false->bs=true::br->∀ (l:Addr) (H1:Hp),Same (upd H aw (.lst (br.map V.bl))) H1->H1 l=none->Q (.bl true) (upd (upd H1 l (.lst (([0,0,0,0,0,0,0,0]:List Int).map V.int))) h (.lst ((ps.map pgV).set i (.ref l)))))
def Bt3 (C SC PL:Addr):Sp:=λvs H Q _=>∃ (a m h r q aw:Addr) (ps:Pgs) (n:Int) (rs:Rs) (bs:List Bool) (b:Int),vs=[.ref a]/\Way C SC PL H a m h r q aw ps n rs bs b/\Q (.int b) H
def Be9 (C SC PL:Addr):Sp:=λvs H Q _=>∃ (a m h r q aw:Addr) (ps:Pgs) (n:Int) (rs:Rs) (bs:List Bool) (b:Int),vs=[.ref a]/\Way C SC PL H a m h r q aw ps n rs bs b/\∀ (l:Addr) (H':Hp),Same H H'->H l=none->TL H' l rs->Q (.ref l) H'
def Aw8 (C SC PL:Addr):Sp:=λvs H Q _=>∃ (a m h r q aw:Addr) (ps:Pgs) (n:Int) (rs:Rs) (bs:List Bool) (b:Int) (i:Nat) (p:Addr) (ws:List Int),vs=[.ref a,.int i]/\Way C SC PL H a m h r q aw ps n rs bs b/\ps[i]?=some (some (p,ws))/\∀ l H',Same H H'->H l=none->H' l=some (.lst (ws.map V.int))->Q (.ref l) H'
def Ax1 (C SC PL:Addr):Sp:=λvs H Q _=>∃ (a m h r q aw:Addr) (ps:Pgs) (n:Int) (rs:Rs) (bs:List Bool) (b:Int),vs=[.ref a]/\Way C SC PL H a m h r q aw ps n rs bs b/\∀ D H' qs,Same H H'->Pg H' D qs->cont qs=cont ps->(∀ b,At D qs b->H b=none)->Q (.ref D) H'
def Be5 (SC PL:Addr):Sp:=λvs H Q _=>∃ (a dx:Addr) (fs:List (Str×V)) (n:Int),vs=[.ref a,.int n]/\H a=some (.ins PL dx fs)/\fs.length<900/\1<=n/\n<=12/\∀ (r q:Addr) (H':Hp),But a H H'->H r=none->H q=none->H' a=some (.ins PL dx (putF "rack" (.ref r) (putF "base" (.int 0) fs)))->Sh SC H' r q n []->Q .non H'
def Bf3 (C SC PL:Addr):Sp:=λvs H Q _=>∃ (a dx p l:Addr) (ps:Pgs) (n:Int) (bs:List Bool),vs=[.ref a,.ref p,.int n,.ref l]/\H a=some (.ins PL dx [])/\Pg H p ps/\Good ps/\1<=ps.length/\ps.length<=24/\1<=n/\n<=12/\H l=some (.lst (bs.map V.bl)) /\
 ∀ (m h r q aw:Addr) (H':Hp) (qs:Pgs),But a H H'->Way C SC PL H' a m h r q aw qs n [] bs 0->cont qs=cont ps->(∀ b,(b=m\/b=r\/b=q\/b=aw\/At h qs b)->H b=none)->Q .non H'
section
variable {P : Program} {w : World} {K : PySem.W.Frag} {mg : Str → Option Value} {base : Heap} {C NP NL NW NI SC PL WC : Addr}
theorem Dc4:Ab5 ["self"] ["self"] (Aa1 Aq7):=FSc
theorem Cx9 {f f1:Addr} {fd fd1:FuncData} (F:Fun K "size" "Plain.size" Aq7 f fd) (M1:Me K C "size" "Memory.size" Ay2 ["self"] f1 fd1) (GM1:FnOk P w K mg base CX0 1 f1 fd1 ["self"] (Ba0 C)) (S0:Sto K mg C NP NL NW NI) (PC:Plc K PL):FnOk P w K mg base CX0 2 f fd ["self"] (Ax4 C SC PL):=by
 refine F.ok Dc4 (λvs H Q E h'=>?_) (λcdv A outer s H vs Q E hr h'=>?_)
 ·obtain ⟨a,m,h,r,q,aw,ps,n,rs,bs,b,rfl,_⟩:=h'
  rfl
 ·obtain ⟨a,m,h,r,q,aw,ps,n,rs,bs,b,rfl,W,q⟩:=h'
  refine ⟨_,(Aa4 (Ab2 (Ag3 (Af0 (pv 0) rfl) S0.cl M1.m GM1 hr M1.b .nil Ac1))),?_⟩
  obtain ⟨dx,fs,ha,wf⟩:=W.ob
  obtain ⟨dm,hm⟩:=W.M.ob
  exact ⟨_,rfl,a,PL,dx,fs,_,rfl,ha,PC.cl,PC.nm,wf.mem,m,dm,flds h,rfl,hm,Ai8 h (by decide +kernel),m,h,ps,rfl,W.M,q⟩
theorem Cv8:Ab5 ["self","page"] ["self","page"] (Aa1 Ao5):=FSc
theorem Cr1 {f f1:Addr} {fd fd1:FuncData} (F:Fun K "has" "Plain.has" Ao5 f fd) (M1:Me K C "has" "Memory.has" sHas ["self","page"] f1 fd1) (GM1:FnOk P w K mg base CX0 3 f1 fd1 ["self","page"] (Cd1 C)) (S0:Sto K mg C NP NL NW NI) (PC:Plc K PL):FnOk P w K mg base CX0 4 f fd ["self","page"] (Al5 C SC PL):=by
 refine F.ok Cv8 (λvs H Q E h'=>?_) (λcdv A outer s H vs Q E hr h'=>?_)
 ·obtain ⟨a,m,h,r,q,aw,ps,n,rs,bs,b,x,rfl,_⟩:=h'
  rfl
 ·obtain ⟨a,m,h,r,q,aw,ps,n,rs,bs,b,x,rfl,W,th,q⟩:=h'
  refine ⟨_,(Aa4 (Ab2 (Ac4 (Af0 (pv 0) rfl) S0.cl M1.m GM1 hr M1.b .nil Ac1 (Aa0 (pv 1) Aa3)))),?_⟩
  obtain ⟨dx,fs,ha,wf⟩:=W.ob
  obtain ⟨dm,hm⟩:=W.M.ob
  exact ⟨_,rfl,a,PL,dx,fs,_,rfl,ha,PC.cl,PC.nm,wf.mem,m,dm,flds h,rfl,hm,Ai8 h (by decide +kernel),_,rfl,m,h,ps,x,rfl,W.M,th,q⟩
theorem Cv7:Ab5 ["self","page","cell"] ["self","page","cell"] (Aa1 Aj4):=FSc
theorem Cq7 {f f1:Addr} {fd fd1:FuncData} (F:Fun K "word_at" "Plain.word_at" Aj4 f fd) (M1:Me K C "word_at" "Memory.word_at" An3 ["self","page","cell"] f1 fd1) (GM1:FnOk P w K mg base CX0 1 f1 fd1 ["self","page","cell"] (Aw9 C)) (S0:Sto K mg C NP NL NW NI) (PC:Plc K PL):FnOk P w K mg base CX0 2 f fd ["self","page","cell"] (Al4 C SC PL):=by
 refine F.ok Cv7 (λvs H Q E h'=>?_) (λcdv A outer s H vs Q E hr h'=>?_)
 ·obtain ⟨a,m,h,r,q,aw,ps,n,rs,bs,b,i,j,p,ws,rfl,_⟩:=h'
  rfl
 ·obtain ⟨a,m,h,r,q,aw,ps,n,rs,bs,b,i,j,p,ws,rfl,W,e,hj,q⟩:=h'
  refine ⟨_,(Aa4 (Ab2 (Ac4 (Af0 (pv 0) rfl) S0.cl M1.m GM1 hr M1.b .nil Ac1 (Aa0 (pv 1) (Aa0 (pv 2) Aa3))))),?_⟩
  obtain ⟨dx,fs,ha,wf⟩:=W.ob
  obtain ⟨dm,hm⟩:=W.M.ob
  exact ⟨_,rfl,a,PL,dx,fs,_,rfl,ha,PC.cl,PC.nm,wf.mem,m,dm,flds h,rfl,hm,Ai8 h (by decide +kernel),_,rfl,_,rfl,m,h,ps,i,j,p,ws,rfl,W.M,e,hj,q⟩
theorem Dc5:Ab5 ["self","page"] ["self","page"] (Aa1 An5):=FSc
theorem Cy8 {f f1:Addr} {fd fd1:FuncData} (F:Fun K "give_up" "Plain.give_up" An5 f fd) (M1:Me K C "give" "Memory.give" Bh6 ["self","page"] f1 fd1) (GM1:FnOk P w K mg base (CXr P w) 5 f1 fd1 ["self","page"] (Bu5 C NP)) (S0:Sto K mg C NP NL NW NI) (PC:Plc K PL):FnOk P w K mg base CX0 6 f fd ["self","page"] (Ax5 C SC PL):=by
 refine F.ok Dc5 (λvs H Q E h'=>?_) (λcdv A outer s H vs Q E hr h'=>?_)
 ·obtain ⟨a,m,h,r,q,aw,ps,n,rs,bs,b,i,rfl,_⟩:=h'
  rfl
 ·obtain ⟨a,m,h,r,q,aw,ps,n,rs,bs,b,i,rfl,W,hb,q⟩:=h'
  refine ⟨_,(Aa4 (Ad7 (Ac4 (Af0 (pv 0) rfl) S0.cl M1.m GM1 hr M1.b .nil Bb3 (Aa0 (pv 1) Aa3)))),?_⟩
  obtain ⟨dx,fs,ha,wf⟩:=W.ob
  obtain ⟨dm,hm⟩:=W.M.ob
  exact ⟨_,rfl,a,PL,dx,fs,_,rfl,ha,PC.cl,PC.nm,wf.mem,m,dm,flds h,rfl,hm,Ai8 h (by decide +kernel),_,rfl,m,h,ps,_,rfl,W.M,.int _,(λj ej hj _=>by obtain rfl:i=j:=(by have:=V.int.inj ej; omega); exact q),λz=>absurd (hb.symm.trans z) (by decide)⟩
theorem Cv9:Ab5 ["self","page"] ["self","page"] (Aa1 Bh9):=FSc
theorem Cs6 {f f1:Addr} {fd fd1:FuncData} (F:Fun K "come_back" "Plain.come_back" Bh9 f fd) (M1:Me K C "lay" "Memory.lay" sLay ["self","page","words"] f1 fd1) (GM1:FnOk P w K mg base (CXr P w) 5 f1 fd1 ["self","page","words"] (Cm8 C NP NW)) (S0:Sto K mg C NP NL NW NI) (PC:Plc K PL):FnOk P w K mg base CX0 6 f fd ["self","page"] (Bu8 C SC PL):=by
 obtain ⟨t2,m2⟩:=S0.cells
 refine F.ok Cv9 (λvs H Q E h'=>?_) (λcdv A outer s H vs Q E hr h'=>?_)
 ·obtain ⟨a,m,h,r,q,aw,ps,n,rs,bs,b,i,rfl,_⟩:=h'
  rfl
 ·obtain ⟨a,m,h,r,q,aw,ps,n,rs,bs,b,i,rfl,W,hi,q⟩:=h'
  refine ⟨_,(Aa4 (Ad7 (Ac4 (Af0 (pv 0) rfl) S0.cl M1.m GM1 hr M1.b .nil Bb3 (Aa0 (pv 1) (Aa0 (Ab9 Ck7 (Ag1 (Aa0 Aa5 Aa3)) (Ad6 (by rfl) m2 (show RelV (.int 8) (.int 8 t2) from ⟨_,rfl⟩))) Aa3))))),?_⟩
  obtain ⟨dx,fs,ha,wf⟩:=W.ob
  obtain ⟨dm,hm⟩:=W.M.ob
  refine ⟨_,rfl,a,PL,dx,fs,_,rfl,ha,PC.cl,PC.nm,wf.mem,m,dm,flds h,rfl,hm,Ai8 h (by decide +kernel),_,rfl,by show 1<=sizeLine; decide,λl1 hl1=>?_⟩
  have u1:=Aa6 (o:=.lst [V.int 0]) hl1
  refine ⟨l1,8,_,rfl,rfl,upd_same,by decide,by decide,(by show 1 * (8:Nat)<=sizeLine; decide),λp hp=>?_⟩
  have u2:=Aa6 (o:=.lst (List.replicate (8:Int).toNat [V.int 0]).flatten) hp
  have zp:upd (upd H l1 (.lst [V.int 0])) p (.lst (List.replicate (8:Int).toNat [V.int 0]).flatten) p=some (.lst (([0,0,0,0,0,0,0,0]:List Int).map V.int)):=upd_same.trans rfl
  have us:=u1.trans u2
  generalize upd (upd H l1 (.lst [V.int 0])) p (.lst (List.replicate (8:Int).toNat [V.int 0]).flatten)=H2 at *
  refine ⟨m,h,ps,_,_,rfl,W.M.same us,.int _,.inr (.inr ⟨i,p,_,rfl,hi,rfl,zp,rfl,λw hw=>?_,λl H3 s3 hl3=>q l H3 (us.trans s3) hl3⟩)⟩
  simp at hw
  omega
theorem Dc6:Ab5 ["self"] ["self"] (Aa1 sAsk):=FSc
theorem Cz2 {f:Addr} {fd:FuncData} (F:Fun K "ask_house" "Plain.ask_house" sAsk f fd) (PC:Plc K PL) (T:Txt K mg):FnOk P w K mg base CX0 1 f fd ["self"] (Cn3 C SC PL):=by
 refine F.ok Dc6 (λvs H Q E h'=>?_) (λcdv A outer s H vs Q E hr h'=>?_)
 ·obtain ⟨a,m,h,r,q,aw,ps,n,rs,bs,b,rfl,_⟩:=h'
  rfl
 ·obtain ⟨a,m,h,r,q,aw,ps,n,rs,bs,b,rfl,W,q1,q2⟩:=h'
  refine ⟨_,(Aa2 (Ac8 (Ab6 Ae4 (Ac9 Ad2 (by rfl) T.len PySem.boot_len (Aa0 (Af0 (pv 0) rfl) Aa3)) Aa5 (Ac0 _)) (Aa4 (Ab2 Ah7)) Ab0) (Aa4 (Ab2 (Bb2 PySem.F.plainAttrs_list PySem.F.slot_list_pop PySem.F.type_list_pop Bm9 (Af0 (pv 0) rfl) (Aa0 Aa5 Aa3))))),?_⟩
  obtain ⟨dx,fs,ha,wf⟩:=W.ob
  refine ⟨_,rfl,a,PL,dx,fs,_,rfl,ha,PC.cl,PC.na,wf.ans,aw,_,rfl,.inl (SqL.of W.an),rfl,_,rfl,?_⟩
  cases bs with
  | nil=>exact Ae7 rfl (q1 rfl)
  | cons b0 br =>
   refine Ac3 (decide_eq_false λz=>by have:=V.int.inj z; rw [List.length_map,List.length_cons] at this; omega) ?_
   exact ⟨_,rfl,a,PL,dx,fs,_,rfl,ha,PC.cl,PC.na,wf.ans,.inl ⟨rfl,_,SqL.of W.an⟩,aw,_,0,0,_,rfl,rfl,W.an,by decide,by decide,seq0 _,rfl,q2 b0 br rfl⟩
theorem Cn6:Ab5 ["self","page"] ["self","page"] (Aa1 At0):=FSc
theorem Cg0 {f f1 f2:Addr} {fd fd1 fd2:FuncData} (F:Fun K "give" "Ways.give" At0 f fd) (M1:Me K PL "has" "Plain.has" Ao5 ["self","page"] f1 fd1) (GM1:FnOk P w K mg base CX0 4 f1 fd1 ["self","page"] (Al5 C SC PL)) (M2:Me K PL "give_up" "Plain.give_up" An5 ["self","page"] f2 fd2) (GM2:FnOk P w K mg base CX0 6 f2 fd2 ["self","page"] (Ax5 C SC PL)) (PC:Plc K PL):FnOk P w K mg base CX0 7 f fd ["self","page"] (Be6 C SC PL):=by
 refine F.ok Cn6 (λvs H Q E h'=>?_) (λcdv A outer s H vs Q E hr h'=>?_)
 ·obtain ⟨a,m,h,r,q,aw,ps,n,rs,bs,b,x,rfl,_⟩:=h'
  rfl
 ·obtain ⟨a,m,h,r,q,aw,ps,n,rs,bs,b,x,rfl,W,th,q1,q2⟩:=h'
  have hr4:Room 4 _:=hr.mono (by decide)
  refine ⟨_,(Aa2 (Ac8 (Ae0 (Ad1 (Ac4 (pv 0) PC.cl M1.m GM1 hr4 M1.b .nil Ac1 (Aa0 (pv 1) Aa3)))) (Aa4 (Ab2 Ah7)) Ab0) (Aa2 (Ad7 (Ac4 (pv 0) PC.cl M2.m GM2 hr M2.b .nil Ac1 (Aa0 (pv 1) Aa3))) (Aa4 (Ab2 Ah7)))),?_⟩
  obtain ⟨dx,fs,ha,wf⟩:=W.ob
  refine ⟨_,rfl,a,dx,fs,rfl,ha,wf.nq _,_,rfl,a,m,h,r,q,aw,ps,n,rs,bs,b,x,rfl,W,th,_,rfl,?_⟩
  cases hb:hasP ps x with
  | false=>exact iteT (q1 hb)
  | true =>
   obtain ⟨i,p,ws,rfl,e⟩:=Ag4 hb
   exact iteF ⟨_,rfl,a,dx,fs,rfl,ha,wf.nq _,_,rfl,a,m,h,r,q,aw,ps,n,rs,bs,b,i,rfl,W,hb,q2 i rfl hb⟩
theorem Cv6:Ab5 ["self"] ["self"] (Aa1 Bg5):=FSc
theorem Cq4 {f:Addr} {fd:FuncData} (F:Fun K "root" "Ways.root" Bg5 f fd) (PC:Plc K PL):FnOk P w K mg base CX0 1 f fd ["self"] (Bt3 C SC PL):=by
 refine F.ok Cv6 (λvs H Q E h'=>?_) (λcdv A outer s H vs Q E hr h'=>?_)
 ·obtain ⟨a,m,h,r,q,aw,ps,n,rs,bs,b,rfl,_⟩:=h'
  rfl
 ·obtain ⟨a,m,h,r,q,aw,ps,n,rs,bs,b,rfl,W,q⟩:=h'
  refine ⟨_,(Aa4 (Ab2 (Af0 (pv 0) rfl))),?_⟩
  obtain ⟨dx,fs,ha,wf⟩:=W.ob
  exact ⟨_,rfl,a,PL,dx,fs,_,rfl,ha,PC.cl,PC.nb,wf.bas,q⟩
theorem Cn7:Ab5 ["self"] ["self"] (Aa1 At2):=FSc
theorem Cg7 {f f1:Addr} {fd fd1:FuncData} (F:Fun K "shelf" "Ways.shelf" At2 f fd) (M1:Me K SC "told" "Shelf.told" At3 ["self"] f1 fd1) (GM1:FnOk P w K mg base CX0 1 f1 fd1 ["self"] (Bf0 SC)) (PC:Plc K PL) (SS:Shf K mg SC):FnOk P w K mg base CX0 2 f fd ["self"] (Be9 C SC PL):=by
 refine F.ok Cn7 (λvs H Q E h'=>?_) (λcdv A outer s H vs Q E hr h'=>?_)
 ·obtain ⟨a,m,h,r,q,aw,ps,n,rs,bs,b,rfl,_⟩:=h'
  rfl
 ·obtain ⟨a,m,h,r,q,aw,ps,n,rs,bs,b,rfl,W,q⟩:=h'
  refine ⟨_,(Aa4 (Ab2 (Ag3 (Af0 (pv 0) rfl) SS.cl M1.m GM1 hr M1.b .nil Ac1))),?_⟩
  obtain ⟨dx,fs,ha,wf⟩:=W.ob
  obtain ⟨dr,fr,hr0,fo⟩:=W.S.ob
  exact ⟨_,rfl,a,PL,dx,fs,_,rfl,ha,PC.cl,PC.nr,wf.rck,r,dr,fr,rfl,hr0,fo.no _ (by decide +kernel) (by decide +kernel),r,_,n,rs,rfl,W.S,q⟩
theorem Cv5:Ab5 ["self","page"] ["self","page"] (Aa1 Bg0):=FSc
theorem Cp7 {f f1 f2 f3 f4 f5:Addr} {fd fd1 fd2 fd3 fd4 fd5:FuncData} (F:Fun K "want" "Ways.want" Bg0 f fd) (B:Dn K mg "is_below" Aj5 ["thing","bound"] f1 fd1) (GB:FnOk P w K mg base CX0 2 f1 fd1 ["thing","bound"] Aj9) (M1:Me K PL "size" "Plain.size" Aq7 ["self"] f2 fd2) (GM1:FnOk P w K mg base CX0 2 f2 fd2 ["self"] (Ax4 C SC PL)) (M2:Me K PL "has" "Plain.has" Ao5 ["self","page"] f3 fd3) (GM2:FnOk P w K mg base CX0 4 f3 fd3 ["self","page"] (Al5 C SC PL)) (M3:Me K PL "ask_house" "Plain.ask_house" sAsk ["self"] f4 fd4) (GM3:FnOk P w K mg base CX0 1 f4 fd4 ["self"] (Cn3 C SC PL)) (M4:Me K PL "come_back" "Plain.come_back" Bh9 ["self","page"] f5 fd5) (GM4:FnOk P w K mg base CX0 6 f5 fd5 ["self","page"] (Bu8 C SC PL)) (PC:Plc K PL):FnOk P w K mg base CX0 7 f fd ["self","page"] (Bs8 C SC PL):=by
 refine F.ok Cv5 (λvs H Q E h'=>?_) (λcdv A outer s H vs Q E hr h'=>?_)
 ·obtain ⟨a,m,h,r,q,aw,ps,n,rs,bs,b,x,rfl,_⟩:=h'
  rfl
 ·obtain ⟨a,m,h,r,q,aw,ps,n,rs,bs,b,x,rfl,W,th,q1,q2,q3⟩:=h'
  have hr4:Room 4 _:=hr.mono (by decide)
  have hr2:Room 2 _:=hr.mono (by decide)
  have hr1:Room 1 _:=hr.mono (by decide)
  refine ⟨_,(Aa2 (Ac8 (PW.pt (Al7 (Ae0 (Ad1 (Ab3 GB hr2 (by rfl) B.m B.F.kp B.b .nil Ac1 (Aa0 (pv 1) (Aa0 (Ag3 (pv 0) PC.cl M1.m GM1 hr2 M1.b .nil Ac1) Aa3))))) (Al7 (Ad1 (Ac4 (pv 0) PC.cl M2.m GM2 hr4 M2.b .nil Ac1 (Aa0 (pv 1) Aa3))) (Ai5 (Ae0 (Ad1 (Ag3 (pv 0) PC.cl M3.m GM3 hr1 M3.b .nil Ac1))))))) (Aa4 (Ab2 Ah7)) Ab0) (Aa2 (Ad7 (Ac4 (pv 0) PC.cl M4.m GM4 hr M4.b .nil Ac1 (Aa0 (pv 1) Aa3))) (Aa4 (Ab2 Ah7)))),?_⟩
  obtain ⟨dx,fs,ha,wf⟩:=W.ob
  refine ⟨_,rfl,_,rfl,a,dx,fs,rfl,ha,wf.nq _,a,m,h,r,q,aw,ps,n,rs,bs,b,rfl,W,x,_,rfl,th,_,rfl,?_⟩
  cases hb:Ag7 x ps.length with
  | false=>exact iteT (iteT (q1 (.inl hb)))
  | true =>
   refine iteF ⟨_,rfl,a,dx,fs,rfl,ha,wf.nq _,_,rfl,a,m,h,r,q,aw,ps,n,rs,bs,b,x,rfl,W,th,_,rfl,?_⟩
   cases hp:hasP ps x with
   | true=>exact iteT (iteT (q1 (.inr (.inl hp))))
   | false =>
    refine iteF ⟨_,rfl,a,dx,fs,rfl,ha,wf.nq _,a,m,h,r,q,aw,ps,n,rs,bs,b,rfl,W,λeb=>⟨_,rfl,iteT (q1 (.inr (.inr eb)))⟩,λb0 br eb=>⟨_,rfl,?_⟩⟩
    cases b0 with
    | false=>exact iteT (q2 hb hp br eb)
    | true =>
     refine iteF ?_
     obtain ⟨z,rfl,z0,z1⟩:=Ak2 hb
     obtain ⟨i,rfl⟩:∃ i:Nat,z=(i:Int):=⟨z.toNat,by omega⟩
     have W2:=W.ask br
     obtain ⟨dx2,fs2,ha2,wf2⟩:=W2.ob
     exact ⟨_,rfl,a,dx2,fs2,rfl,ha2,wf2.nq _,_,rfl,a,m,h,r,q,aw,ps,n,rs,br,b,i,rfl,W2,by omega,λl H3 s3 hl3=>q3 i br rfl (by omega) hp eb l H3 s3 hl3⟩
theorem ndWo:(Ar5 "cell" ["self","page"]).Nodup:=by decide +kernel
theorem De4:(".0":Str) ∉ (["self","page"]:List Str):=by decide +kernel
theorem Dc8:Ab5 ["self","page"] ["self","page"] (Aa1 As8):=FSc
theorem Cf8 {f f1:Addr} {fd fd1:FuncData} (F:Fun K "words_of" "Store.words_of" As8 f fd) (M1:Me K PL "word_at" "Plain.word_at" Aj4 ["self","page","cell"] f1 fd1) (GM1:FnOk P w K mg base CX0 2 f1 fd1 ["self","page","cell"] (Al4 C SC PL)) (S0:Sto K mg C NP NL NW NI) (PC:Plc K PL) (T:Txt K mg):FnOk P w K mg base CX0 3 f fd ["self","page"] (Aw8 C SC PL):=by
 obtain ⟨t2,m2⟩:=S0.cells
 refine F.ok Dc8 (λvs H Q E h'=>?_) (λcdv A outer s H vs Q E hr h'=>?_)
 ·obtain ⟨a,m,h,r,q,aw,ps,n,rs,bs,b,i,p,ws,rfl,_⟩:=h'
  rfl
 ·obtain ⟨a,m,h,r,q,aw,ps,n,rs,bs,b,i,p,ws,rfl,W,e,q0⟩:=h'
  refine ⟨_,(Aa4 (Ab2 (Ap9 (cl:=[("self",s.heap.objs.size+1),("page",s.heap.objs.size+1+1)]) (tc:=tYes) (te:=Bs4 PL "word_at" (Al4 C SC PL) [] E0 (tVar 1) (Ap6 (tVar 2) (Ap6 (tVar 0) tNil))) rfl (Ak1 (by rfl) T.rng (Aa0 (Ad6 (by rfl) m2 (show RelV (.int 8) (.int 8 t2) from ⟨_,rfl⟩)) Aa3)) rfl (by repeat' (first | exact trivial | refine ⟨.inl ⟨.inr rfl,rfl⟩,?_⟩ | refine ⟨.inl ⟨.inl rfl,rfl⟩,?_⟩ | refine ⟨.inr (.inl ⟨by decide,by decide,by decide⟩),?_⟩ | refine ⟨.inr (.inr ⟨rfl,by decide +kernel,by decide +kernel,rfl,rfl⟩),?_⟩)) (show ClOk _ _ from ⟨rfl,rfl,trivial⟩) (λC s₂ H₂ fp=>.nil) (λC s₂ H₂ fp=>(Ac4 (pv 1) PC.cl M1.m GM1 hr M1.b .nil Ac1 (Aa0 (pv 2) (Aa0 (pv 0) Aa3)))) ndWo (hdot:=De4)))),?_⟩
  have w8:ws.length=8:=(W.M.good i p ws e).1
  refine ⟨8,rfl,by decide,by decide,Av8 (lo:=0) (n:=8) (λD j ys H'=>H D=none/\Same H H'/\ys=(List.range j).map (λk=>V.int (ws.getD k 0))/\H' D=some (.lst ys)) ?_ ?_ ?_ ?_⟩
  ·exact λD hD=>⟨hD,Aa6 hD,rfl,upd_same⟩
  ·rintro D j ys H' _ ⟨_,_,_,e⟩
   exact e
  ·rintro D j ys H' hj ⟨hD,ss,rfl,e2⟩
   have ei:(0:Int)+(j:Int)=(j:Int):=by omega
   rw [ei]
   have W2:=W.same ss
   obtain ⟨dx,fs,ha,wf⟩:=W2.ob
   refine iteT ⟨_,rfl,a,dx,fs,rfl,ha,wf.nq _,_,rfl,_,rfl,a,m,h,r,q,aw,ps,n,rs,bs,b,i,j,p,ws,rfl,W2,e,hj,e2,(by rw [List.length_map,List.length_range]; exact Nat.lt_of_lt_of_le hj (by decide)),hD,ss.set hD,?_,upd_same⟩
   rw [List.range_succ,List.map_append]
   rfl
  ·rintro D ys H' ⟨hD,ss,rfl,e2⟩
   refine q0 D H' ss hD ?_
   rw [e2]
   have:(List.range 8).map (λk=>V.int (ws.getD k 0))=([ws.getD 0 0,ws.getD 1 0,ws.getD 2 0,ws.getD 3 0,ws.getD 4 0,ws.getD 5 0,ws.getD 6 0,ws.getD 7 0]:List Int).map V.int:=rfl
   rw [this,Ci9 w8]
theorem ndWp:(Ar5 "page" ["self"]).Nodup:=by decide +kernel
theorem De3:(".0":Str) ∉ (["self"]:List Str):=by decide +kernel
theorem Cd3:Ab5 ["self"] ["self"] (Aa1 An4):=FSc
theorem Bw9 {f f1 f2 f3:Addr} {fd fd1 fd2 fd3:FuncData} (F:Fun K "pages" "Ways.pages" An4 f fd) (M1:Me K PL "size" "Plain.size" Aq7 ["self"] f1 fd1) (GM1:FnOk P w K mg base CX0 2 f1 fd1 ["self"] (Ax4 C SC PL)) (M2:Me K PL "has" "Plain.has" Ao5 ["self","page"] f2 fd2) (GM2:FnOk P w K mg base CX0 4 f2 fd2 ["self","page"] (Al5 C SC PL)) (M3:Me K PL "words_of" "Store.words_of" As8 ["self","page"] f3 fd3) (GM3:FnOk P w K mg base CX0 3 f3 fd3 ["self","page"] (Aw8 C SC PL)) (PC:Plc K PL) (T:Txt K mg):FnOk P w K mg base CX0 5 f fd ["self"] (Ax1 C SC PL):=by
 refine F.ok Cd3 (λvs H Q E h'=>?_) (λcdv A outer s H vs Q E hr h'=>?_)
 ·obtain ⟨a,m,h,r,q,aw,ps,n,rs,bs,b,rfl,_⟩:=h'
  rfl
 ·obtain ⟨a,m,h,r,q,aw,ps,n,rs,bs,b,rfl,W,q0⟩:=h'
  have hr3:Room 3 _:=hr.mono (by decide)
  have hr2:Room 2 _:=hr.mono (by decide)
  refine ⟨_,(Aa4 (Ab2 (Ap9 (cl:=[("self",s.heap.objs.size+1)]) (tc:=tYes) (te:=tIf (tB (Bs4 PL "has" (Al5 C SC PL) [] E0 (tVar 1) (Ap6 (tVar 0) tNil))) (Bs4 PL "words_of" (Aw8 C SC PL) [] E0 (tVar 1) (Ap6 (tVar 0) tNil)) (tC .non)) rfl (Ak1 (by rfl) T.rng (Aa0 (Ag3 (pv 0) PC.cl M1.m GM1 hr2 M1.b .nil Ac1) Aa3)) rfl (by repeat' (first | exact trivial | refine ⟨.inl ⟨.inr rfl,rfl⟩,?_⟩ | refine ⟨.inl ⟨.inl rfl,rfl⟩,?_⟩ | refine ⟨.inr (.inl ⟨by decide,by decide,by decide⟩),?_⟩ | refine ⟨.inr (.inr ⟨rfl,by decide +kernel,by decide +kernel,rfl,rfl⟩),?_⟩)) (show ClOk _ _ from ⟨rfl,trivial⟩) (λC s₂ H₂ fp=>.nil) (λC s₂ H₂ fp=>(Ar8 (Ad1 (Ac4 (pv 1) PC.cl M2.m GM2 hr M2.b .nil Ac1 (Aa0 (pv 0) Aa3))) (Ac4 (pv 1) PC.cl M3.m GM3 hr3 M3.b .nil Ac1 (Aa0 (pv 0) Aa3)) Ae8)) ndWp (hdot:=De3)))),?_⟩
  obtain ⟨dx,fs,ha,wf⟩:=W.ob
  have hl:=W.M.len
  refine ⟨_,rfl,a,dx,fs,rfl,ha,wf.nq _,a,m,h,r,q,aw,ps,n,rs,bs,b,rfl,W,(ps.length:Int),rfl,by omega,by omega,?_⟩
  rw [Int.toNat_natCast]
  refine Av8 (lo:=0) (n:=ps.length) (λD i ys H'=>∃ qs:Pgs,H D=none/\Same H H'/\Pg H' D qs/\ys=qs.map pgV/\qs.length=i/\cont qs=(cont ps).take i/\(∀ b,At D qs b->H b=none)) ?_ ?_ ?_ ?_
  ·intro D hD
   refine ⟨[],hD,Aa6 hD,⟨upd_same,λi p ws e=>by simp at e,λi j p ws ws' e=>by simp at e⟩,rfl,rfl,rfl,λb hb=>?_⟩
   rcases hb with rfl | ⟨i,ws,e⟩
   ·exact hD
   ·simp at e
  ·rintro D i ys H' _ ⟨qs,_,ss,g,rfl,_⟩
   exact g.top
  ·rintro D i ys H' hi ⟨qs,hD,ss,gq,rfl,hql,hc,hf⟩
   have ei:(0:Int)+(i:Int)=(i:Int):=by omega
   rw [ei]
   have W2:=W.same ss
   obtain ⟨dx,fs,ha,wf⟩:=W2.ob
   have eo:ps[i]?=some ps[i]:=List.getElem?_eq_getElem hi
   have sl:i<sizeLine:=Nat.lt_of_lt_of_le (show i<1001 by omega) (by decide)
   have tk:(cont ps).take (i+1)=(cont ps).take i++[(ps[i]).map (·.2)]:=by
    have:(cont ps)[i]?=some ((ps[i]).map (·.2)):=by unfold cont; rw [List.getElem?_map,eo]; rfl
    rw [List.take_add_one,this]
    rfl
   refine iteT ⟨_,rfl,a,dx,fs,rfl,ha,wf.nq _,_,rfl,a,m,h,r,q,aw,ps,n,rs,bs,b,_,rfl,W2,.int _,_,rfl,?_⟩
   cases ep:ps[i] with
   | none =>
    rw [ep] at eo tk
    refine Ac3 (by show hasP ps (.int (i:Int))=false; simp [hasP,eo,Af4]) ⟨gq.top,(by rw [List.length_map,hql]; exact sl),qs++[none],hD,ss.set hD,gq.app (o:=none) (Same.refl _) (λq ws e=>by cases e),by rw [List.map_append]; rfl,by rw [List.length_append,hql]; rfl,by rw [tk,<- hc]; unfold cont; rw [List.map_append]; rfl,λb hb=>?_⟩
    rcases hb.app with z | ⟨ws,z⟩
    ·exact hf b z
    ·cases z
   | some t =>
    obtain ⟨pt,wt⟩:=t
    rw [ep] at eo tk
    refine Ae7 (Au8 eo) ⟨_,rfl,a,dx,fs,rfl,ha,wf.nq _,_,rfl,a,m,h,r,q,aw,ps,n,rs,bs,b,i,pt,wt,rfl,W2,eo,λl H2 s2 fl hl2=>?_⟩
    have hn:∀ (q:Addr) (ws:List Int),some (l,wt)=some (q,ws)->H2 q=some (.lst (ws.map V.int))/\H' q=none:=λq ws e=>by
     cases e
     exact ⟨hl2,fl⟩
    refine ⟨s2 _ _ gq.top,(by rw [List.length_map,hql]; exact sl),qs++[some (l,wt)],hD,(ss.trans s2).set hD,gq.app s2 hn,by rw [List.map_append]; rfl,by rw [List.length_append,hql]; rfl,?_,λb hb=>?_⟩
    ·rw [tk,<- hc]
     unfold cont
     rw [List.map_append]
     rfl
    ·rcases hb.app with z | ⟨ws,z⟩
     ·exact hf b z
     ·cases z
      exact ss.free fl
  ·rintro D ys H' ⟨qs,hD,ss,gq,rfl,hql,hc,hf⟩
   refine q0 D H' qs ss gq ?_ hf
   rw [hc,List.take_of_length_le]
   unfold cont
   rw [List.length_map]
   exact Nat.le_refl _
theorem Cn5:Ab5 ["self","most"] ["self","most"] (Aa1 Av3):=FSc
theorem Cf9 {f f1:Addr} {fd fd1:FuncData} (F:Fun K "__init__" "Ways.__init__" Av3 f fd) (MK:Mk K SC f1) (mS:mg "Shelf"=some (.ref SC)) (BI:Binds K fd1 ["self","most"] []) (GI:FnOk P w K mg base CX0 2 f1 fd1 ["self","most"] (Bf1 SC)) (PC:Plc K PL):FnOk P w K mg base CX0 4 f fd ["self","most"] (Be5 SC PL):=by
 refine F.ok Cn5 (λvs H Q E h'=>?_) (λcdv A outer s H vs Q E hr h'=>?_)
 ·obtain ⟨a,dx,fs,n,rfl,_⟩:=h'
  rfl
 ·obtain ⟨a,dx,fs,n,rfl,ha,hl,n1,n2,q0⟩:=h'
  refine ⟨_,(Aa2 (Ap0 (pv 0) Aa5 rfl) (Aa4 (Ap0 (pv 0) (Bi5 MK GI hr (by rfl) mS BI .nil Ac1 (Aa0 (pv 1) Aa3)) rfl))),?_⟩
  refine ⟨_,rfl,a,PL,dx,fs,rfl,ha,PC.cl,PC.nb,(by omega),?_⟩
  have za:upd H a (.ins PL dx (putF "base" (.int 0) fs)) a=some (.ins PL dx (putF "base" (.int 0) fs)):=upd_same
  have ka:∀ b o,H b=some o->b≠a->upd H a (.ins PL dx (putF "base" (.int 0) fs)) b=some o:=λb o e z=>by rw [Aa7 z]; exact e
  have fa:∀ b,upd H a (.ins PL dx (putF "base" (.int 0) fs)) b=none->b≠a/\H b=none:=λb e=>by
   have z:b≠a:=λz=>by rw [z,upd_same] at e; cases e
   rw [Aa7 z] at e
   exact ⟨z,e⟩
  generalize upd H a (.ins PL dx (putF "base" (.int 0) fs))=H1 at *
  refine ⟨_,rfl,λr dr hr0 hdr ner=>?_⟩
  have s0:Same H1 (upd (upd H1 dr (.own r)) r (.ins SC dr [])):=(Aa6 hdr).trans (Aa6 (by rw [Aa7 ner.symm]; exact hr0))
  refine ⟨r,dr,n,rfl,upd_same,n1,n2,λq H2 b2 fq sh2=>⟨rfl,?_⟩⟩
  obtain ⟨ra,fr⟩:=fa r hr0
  obtain ⟨qa,fq⟩:=fa q (s0.free fq)
  have ha2:=b2 a _ ra.symm (s0 _ _ za)
  refine ⟨_,rfl,a,PL,dx,_,rfl,ha2,PC.cl,PC.nr,(by have:=Af2 "base" (.int 0) fs; omega),?_⟩
  exact q0 r q _ (λb o z e=>by rw [Aa7 z]; exact b2 b o (Ac7 e fr) (s0 _ _ (ka b o e z))) fr fq upd_same (sh2.but But.upd ra qa λxs z=>by rw [ha2] at z; cases z)
theorem Dd1:Ab5 ["self","pages","most","words"] ["self","pages","most","words"] (Aa1 Av5):=FSc
theorem Bx2 {f f1 f2:Addr} {fd fd1 fd2:FuncData} (F:Fun K "__init__" "Plain.__init__" Av5 f fd) (MK:Mk K C f1) (mM:mg "Memory"=some (.ref C)) (BI:Binds K fd1 ["self","pages"] []) (GI:FnOk P w K mg base (CXr P w) 6 f1 fd1 ["self","pages"] (Bu4 C)) (CM:Db3 K WC "__init__" f2) (mW:mg "Ways"=some (.ref WC)) (BW:Binds K fd2 ["self","most"] []) (GW:FnOk P w K mg base CX0 4 f2 fd2 ["self","most"] (Be5 SC PL)) (PC:Plc K PL) (T:Txt K mg):FnOk P w K mg base CX0 8 f fd ["self","pages","most","words"] (Bf3 C SC PL):=by
 refine F.ok Dd1 (λvs H Q E h'=>?_) (λcdv A outer s H vs Q E hr h'=>?_)
 ·obtain ⟨a,dx,p,l,ps,n,bs,rfl,_⟩:=h'
  rfl
 ·obtain ⟨a,dx,p,l,ps,n,bs,rfl,ha,gp,hg,l1,l2,n1,n2,hl,q0⟩:=h'
  have hr4:Room 4 _:=hr.mono (by decide)
  refine ⟨_,(Aa2 (Ap0 (pv 0) (Bi5 MK GI hr (by rfl) mM BI .nil Bb3 (Aa0 (pv 1) Aa3)) rfl) (Aa2 (Ad7 (Cf1 GW hr4 (by rfl) mW CM BW .nil Ac1 (Aa0 (pv 0) (Aa0 (pv 2) Aa3)))) (Aa4 (Ap0 (pv 0) (Ah5 Ag6 (by rfl) T.lst PyProof.Rows.boot_list (Aa0 (pv 3) Aa3)) rfl)))),?_⟩
  refine ⟨_,rfl,λm dm hm0 hdm nem=>?_⟩
  have s0:Same H (upd (upd H dm (.own m)) m (.ins C dm [])):=(Aa6 hdm).trans (Aa6 (by rw [Aa7 nem.symm]; exact hm0))
  refine ⟨m,dm,p,ps,rfl,upd_same,gp.same s0,hg,l1,l2,λh H2 qs b2 M2 hc hf=>⟨rfl,?_⟩⟩
  have k2:∀ b o,H b=some o->H2 b=some o:=λb o e=>b2 b o (Ac7 e hm0) (s0 _ _ e)
  have f2:∀ b,H2 b=none->H b=none:=λb e=>by
   cases hb:H b with
   | none=>rfl
   | some o=>rw [k2 b o hb] at e; cases e
  have am:m≠a:=(Ac7 ha hm0).symm
  have ah:¬ At h qs a:=λz=>by have:=s0.free (hf a z); rw [ha] at this; cases this
  refine ⟨_,rfl,a,PL,dx,_,rfl,k2 _ _ ha,PC.cl,PC.nm,(by show 0<1000; decide),?_⟩
  have za:upd H2 a (.ins PL dx (putF "memory" (.ref m) [])) a=some (.ins PL dx (putF "memory" (.ref m) [])):=upd_same
  have ka:∀ b o,H2 b=some o->b≠a->upd H2 a (.ins PL dx (putF "memory" (.ref m) [])) b=some o:=λb o e z=>by rw [Aa7 z]; exact e
  have fa:∀ b,upd H2 a (.ins PL dx (putF "memory" (.ref m) [])) b=none->b≠a/\H2 b=none:=λb e=>by
   have z:b≠a:=λz=>by rw [z,upd_same] at e; cases e
   rw [Aa7 z] at e
   exact ⟨z,e⟩
  generalize upd H2 a (.ins PL dx (putF "memory" (.ref m) []))=H3 at *
  have f1l:(putF "memory" (.ref m) ([]:List (Str×V))).length<=1:=Af2 _ _ _
  refine ⟨_,rfl,_,rfl,a,dx,_,n,rfl,za,(by omega),n1,n2,λr q H4 b4 fr fq ha4 sh4=>?_⟩
  obtain ⟨ra,fr2⟩:=fa r fr
  obtain ⟨qa,fq2⟩:=fa q fq
  have k4:∀ b o,H2 b=some o->b≠a->H4 b=some o:=λb o e z=>b4 b o z (ka b o e z)
  have la:l≠a:=Af1 hl ha nofun
  refine ⟨_,rfl,l,_,rfl,.inl (SqL.of (k4 l _ (k2 _ _ hl) la)),λaw haw=>?_⟩
  have s5:=Aa6 (o:=.lst (bs.map V.bl)) haw
  have z5:upd H4 aw (.lst (bs.map V.bl)) aw=some (.lst (bs.map V.bl)):=upd_same
  generalize upd H4 aw (.lst (bs.map V.bl))=H5 at *
  have aaw:aw≠a:=(Ac7 ha4 haw).symm
  have faw:H aw=none:=by
   cases hb:H aw with
   | none=>rfl
   | some o=>rw [k4 aw o (k2 _ _ hb) aaw] at haw; cases haw
  have f2l:=Af2 "base" (.int 0) (putF "memory" (.ref m) ([]:List (Str×V)))
  have f3l:=Af2 "rack" (.ref r) (putF "base" (.int 0) (putF "memory" (.ref m) ([]:List (Str×V))))
  refine ⟨_,rfl,a,PL,dx,_,rfl,s5 _ _ ha4,PC.cl,PC.na,(by omega),?_⟩
  have kM:∀ b o,H2 b=some o->b≠a->upd H5 a (.ins PL dx (putF "answers" (.ref aw) (putF "rack" (.ref r) (putF "base" (.int 0) (putF "memory" (.ref m) []))))) b=some o:=λb o e z=>by rw [Aa7 z]; exact s5 _ _ (k4 b o e z)
  obtain ⟨dm2,em2⟩:=M2.ob
  refine q0 m h r q aw _ qs (λb o z e=>kM b o (k2 _ _ e) z) ⟨⟨dx,_,upd_same,⟨?_,?_,?_,?_,λg z1 z2 z3 z4=>?_,?_⟩⟩,⟨⟨dm2,kM m _ em2 am⟩,M2.pg.keep λb hb=>?_,M2.good,M2.len⟩,(sh4.same s5).but But.upd ra qa (λxs z=>by rw [s5 _ _ ha4] at z; cases z),by rw [Aa7 aaw]; exact z5,λz=>?_⟩ hc λb hb=>?_
  ·rw [Ab7,if_neg (by decide +kernel),Ab7,if_neg (by decide +kernel),Ab7,if_neg (by decide +kernel),Ab7,if_pos rfl]
  ·rw [Ab7,if_neg (by decide +kernel),Ab7,if_neg (by decide +kernel),Ab7,if_pos rfl]
  ·rw [Ab7,if_neg (by decide +kernel),Ab7,if_pos rfl]
  ·rw [Ab7,if_pos rfl]
  ·rw [Ab7,if_neg z4,Ab7,if_neg z3,Ab7,if_neg z2,Ab7,if_neg z1]
   rfl
  ·have f4l:=Af2 "answers" (.ref aw) (putF "rack" (.ref r) (putF "base" (.int 0) (putF "memory" (.ref m) ([]:List (Str×V)))))
   omega
  ·obtain ⟨u,y⟩:=M2.pg.at hb
   rw [y]
   exact kM b u y λz=>ah (z ▸ hb)
  ·obtain ⟨u,y⟩:=M2.pg.at z
   rw [k4 aw u y aaw] at haw
   cases haw
  ·rcases hb with rfl | rfl | rfl | rfl | hb
   ·exact hm0
   ·exact f2 _ fr2
   ·exact f2 _ fq2
   ·exact faw
   ·exact s0.free (hf b hb)
end
end K28
end
section
namespace K28
open PySem L2
abbrev Bg9:Stmt:=Ab1 (top 48) 4
abbrev sFI:Stmt:=Ab1 (top 14) 0
abbrev sCkb:Stmt:=Ab1 (top 47) 11
abbrev Bg8:Stmt:=Ab1 (top 47) 9
abbrev Bg7:Stmt:=Ab1 (top 47) 10
theorem Way.setW {C SC PL:Addr} {H:Hp} {a m h r q aw:Addr} {ps:Pgs} {n:Int} {rs:Rs} {bs:List Bool} {b:Int} {i j:Nat} {v:Int} {p:Addr} {ws:List Int} (w:Way C SC PL H a m h r q aw ps n rs bs b) (e:ps[i]?=some (some (p,ws))) (w0:0<=v) (w1:v<281474976710656) :
  Way C SC PL (upd H p (.lst ((ws.map V.int).set j (.int v)))) a m h r q aw (setW ps i j v) n rs bs b:=by
 obtain ⟨dx,fs,ea,f⟩:=w.ob
 obtain ⟨dr,fr,er,_⟩:=w.S.ob
 obtain ⟨kvs,eq,_⟩:=w.S.se
 have ep:=(w.M.pg.each i p ws e).1
 have na:aw≠p:=λz=>w.nd (z ▸ .inr ⟨i,ws,e⟩)
 exact ⟨⟨dx,fs,by rw [Aa7 (Af1 ea ep nofun)]; exact ea,f⟩,w.M.setW e w0 w1,w.S.but But.upd (Af1 er ep nofun) (Af1 eq ep nofun) (λxs z=>by rw [ep] at z; cases z),by rw [Aa7 na]; exact w.an,λz=>w.nd z.setW⟩
def Bt7 (C SC PL:Addr):Sp:=λvs H Q _=>∃ (a m h r q aw:Addr) (ps:Pgs) (n:Int) (rs:Rs) (bs:List Bool) (b:Int) (i j:Nat) (v:Int) (p:Addr) (ws:List Int),vs=[.ref a,.int i,.int j,.int v]/\Way C SC PL H a m h r q aw ps n rs bs b/\ps[i]?=some (some (p,ws))/\j<8/\Q .non (upd H p (.lst ((ws.map V.int).set j (.int v))))
def Ax2 (C SC PL NP:Addr):Sp:=λvs H Q E=>∃ (a m h r q aw:Addr) (ps:Pgs) (n:Int) (rs:Rs) (bs:List Bool) (b:Int) (x:V),vs=[.ref a,x]/\Way C SC PL H a m h r q aw ps n rs bs b/\Th H x/\(hasP ps x=true->Q .non H)/\(hasP ps x=false->E (.ref NP) none H)
def Ax0 (C SC PL NP NL:Addr):Sp:=λvs H Q E=>∃ (a m h r q aw:Addr) (ps:Pgs) (n:Int) (rs:Rs) (bs:List Bool) (b:Int) (x y:V),vs=[.ref a,x,y]/\Way C SC PL H a m h r q aw ps n rs bs b/\Th H x/\Th H y/\(hasP ps x=true->Ag7 y 8=true->Q .non H)/\(hasP ps x=false->E (.ref NP) none H)/\(hasP ps x=true->Ag7 y 8=false->E (.ref NL) none H)
def Ap7 (C SC PL NP NL:Addr):Sp:=λvs H Q E=>∃ (a m h r q aw:Addr) (ps:Pgs) (n:Int) (rs:Rs) (bs:List Bool) (b:Int) (x y:V),vs=[.ref a,x,y]/\Way C SC PL H a m h r q aw ps n rs bs b/\Th H x/\Th H y /\
 (∀ (i j:Nat) (p:Addr) (ws:List Int),x=.int i->y=.int j->ps[i]?=some (some (p,ws))->j<8->Q (.int (ws.getD j 0)) H)/\(hasP ps x=false->E (.ref NP) none H)/\(hasP ps x=true->Ag7 y 8=false->E (.ref NL) none H)
def An9 (C SC PL NP NL NW:Addr):Sp:=λvs H Q E=>∃ (a m h r q aw:Addr) (ps:Pgs) (n:Int) (rs:Rs) (bs:List Bool) (b:Int) (x y z:V),vs=[.ref a,x,y,z]/\Way C SC PL H a m h r q aw ps n rs bs b/\Th H x/\Th H y/\Th H z /\
 (∀ (i j:Nat) (v:Int) (p:Addr) (ws:List Int),x=.int i->y=.int j->z=.int v->ps[i]?=some (some (p,ws))->j<8->0<=v->v<281474976710656->Q .non (upd H p (.lst ((ws.map V.int).set j (.int v))))) /\
 (hasP ps x=false->E (.ref NP) none H)/\(hasP ps x=true->Ag7 y 8=false->E (.ref NL) none H)/\(hasP ps x=true->Ag7 y 8=true->Ag7 z 281474976710656=false->E (.ref NW) none H)
structure Flt (K:PySem.W.Frag) (mg:Str->Option Value) (FA fI:Addr):Prop where
 x:XCls K FA
 nk:NoAttr K FA "kind"
 np:NoAttr K FA "place"
 nl:NoAttr K FA "level"
 ex:excInI K FA fI=true
 fn:PySem.W.isFn K (.ref fI)=true
 m:mg "Fault"=some (.ref FA)
def ffF:List V->List (Str×V)
 | [x,y,z]=>putF "level" z (putF "place" y [("kind",x)])
 | _=>[]
theorem Bn3 (x y z:V):(ffF [x,y,z]).lookup ("kind":Str)=some x:=by
 unfold ffF
 rw [Ab7,if_neg (by decide +kernel),Ab7,if_neg (by decide +kernel)]
 rfl
theorem Bd2 (x y z:V):(ffF [x,y,z]).lookup ("place":Str)=some y:=by
 unfold ffF
 rw [Ab7,if_neg (by decide +kernel),Ab7,if_pos rfl]
theorem Bd3 (x y z:V):(ffF [x,y,z]).lookup ("level":Str)=some z:=by
 unfold ffF
 rw [Ab7,if_pos rfl]
def ExF (FA:Addr) (E:XK) (H:Hp) (k:Str) (pl lv:Int):Prop:=∀ d,H d=none->E (.ref FA) (some d) (upd H d (xdo d (ffF [.str k,.int pl,.int lv])))
def Cd2 (C SC PL FA:Addr):Sp:=λvs H Q E=>∃ (a m h r q aw:Addr) (ps:Pgs) (n:Int) (rs:Rs) (bs:List Bool) (b:Int) (sp:Nat),vs=[.ref a,.int sp]/\Way C SC PL H a m h r q aw ps n rs bs b/\(hasP ps (.int ((sp:Int) / 8))=true->Q .non H)/\(hasP ps (.int ((sp:Int) / 8))=false->ExF FA E H "beyond" sp 0)
def Bt6 (C SC PL FA:Addr):Sp:=λvs H Q E=>∃ (a m h r q aw:Addr) (ps:Pgs) (n:Int) (rs:Rs) (bs:List Bool) (b:Int) (sp:Nat),vs=[.ref a,.int sp]/\Way C SC PL H a m h r q aw ps n rs bs b/\(∀ (p:Addr) (ws:List Int),ps[sp / 8]?=some (some (p,ws))->Q (.int (ws.getD (sp % 8) 0)) H)/\(hasP ps (.int ((sp:Int) / 8))=false->ExF FA E H "beyond" sp 0)
def Bt5 (C SC PL FA:Addr):Sp:=λvs H Q E=>∃ (a m h r q aw:Addr) (ps:Pgs) (n:Int) (rs:Rs) (bs:List Bool) (b:Int) (sp:Nat) (v:Int),vs=[.ref a,.int sp,.int v]/\Way C SC PL H a m h r q aw ps n rs bs b/\0<=v/\v<281474976710656/\(∀ (p:Addr) (ws:List Int),ps[sp / 8]?=some (some (p,ws))->Q .non (upd H p (.lst ((ws.map V.int).set (sp % 8) (.int v)))))/\(hasP ps (.int ((sp:Int) / 8))=false->ExF FA E H "beyond" sp 0)
section
variable {P : Program} {w : World} {K : PySem.W.Frag} {mg : Str → Option Value} {base : Heap} {C NP NL NW NI SC PL WC FA : Addr}
theorem Co1:Ab5 ["self","page","cell","word"] ["self","page","cell","word"] (Aa1 Bg9):=FSc
theorem Cq9 {f f1:Addr} {fd fd1:FuncData} (F:Fun K "put_word" "Plain.put_word" Bg9 f fd) (M1:Me K C "put_word" "Memory.put_word" Ak5 ["self","page","cell","word"] f1 fd1) (GM1:FnOk P w K mg base CX0 1 f1 fd1 ["self","page","cell","word"] (As6 C)) (S0:Sto K mg C NP NL NW NI) (PC:Plc K PL):FnOk P w K mg base CX0 2 f fd ["self","page","cell","word"] (Bt7 C SC PL):=by
 refine F.ok Co1 (λvs H Q E h'=>?_) (λcdv A outer s H vs Q E hr h'=>?_)
 ·obtain ⟨a,m,h,r,q,aw,ps,n,rs,bs,b,i,j,v,p,ws,rfl,_⟩:=h'
  rfl
 ·obtain ⟨a,m,h,r,q,aw,ps,n,rs,bs,b,i,j,v,p,ws,rfl,W,e,hj,q⟩:=h'
  refine ⟨_,(Aa4 (Ad7 (Ac4 (Af0 (pv 0) rfl) S0.cl M1.m GM1 hr M1.b .nil Ac1 (Aa0 (pv 1) (Aa0 (pv 2) (Aa0 (pv 3) Aa3)))))),?_⟩
  obtain ⟨dx,fs,ha,wf⟩:=W.ob
  obtain ⟨dm,hm⟩:=W.M.ob
  exact ⟨_,rfl,a,PL,dx,fs,_,rfl,ha,PC.cl,PC.nm,wf.mem,m,dm,flds h,rfl,hm,Ai8 h (by decide +kernel),_,rfl,_,rfl,_,rfl,m,h,ps,i,j,v,p,ws,rfl,W.M,e,hj,q⟩
theorem Bv5:Ab5 ["self","page"] ["self","page"] (Aa1 Am8):=FSc
theorem Bx1 {f f1:Addr} {fd fd1:FuncData} (F:Fun K "check_page" "Store.check_page" Am8 f fd) (M1:Me K PL "has" "Plain.has" Ao5 ["self","page"] f1 fd1) (GM1:FnOk P w K mg base CX0 4 f1 fd1 ["self","page"] (Al5 C SC PL)) (S0:Sto K mg C NP NL NW NI) (PC:Plc K PL):FnOk P w K mg base (CXr P w) 5 f fd ["self","page"] (Ax2 C SC PL NP):=by
 refine F.okR Bv5 (λvs H Q E h'=>?_) (λcdv A outer s H vs Q E hr h'=>?_)
 ·obtain ⟨a,m,h,r,q,aw,ps,n,rs,bs,b,x,rfl,_⟩:=h'
  rfl
 ·obtain ⟨a,m,h,r,q,aw,ps,n,rs,bs,b,x,rfl,W,th,q0,e⟩:=h'
  refine ⟨_,(Aa4 (Ac8 (Ae0 (Ad1 (Ac4 (pv 0) PC.cl M1.m GM1 hr M1.b .nil Ac1 (Aa0 (pv 1) Aa3)))) (Aa4 (Aj6 S0.xp S0.np Al6 rfl (Aa0 Ab8 Aa3))) Ab0)),?_⟩
  obtain ⟨dx,fs,ha,wf⟩:=W.ob
  refine ⟨_,rfl,a,dx,fs,rfl,ha,wf.nq _,_,rfl,a,m,h,r,q,aw,ps,n,rs,bs,b,x,rfl,W,th,_,rfl,?_⟩
  cases hb:hasP ps x with
  | false=>exact iteT ⟨by decide,e hb⟩
  | true=>exact iteF (q0 hb)
theorem Cd4:Ab5 ["self","page","cell"] ["self","page","cell"] (Aa1 Ba5):=FSc
theorem Cf6 {f f1 f2:Addr} {fd fd1 fd2:FuncData} (F:Fun K "check_spot" "Store.check_spot" Ba5 f fd) (B:Dn K mg "is_below" Aj5 ["thing","bound"] f1 fd1) (GB:FnOk P w K mg base CX0 2 f1 fd1 ["thing","bound"] Aj9) (M1:Me K PL "check_page" "Store.check_page" Am8 ["self","page"] f2 fd2) (GM1:FnOk P w K mg base (CXr P w) 5 f2 fd2 ["self","page"] (Ax2 C SC PL NP)) (S0:Sto K mg C NP NL NW NI) (PC:Plc K PL):FnOk P w K mg base (CXr P w) 6 f fd ["self","page","cell"] (Ax0 C SC PL NP NL):=by
 obtain ⟨t2,m2⟩:=S0.cells
 refine F.okR Cd4 (λvs H Q E h'=>?_) (λcdv A outer s H vs Q E hr h'=>?_)
 ·obtain ⟨a,m,h,r,q,aw,ps,n,rs,bs,b,x,y,rfl,_⟩:=h'
  rfl
 ·obtain ⟨a,m,h,r,q,aw,ps,n,rs,bs,b,x,y,rfl,W,th,ty,q0,e1,e2⟩:=h'
  have hr2:Room 2 _:=hr.mono (by decide)
  refine ⟨_,(Aa2 (Ad7 (Ac4 (pv 0) PC.cl M1.m GM1 hr M1.b .nil Ah8 (Aa0 (pv 1) Aa3))) (Aa4 (Ac8 (Ae0 (Ad1 (Ab3 GB hr2 (by rfl) B.m B.F.kp B.b .nil Ac1 (Aa0 (pv 2) (Aa0 (Ad6 (by rfl) m2 (show RelV (.int 8) (.int 8 t2) from ⟨_,rfl⟩)) Aa3))))) (Aa4 (Aj6 S0.xl S0.nl Al6 rfl (Aa0 Ab8 Aa3))) Ab0))),?_⟩
  obtain ⟨dx,fs,ha,wf⟩:=W.ob
  refine ⟨_,rfl,a,dx,fs,rfl,ha,wf.nq _,_,rfl,a,m,h,r,q,aw,ps,n,rs,bs,b,x,rfl,W,th,λhb=>?_,e1⟩
  refine ⟨_,rfl,y,_,rfl,ty,_,rfl,?_⟩
  cases hc:Ag7 y 8 with
  | false=>exact iteT ⟨by decide,e2 hb hc⟩
  | true=>exact iteF (q0 hb hc)
theorem Cd5:Ab5 ["self","page","cell"] ["self","page","cell"] (Aa1 Av1):=FSc
theorem Cf7 {f f1 f2:Addr} {fd fd1 fd2:FuncData} (F:Fun K "read" "Store.read" Av1 f fd) (M1:Me K PL "check_spot" "Store.check_spot" Ba5 ["self","page","cell"] f1 fd1) (GM1:FnOk P w K mg base (CXr P w) 6 f1 fd1 ["self","page","cell"] (Ax0 C SC PL NP NL)) (M2:Me K PL "word_at" "Plain.word_at" Aj4 ["self","page","cell"] f2 fd2) (GM2:FnOk P w K mg base CX0 2 f2 fd2 ["self","page","cell"] (Al4 C SC PL)) (PC:Plc K PL):FnOk P w K mg base (CXr P w) 7 f fd ["self","page","cell"] (Ap7 C SC PL NP NL):=by
 refine F.okR Cd5 (λvs H Q E h'=>?_) (λcdv A outer s H vs Q E hr h'=>?_)
 ·obtain ⟨a,m,h,r,q,aw,ps,n,rs,bs,b,x,y,rfl,_⟩:=h'
  rfl
 ·obtain ⟨a,m,h,r,q,aw,ps,n,rs,bs,b,x,y,rfl,W,th,ty,q0,e1,e2⟩:=h'
  have hr2:Room 2 _:=hr.mono (by decide)
  refine ⟨_,(Aa2 (Ad7 (Ac4 (pv 0) PC.cl M1.m GM1 hr M1.b .nil Ah8 (Aa0 (pv 1) (Aa0 (pv 2) Aa3)))) (Aa4 (Ab2 (Ac4 (pv 0) PC.cl M2.m GM2 hr2 M2.b .nil Ac1 (Aa0 (pv 1) (Aa0 (pv 2) Aa3)))))),?_⟩
  obtain ⟨dx,fs,ha,wf⟩:=W.ob
  refine ⟨_,rfl,a,dx,fs,rfl,ha,wf.nq _,_,rfl,_,rfl,a,m,h,r,q,aw,ps,n,rs,bs,b,x,y,rfl,W,th,ty,λhb hc=>?_,e1,e2⟩
  obtain ⟨i,p,ws,rfl,e⟩:=Ag4 hb
  obtain ⟨j,rfl,j0,j1⟩:=Ak2 hc
  obtain ⟨n1,rfl⟩:∃ n:Nat,j=(n:Int):=⟨j.toNat,by omega⟩
  exact ⟨_,rfl,a,dx,fs,rfl,ha,wf.nq _,_,rfl,_,rfl,a,m,h,r,q,aw,ps,n,rs,bs,b,i,n1,p,ws,rfl,W,e,(by omega),q0 i n1 p ws rfl rfl e (by omega)⟩
theorem Bv4:Ab5 ["self","page","cell","word"] ["self","page","cell","word"] (Aa1 Ao0):=FSc
theorem Bw8 {f f1 f2 f3:Addr} {fd fd1 fd2 fd3:FuncData} (F:Fun K "write" "Store.write" Ao0 f fd) (M1:Me K PL "check_spot" "Store.check_spot" Ba5 ["self","page","cell"] f1 fd1) (GM1:FnOk P w K mg base (CXr P w) 6 f1 fd1 ["self","page","cell"] (Ax0 C SC PL NP NL)) (B:Dn K mg "check_word" Aq8 ["word"] f3 fd3) (GB:FnOk P w K mg base (CXr P w) 4 f3 fd3 ["word"] (Ax8 NW)) (M2:Me K PL "put_word" "Plain.put_word" Bg9 ["self","page","cell","word"] f2 fd2) (GM2:FnOk P w K mg base CX0 2 f2 fd2 ["self","page","cell","word"] (Bt7 C SC PL)) (PC:Plc K PL):FnOk P w K mg base (CXr P w) 7 f fd ["self","page","cell","word"] (An9 C SC PL NP NL NW):=by
 refine F.okR Bv4 (λvs H Q E h'=>?_) (λcdv A outer s H vs Q E hr h'=>?_)
 ·obtain ⟨a,m,h,r,q,aw,ps,n,rs,bs,b,x,y,z,rfl,_⟩:=h'
  rfl
 ·obtain ⟨a,m,h,r,q,aw,ps,n,rs,bs,b,x,y,z,rfl,W,th,ty,tz,q0,e1,e2,e3⟩:=h'
  have hr4:Room 4 _:=hr.mono (by decide)
  have hr2:Room 2 _:=hr.mono (by decide)
  refine ⟨_,(Aa2 (Ad7 (Ac4 (pv 0) PC.cl M1.m GM1 hr M1.b .nil Ah8 (Aa0 (pv 1) (Aa0 (pv 2) Aa3)))) (Aa2 (Ad7 (Ab3 GB hr4 (by rfl) B.m B.F.kp B.b .nil Ah8 (Aa0 (pv 3) Aa3))) (Aa4 (Ad7 (Ac4 (pv 0) PC.cl M2.m GM2 hr2 M2.b .nil Ac1 (Aa0 (pv 1) (Aa0 (pv 2) (Aa0 (pv 3) Aa3)))))))),?_⟩
  obtain ⟨dx,fs,ha,wf⟩:=W.ob
  refine ⟨_,rfl,a,dx,fs,rfl,ha,wf.nq _,_,rfl,_,rfl,a,m,h,r,q,aw,ps,n,rs,bs,b,x,y,rfl,W,th,ty,λhb hc=>?_,e1,e2⟩
  refine ⟨_,rfl,z,rfl,tz,λhd=>?_,λhd=>e3 hb hc hd⟩
  obtain ⟨i,p,ws,rfl,e⟩:=Ag4 hb
  obtain ⟨j,rfl,j0,j1⟩:=Ak2 hc
  obtain ⟨n1,rfl⟩:∃ n:Nat,j=(n:Int):=⟨j.toNat,by omega⟩
  obtain ⟨v,rfl,v0,v1⟩:=Ak2 hd
  exact ⟨_,rfl,a,dx,fs,rfl,ha,wf.nq _,_,rfl,_,rfl,_,rfl,a,m,h,r,q,aw,ps,n,rs,bs,b,i,n1,v,p,ws,rfl,W,e,(by omega),q0 i n1 v p ws rfl rfl rfl e (by omega) v0 v1⟩
theorem Dc7:Ab5 ["self","kind","place","level"] ["self","kind","place","level"] (Aa1 sFI):=FSc
theorem Ch4 {f fI:Addr} {fd:FuncData} (F:Fun K "__init__" "Fault.__init__" sFI f fd) (FL:Flt K mg FA fI):FnOk P w K mg base CX0 1 f fd ["self","kind","place","level"] (spXI FA 3 ffF):=by
 refine F.ok Dc7 (λvs H Q E h'=>?_) (λcdv A outer s H vs Q E hr h'=>?_)
 ·obtain ⟨e,t,xs,rfl,hl,_⟩:=h'
  simp [hl]
 ·obtain ⟨e,t,xs,rfl,hl,he,q⟩:=h'
  match xs,hl,q with
  | [x,y,z],_,q =>
  refine ⟨_,Aa2 (Cw8 (pv 0) (pv 1) rfl) (Aa2 (Cw9 (pv 0) (pv 2) rfl) (Aa4 (Cw9 (pv 0) (pv 3) rfl))),?_⟩
  refine ⟨_,rfl,_,rfl,e,FA,t,rfl,he,FL.x,FL.nk,λd H' d1 d2 d3 d4 d5=>?_⟩
  have l1:=Af2 "place" y [(("kind":Str),x)]
  refine ⟨_,rfl,_,rfl,e,FA,t,d,_,rfl,d3,d4,FL.x,FL.np,(by show 1<1000; decide),?_⟩
  refine ⟨_,rfl,_,rfl,e,FA,t,d,_,rfl,by rw [Aa7 d2.symm]; exact d3,upd_same,FL.x,FL.nl,(by rw [List.length_cons,List.length_nil] at l1; omega),?_⟩
  refine q d _ d1 d2 (by rw [Aa7 d2.symm,Aa7 d2.symm]; exact d3) (by rw [upd_same]; rfl) λb b1 b2=>?_
  rw [Aa7 b2,Aa7 b2]
  exact d5 b b1 b2
theorem Cw2:Ab5 ["self","spot"] ["self","spot"] (Aa1 sCkb):=FSc
theorem Cz0 {f f1 fI:Addr} {fd fd1 fdI:FuncData} (F:Fun K "check_beyond" "Ways.check_beyond" sCkb f fd) (M1:Me K PL "has" "Plain.has" Ao5 ["self","page"] f1 fd1) (GM1:FnOk P w K mg base CX0 4 f1 fd1 ["self","page"] (Al5 C SC PL)) (FL:Flt K mg FA fI) (GF:FnOk P w K mg base CX0 1 fI fdI ["self","kind","place","level"] (spXI FA 3 ffF)) (BF:Binds K fdI ["self","kind","place","level"] []) (S0:Sto K mg C NP NL NW NI) (PC:Plc K PL):FnOk P w K mg base (CXr P w) 5 f fd ["self","spot"] (Cd2 C SC PL FA):=by
 obtain ⟨t2,m2⟩:=S0.cells
 refine F.okR Cw2 (λvs H Q E h'=>?_) (λcdv A outer s H vs Q E hr h'=>?_)
 ·obtain ⟨a,m,h,r,q,aw,ps,n,rs,bs,b,sp,rfl,_⟩:=h'
  rfl
 ·obtain ⟨a,m,h,r,q,aw,ps,n,rs,bs,b,sp,rfl,W,q0,e⟩:=h'
  have hr2:Room 2 _:=hr.mono (by decide)
  refine ⟨_,(Aa4 (Ac8 (Ae0 (Ad1 (Ac4 (pv 0) PC.cl M1.m GM1 hr M1.b .nil Ac1 (Aa0 (Ab9 Ad9 (pv 1) (Ad6 (by rfl) m2 (show RelV (.int 8) (.int 8 t2) from ⟨_,rfl⟩))) Aa3)))) (Aa4 (Ai6 FL.ex FL.fn FL.m Ak8 rfl GF hr2 BF (by decide) (Aa0 Ab8 (Aa0 (pv 1) (Aa0 Aa5 Aa3))))) Ab0)),?_⟩
  obtain ⟨dx,fs,ha,wf⟩:=W.ob
  refine ⟨_,rfl,a,dx,fs,rfl,ha,wf.nq _,_,rfl,(sp:Int),8,rfl,rfl,⟨by decide,by decide⟩,a,m,h,r,q,aw,ps,n,rs,bs,b,_,rfl,W,.int _,_,rfl,?_⟩
  cases hb:hasP ps (.int ((sp:Int) / 8)) with
  | false=>exact iteT ⟨_,rfl,rfl,λd hd=>e hb d hd⟩
  | true=>exact iteF (q0 hb)
theorem Co4:Ab5 ["self","spot"] ["self","spot"] (Aa1 Bg8):=FSc
theorem Cr3 {f f1 f2:Addr} {fd fd1 fd2:FuncData} (F:Fun K "peek" "Ways.peek" Bg8 f fd) (M1:Me K PL "check_beyond" "Ways.check_beyond" sCkb ["self","spot"] f1 fd1) (GM1:FnOk P w K mg base (CXr P w) 5 f1 fd1 ["self","spot"] (Cd2 C SC PL FA)) (M2:Me K PL "read" "Store.read" Av1 ["self","page","cell"] f2 fd2) (GM2:FnOk P w K mg base (CXr P w) 7 f2 fd2 ["self","page","cell"] (Ap7 C SC PL NP NL)) (S0:Sto K mg C NP NL NW NI) (PC:Plc K PL):FnOk P w K mg base (CXr P w) 8 f fd ["self","spot"] (Bt6 C SC PL FA):=by
 obtain ⟨t2,m2⟩:=S0.cells
 refine F.okR Co4 (λvs H Q E h'=>?_) (λcdv A outer s H vs Q E hr h'=>?_)
 ·obtain ⟨a,m,h,r,q,aw,ps,n,rs,bs,b,sp,rfl,_⟩:=h'
  rfl
 ·obtain ⟨a,m,h,r,q,aw,ps,n,rs,bs,b,sp,rfl,W,q0,e⟩:=h'
  have hr5:Room 5 _:=hr.mono (by decide)
  refine ⟨_,(Aa2 (Ad7 (Ac4 (pv 0) PC.cl M1.m GM1 hr5 M1.b .nil Ah8 (Aa0 (pv 1) Aa3))) (Aa4 (Ab2 (Ac4 (pv 0) PC.cl M2.m GM2 hr M2.b .nil Ah8 (Aa0 (Ab9 Ad9 (pv 1) (Ad6 (by rfl) m2 (show RelV (.int 8) (.int 8 t2) from ⟨_,rfl⟩))) (Aa0 (Ab9 Ad0 (pv 1) (Ad6 (by rfl) m2 (show RelV (.int 8) (.int 8 t2) from ⟨_,rfl⟩))) Aa3)))))),?_⟩
  obtain ⟨dx,fs,ha,wf⟩:=W.ob
  refine ⟨_,rfl,a,dx,fs,rfl,ha,wf.nq _,_,rfl,a,m,h,r,q,aw,ps,n,rs,bs,b,sp,rfl,W,λhb=>?_,e⟩
  obtain ⟨i,p,ws,ei,ep⟩:=Ag4 hb
  have ei':sp / 8=i:=by have:=V.int.inj ei; omega
  subst ei'
  refine ⟨_,rfl,a,dx,fs,rfl,ha,wf.nq _,_,rfl,(sp:Int),8,rfl,rfl,⟨by decide,by decide⟩,_,rfl,(sp:Int),8,rfl,rfl,(by show (0:Int)<8; decide),  a,m,h,r,q,aw,ps,n,rs,bs,b,_,_,rfl,W,.int _,.int _,λi j p2 ws2 e1 e2 e3 hj=>?_,λz=>absurd (hb.symm.trans z) (by decide),λ_ z=>absurd ((Ae3 (by omega) (by omega)).symm.trans z) (by decide)⟩
  have e1':sp / 8=i:=by have:=V.int.inj e1; omega
  have e2':sp % 8=j:=by have:=V.int.inj e2; omega
  subst e1'
  subst e2'
  exact q0 p2 ws2 e3
theorem Co2:Ab5 ["self","spot","word"] ["self","spot","word"] (Aa1 Bg7):=FSc
theorem Cr0 {f f1 f2:Addr} {fd fd1 fd2:FuncData} (F:Fun K "poke" "Ways.poke" Bg7 f fd) (M1:Me K PL "check_beyond" "Ways.check_beyond" sCkb ["self","spot"] f1 fd1) (GM1:FnOk P w K mg base (CXr P w) 5 f1 fd1 ["self","spot"] (Cd2 C SC PL FA)) (M2:Me K PL "write" "Store.write" Ao0 ["self","page","cell","word"] f2 fd2) (GM2:FnOk P w K mg base (CXr P w) 7 f2 fd2 ["self","page","cell","word"] (An9 C SC PL NP NL NW)) (S0:Sto K mg C NP NL NW NI) (PC:Plc K PL):FnOk P w K mg base (CXr P w) 8 f fd ["self","spot","word"] (Bt5 C SC PL FA):=by
 obtain ⟨t2,m2⟩:=S0.cells
 refine F.okR Co2 (λvs H Q E h'=>?_) (λcdv A outer s H vs Q E hr h'=>?_)
 ·obtain ⟨a,m,h,r,q,aw,ps,n,rs,bs,b,sp,v,rfl,_⟩:=h'
  rfl
 ·obtain ⟨a,m,h,r,q,aw,ps,n,rs,bs,b,sp,v,rfl,W,v0,v1,q0,e⟩:=h'
  have hr5:Room 5 _:=hr.mono (by decide)
  refine ⟨_,(Aa2 (Ad7 (Ac4 (pv 0) PC.cl M1.m GM1 hr5 M1.b .nil Ah8 (Aa0 (pv 1) Aa3))) (Aa4 (Ad7 (Ac4 (pv 0) PC.cl M2.m GM2 hr M2.b .nil Ah8 (Aa0 (Ab9 Ad9 (pv 1) (Ad6 (by rfl) m2 (show RelV (.int 8) (.int 8 t2) from ⟨_,rfl⟩))) (Aa0 (Ab9 Ad0 (pv 1) (Ad6 (by rfl) m2 (show RelV (.int 8) (.int 8 t2) from ⟨_,rfl⟩))) (Aa0 (pv 2) Aa3))))))),?_⟩
  obtain ⟨dx,fs,ha,wf⟩:=W.ob
  refine ⟨_,rfl,a,dx,fs,rfl,ha,wf.nq _,_,rfl,a,m,h,r,q,aw,ps,n,rs,bs,b,sp,rfl,W,λhb=>?_,e⟩
  obtain ⟨i,p,ws,ei,ep⟩:=Ag4 hb
  have ei':sp / 8=i:=by have:=V.int.inj ei; omega
  subst ei'
  refine ⟨_,rfl,a,dx,fs,rfl,ha,wf.nq _,_,rfl,(sp:Int),8,rfl,rfl,⟨by decide,by decide⟩,_,rfl,(sp:Int),8,rfl,rfl,(by show (0:Int)<8; decide),  _,rfl,a,m,h,r,q,aw,ps,n,rs,bs,b,_,_,_,rfl,W,.int _,.int _,.int _,λi j v2 p2 ws2 e1 e2 e4 e3 hj _ _=>?_,λz=>absurd (hb.symm.trans z) (by decide),λ_ z=>absurd ((Ae3 (by omega) (by omega)).symm.trans z) (by decide),λ_ _ z=>absurd ((Ae3 v0 v1).symm.trans z) (by decide)⟩
  have e1':sp / 8=i:=by have:=V.int.inj e1; omega
  have e2':sp % 8=j:=by have:=V.int.inj e2; omega
  subst e1'
  subst e2'
  cases e4
  exact q0 p2 ws2 e3
end
end K28
end
section
namespace K28
open PySem L2
abbrev Ba7:Stmt:=top 36
abbrev Ay4:Stmt:=top 37
abbrev Ay3:Stmt:=top 38
abbrev sRig:Stmt:=top 42
abbrev Bh3:Stmt:=top 45
abbrev sNum:Stmt:=top 21
abbrev Ao4:Stmt:=top 20
abbrev Bi0:Stmt:=top 41
abbrev Bh1:Stmt:=top 40
theorem Cf4 (r m:Nat):Builtin.bitOr (r:Int) (m:Int)=((r ||| m:Nat):Int):=by
 unfold Builtin.bitOr
 rw [PyProof.Rows.bitAnd_nn (by unfold Builtin.bitNot; omega) (by unfold Builtin.bitNot; omega)]
 unfold Builtin.bitNot
 have e1:(-(-(r:Int) - 1) - 1).toNat=r:=by omega
 have e2:(-(-(m:Int) - 1) - 1).toNat=m:=by omega
 first
  | (rw [e1,e2]; omega)
  | (simp only [e1,e2]; omega)
theorem Aw3 (r m:Nat):Builtin.bitAnd (r:Int) (m:Int)=((r &&& m:Nat):Int):=by
 rw [PyProof.Rows.bitAnd_pp (by omega) (by omega),Int.toNat_natCast,Int.toNat_natCast]
structure Rws0 (K:PySem.W.Frag) (mg:Str->Option Value):Prop where
 mm:∃ t,mg "MARKS"=some (.int 256 t)
 pa:∃ t,mg "PARTS"=some (.int 8 t)
 pl:∃ t,mg "PLACES"=some (.int 512 t)
 pr:∃ t,mg "PRESENT"=some (.int 1 t)
 wr:∃ t,mg "WRITABLE"=some (.int 2 t)
 ke:∃ t,mg "KERNEL"=some (.int 4 t)
 to:∃ t,mg "TOUCHED"=some (.int 8 t)
 so:∃ t,mg "SOILED"=some (.int 16 t)
def hasN (w m:Nat):Bool:=decide (w &&& m=m)
def rigN (t l:Nat):Nat:=(t &&& l &&& 2) ||| ((t ||| l) &&& 4) ||| (l &&& 16)
def letN (r:Nat) (wr k:Bool):Bool:=!(hasN r 4 && !k) && (!wr || hasN r 18)
def Ad8 (ps:Pgs) (i j:Nat):Nat:=((((ps[i]?).getD none).map λ(q:Addr×List Int)=>q.2).getD []).getD j 0 |>.toNat
def Ag2 (ps:Pgs) (w:Nat) (wr k:Bool):Option Str :=
 if hasN w 1=false then some "absent" else if hasP ps (.int ((w / 256:Nat):Int))=false then some "beyond" else if (hasN w 4 && !k)=true then some "kernel" else if (wr && !hasN w 2)=true then some "fixed" else none
theorem Ah4 {ps:Pgs} {i j:Nat} {p:Addr} {ws:List Int} (e:ps[i]?=some (some (p,ws))) (h0:0<=ws.getD j 0):ws.getD j 0=((Ad8 ps i j:Nat):Int):=by
 unfold Ad8
 rw [e]
 show ws.getD j 0=(((ws.getD j 0).toNat:Nat):Int)
 omega
def Bl7:Sp:=λvs H Q _=>∃ w:Nat,vs=[.int w]/\Q (.int ((w / 256:Nat):Int)) H
def Ba2:Sp:=λvs H Q _=>∃ w m:Nat,vs=[.int w,.int m]/\Q (.bl (hasN w m)) H
def Ba1:Sp:=λvs H Q _=>∃ w m:Nat,vs=[.int w,.int m]/\Q (.int ((w ||| m:Nat):Int)) H
def Cm4:Sp:=λvs H Q _=>∃ t l:Nat,vs=[.int t,.int l]/\Q (.int ((rigN t l:Nat):Int)) H
def Bu1:Sp:=λvs H Q _=>∃ (r:Nat) (wr k:Bool),vs=[.int r,.bl wr,.bl k]/\Q (.bl (letN r wr k)) H
def Bp6:Sp:=λvs H Q _=>∃ p:Nat,vs=[.int p]/\p<512/\Q (.int ((p / 8:Nat):Int)) H
def As7:Sp:=λvs H Q _=>∃ p:Nat,vs=[.int p]/\p<512/\∀ t,H t=none->Q (.ref t) (upd H t (.tup [.int ((p / 8 / 8:Nat):Int),.int ((p / 8 % 8:Nat):Int),.int ((p % 8:Nat):Int)]))
def Bu9 (C SC PL FA:Addr):Sp:=λvs H Q E=>∃ (a m h r q aw:Addr) (ps:Pgs) (n:Int) (rs:Rs) (bs:List Bool) (b:Int) (w:Nat) (wr k:Bool) (pl lv:Int),vs=[.ref a,.int w,.bl wr,.bl k,.int pl,.int lv]/\Way C SC PL H a m h r q aw ps n rs bs b/\(Ag2 ps w wr k=none->Q .non H)/\∀ z,Ag2 ps w wr k=some z->ExF FA E H z pl lv
section
variable {P : Program} {w : World} {K : PySem.W.Frag} {mg : Str → Option Value} {base : Heap} {C NP NL NW NI SC PL WC FA : Addr}
theorem Co3:Ab5 ["row"] ["row"] (Aa1 Ba7):=FSc
theorem Cr2 {f:Addr} {fd:FuncData} (F:Fun K "page_of" "page_of" Ba7 f fd) (R:Rws0 K mg):FnOk P w K mg base CX0 1 f fd ["row"] Bl7:=by
 obtain ⟨t_mm,c_mm⟩:=R.mm
 refine F.ok Co3 (λvs H Q E h'=>?_) (λcdv A outer s H vs Q E hr h'=>?_)
 ·obtain ⟨w,rfl,_⟩:=h'
  rfl
 ·obtain ⟨w,rfl,q⟩:=h'
  refine ⟨_,(Aa4 (Ab2 (Ab9 Ad9 (pv 0) (Ad6 (by rfl) c_mm (show RelV (.int 256) (.int 256 t_mm) from ⟨_,rfl⟩))))),?_⟩
  exact ⟨_,rfl,(w:Int),256,rfl,rfl,⟨by decide,by decide⟩,q⟩
theorem Co0:Ab5 ["row","marks"] ["row","marks"] (Aa1 Ay4):=FSc
theorem Cq5 {f:Addr} {fd:FuncData} (F:Fun K "has" "has" Ay4 f fd) (R:Rws0 K mg):FnOk P w K mg base CX0 1 f fd ["row","marks"] Ba2:=by
 refine F.ok Co0 (λvs H Q E h'=>?_) (λcdv A outer s H vs Q E hr h'=>?_)
 ·obtain ⟨w,m,rfl,_⟩:=h'
  rfl
 ·obtain ⟨w,m,rfl,q⟩:=h'
  refine ⟨_,(Aa4 (Ab2 (Af6 Ae4 (Ab9 Bb6 (pv 0) (pv 1)) (pv 1) (Ac0 _)))),?_⟩
  refine ⟨_,rfl,_,rfl,(w:Int),(m:Int),rfl,rfl,_,rfl,rfl,?_⟩
  have e:∀ i:Decidable (V.int (Builtin.bitAnd (w:Int) (m:Int))=V.int (m:Int)),@decide _ i=hasN w m:=λi=>by
   unfold hasN
   rcases i with h | h
   ·exact (decide_eq_false λz=>h (by rw [Aw3,z])).symm
   ·refine (decide_eq_true ?_).symm
    have z:=V.int.inj h
    rw [Aw3] at z
    omega
  dsimp only
  rw [e]
  exact q
theorem Cn9:Ab5 ["row","marks"] ["row","marks"] (Aa1 Ay3):=FSc
theorem Cq3 {f:Addr} {fd:FuncData} (F:Fun K "put" "put" Ay3 f fd) (R:Rws0 K mg):FnOk P w K mg base CX0 1 f fd ["row","marks"] Ba1:=by
 refine F.ok Cn9 (λvs H Q E h'=>?_) (λcdv A outer s H vs Q E hr h'=>?_)
 ·obtain ⟨w,m,rfl,_⟩:=h'
  rfl
 ·obtain ⟨w,m,rfl,q⟩:=h'
  refine ⟨_,(Aa4 (Ab2 (Ab9 Cf5 (pv 0) (pv 1)))),?_⟩
  refine ⟨_,rfl,_,rfl,(w:Int),(m:Int),rfl,rfl,?_⟩
  dsimp only
  rw [Cf4]
  exact q
theorem Cw0:Ab5 ["top_row","low_row"] ["top_row","low_row"] (Aa1 sRig):=FSc
theorem Cx7 {f:Addr} {fd:FuncData} (F:Fun K "rights_of" "rights_of" sRig f fd) (R:Rws0 K mg):FnOk P w K mg base CX0 1 f fd ["top_row","low_row"] Cm4:=by
 obtain ⟨t_wr,c_wr⟩:=R.wr
 obtain ⟨t_ke,c_ke⟩:=R.ke
 obtain ⟨t_so,c_so⟩:=R.so
 refine F.ok Cw0 (λvs H Q E h'=>?_) (λcdv A outer s H vs Q E hr h'=>?_)
 ·obtain ⟨t,l,rfl,_⟩:=h'
  rfl
 ·obtain ⟨t,l,rfl,q⟩:=h'
  refine ⟨_,(Aa4 (Ab2 (Ab9 Cf5 (Ab9 Cf5 (Ab9 Bb6 (Ab9 Bb6 (pv 0) (pv 1)) (Ad6 (by rfl) c_wr (show RelV (.int 2) (.int 2 t_wr) from ⟨_,rfl⟩))) (Ab9 Bb6 (Ab9 Cf5 (pv 0) (pv 1)) (Ad6 (by rfl) c_ke (show RelV (.int 4) (.int 4 t_ke) from ⟨_,rfl⟩)))) (Ab9 Bb6 (pv 1) (Ad6 (by rfl) c_so (show RelV (.int 16) (.int 16 t_so) from ⟨_,rfl⟩)))))),?_⟩
  refine ⟨_,rfl,_,rfl,(t:Int),(l:Int),rfl,rfl,_,2,rfl,rfl,_,rfl,_,rfl,(t:Int),(l:Int),rfl,rfl,_,4,rfl,rfl,_,_,rfl,rfl,_,rfl,(l:Int),16,rfl,rfl,_,_,rfl,rfl,?_⟩
  dsimp only
  rw [Aw3,Cf4,show (2:Int)=((2:Nat):Int) from rfl,show (4:Int)=((4:Nat):Int) from rfl,show (16:Int)=((16:Nat):Int) from rfl,Aw3,Aw3,Aw3,Cf4,Cf4]
  exact q
theorem Co6:Ab5 ["rights","write","kernel"] ["rights","write","kernel"] (Aa1 Bh3):=FSc
theorem Cr7 {f f1 f2:Addr} {fd fd1 fd2:FuncData} (F:Fun K "lets" "lets" Bh3 f fd) (Ba:Dn K mg "has" Ay4 ["row","marks"] f1 fd1) (GBa:FnOk P w K mg base CX0 1 f1 fd1 ["row","marks"] Ba2) (Bb:Dn K mg "put" Ay3 ["row","marks"] f2 fd2) (GBb:FnOk P w K mg base CX0 1 f2 fd2 ["row","marks"] Ba1) (R:Rws0 K mg):FnOk P w K mg base CX0 2 f fd ["rights","write","kernel"] Bu1:=by
 obtain ⟨t_ke,c_ke⟩:=R.ke
 obtain ⟨t_wr,c_wr⟩:=R.wr
 obtain ⟨t_so,c_so⟩:=R.so
 refine F.ok Co6 (λvs H Q E h'=>?_) (λcdv A outer s H vs Q E hr h'=>?_)
 ·obtain ⟨r,wr,k,rfl,_⟩:=h'
  rfl
 ·obtain ⟨r,wr,k,rfl,q⟩:=h'
  refine ⟨_,(Aa2 (Ac8 (PW.pt (Ah1 (Ad1 (Ab3 GBa hr (by rfl) Ba.m Ba.F.kp Ba.b .nil Ac1 (Aa0 (pv 0) (Aa0 (Ad6 (by rfl) c_ke (show RelV (.int 4) (.int 4 t_ke) from ⟨_,rfl⟩)) Aa3)))) (Af8 (Ae0 (Ad1 (pv 2)))))) (Aa4 (Ab2 Ah7)) Ab0) (Aa4 (Ab2 (Dd5 (Bw3 (pv 1)) (Al9 (Ab3 GBa hr (by rfl) Ba.m Ba.F.kp Ba.b .nil Ac1 (Aa0 (pv 0) (Aa0 (Ab3 GBb hr (by rfl) Bb.m Bb.F.kp Bb.b .nil Ac1 (Aa0 (Ad6 (by rfl) c_wr (show RelV (.int 2) (.int 2 t_wr) from ⟨_,rfl⟩)) (Aa0 (Ad6 (by rfl) c_so (show RelV (.int 16) (.int 16 t_so) from ⟨_,rfl⟩)) Aa3))) Aa3)))))))),?_⟩
  refine ⟨_,rfl,r,4,rfl,_,rfl,?_⟩
  unfold letN at q
  have e18:((2 ||| 16:Nat))=18:=rfl
  have rest:∀ {t:Prop},t->t:=λz=>z
  cases h4:hasN r 4 with
  | false =>
   rw [h4] at q
   refine iteF ⟨_,rfl,_,rfl,_,rfl,?_⟩
   cases wr with
   | false=>exact iteT q
   | true=>exact iteF ⟨_,rfl,2,16,rfl,r,18,rfl,q⟩
  | true =>
   rw [h4] at q
   refine iteT ⟨_,rfl,_,rfl,?_⟩
   cases k with
   | false=>exact iteT q
   | true =>
    refine iteF ⟨_,rfl,_,rfl,_,rfl,?_⟩
    cases wr with
    | false=>exact iteT q
    | true=>exact iteF ⟨_,rfl,2,16,rfl,r,18,rfl,q⟩
theorem Cw1:Ab5 ["place"] ["place"] (Aa1 sNum):=FSc
theorem Cy1 {f f1:Addr} {fd fd1:FuncData} (F:Fun K "number_of" "number_of" sNum f fd) (B:Dn K mg "is_below" Aj5 ["thing","bound"] f1 fd1) (GB:FnOk P w K mg base CX0 2 f1 fd1 ["thing","bound"] Aj9) (R:Rws0 K mg):FnOk P w K mg base CX0 3 f fd ["place"] Bp6:=by
 obtain ⟨t_pl,c_pl⟩:=R.pl
 obtain ⟨t_pa,c_pa⟩:=R.pa
 refine F.ok Cw1 (λvs H Q E h'=>?_) (λcdv A outer s H vs Q E hr h'=>?_)
 ·obtain ⟨p,rfl,_⟩:=h'
  rfl
 ·obtain ⟨p,rfl,hp,q⟩:=h'
  refine ⟨_,(Aa2 (Ac8 (Ae0 (Ad1 (Ab3 GB hr (by rfl) B.m B.F.kp B.b .nil Ac1 (Aa0 (pv 0) (Aa0 (Ad6 (by rfl) c_pl (show RelV (.int 512) (.int 512 t_pl) from ⟨_,rfl⟩)) Aa3))))) (Aa4 Ce4) Ab0) (Aa4 (Ab2 (Ab9 Ad9 (pv 0) (Ad6 (by rfl) c_pa (show RelV (.int 8) (.int 8 t_pa) from ⟨_,rfl⟩)))))),?_⟩
  refine ⟨_,rfl,_,_,rfl,.int _,_,rfl,?_⟩
  rw [Ae3 (by omega) (by omega)]
  exact iteF ⟨_,rfl,(p:Int),8,rfl,rfl,⟨by decide,by decide⟩,q⟩
theorem sc_parts:Ab5 ["place","number"] ["place"] (Aa1 Ao4):=FSc
theorem Ch1 {f f1:Addr} {fd fd1:FuncData} (F:Fun K "parts_of" "parts_of" Ao4 f fd) (B:Dn K mg "number_of" sNum ["place"] f1 fd1) (GB:FnOk P w K mg base CX0 3 f1 fd1 ["place"] Bp6) (R:Rws0 K mg):FnOk P w K mg base CX0 4 f fd ["place"] As7:=by
 obtain ⟨t_pa,c_pa⟩:=R.pa
 refine F.ok sc_parts (λvs H Q E h'=>?_) (λcdv A outer s H vs Q E hr h'=>?_)
 ·obtain ⟨p,rfl,_⟩:=h'
  rfl
 ·obtain ⟨p,rfl,hp,q⟩:=h'
  refine ⟨_,(Aa2 (Ac5 (i:=1) sc_parts.nd rfl (Or.inl rfl) (Ab3 GB hr (by rfl) B.m B.F.kp B.b .nil Ac1 (Aa0 (pv 0) Aa3))) (Aa4 (Ab2 (Af5 (Aa0 (Ab9 Ad9 (pv 1) (Ad6 (by rfl) c_pa (show RelV (.int 8) (.int 8 t_pa) from ⟨_,rfl⟩))) (Aa0 (Ab9 Ad0 (pv 1) (Ad6 (by rfl) c_pa (show RelV (.int 8) (.int 8 t_pa) from ⟨_,rfl⟩))) (Aa0 (Ab9 Ad0 (pv 0) (Ad6 (by rfl) c_pa (show RelV (.int 8) (.int 8 t_pa) from ⟨_,rfl⟩))) Aa3))))))),?_⟩
  refine ⟨_,rfl,p,rfl,hp,?_⟩
  refine ⟨_,rfl,((p / 8:Nat):Int),8,rfl,rfl,⟨by decide,by decide⟩,_,rfl,((p / 8:Nat):Int),8,rfl,rfl,(by show (0:Int)<8; decide),_,rfl,(p:Int),8,rfl,rfl,(by show (0:Int)<8; decide),by show 3<=sizeLine; decide,λt ht=>?_⟩
  exact q t ht
end
end K28
end
section
namespace K28
open PySem L2
theorem Aa8 {X:Cx} {e:Expr} {es:List Expr} {te:TE} {t:TA} (h1:PE X e te) (h2:PA X es t) (hs:∀ (l:List Expr) (env:Env),starEach (e::l) env=(false,eval e env)::starEach l env:=by intro _ _; rfl):PA X (e::es) (Ap6 te t):=Aa0 h1 h2 (hs es X.env)
inductive Lk
 | fault (z:Str) (lv:Nat)
 | trail (p1 pg t l:Nat)
def Ag9 (ps:Pgs) (rt pl:Nat) (wr k:Bool):Lk :=
 if 512<=pl then .fault "far" 0 else if hasP ps (.int (rt:Int))=false then .fault "beyond" 0 else
 match Ag2 ps (Ad8 ps rt (pl / 8 / 8)) wr k with
 | some z=>.fault z 1
 | none=>match Ag2 ps (Ad8 ps (Ad8 ps rt (pl / 8 / 8) / 256) (pl / 8 % 8)) wr k with
  | some z=>.fault z 2
  | none=>.trail (Ad8 ps rt (pl / 8 / 8) / 256) (Ad8 ps (Ad8 ps rt (pl / 8 / 8) / 256) (pl / 8 % 8) / 256) (Ad8 ps rt (pl / 8 / 8)) (Ad8 ps (Ad8 ps rt (pl / 8 / 8) / 256) (pl / 8 % 8))
def Bt9 (C SC PL FA:Addr):Sp:=λvs H Q E=>∃ (a m h r q aw:Addr) (ps:Pgs) (n:Int) (rs:Rs) (bs:List Bool) (b:Int) (rt pl:Nat) (wr k:Bool),vs=[.ref a,.int rt,.int pl,.bl wr,.bl k]/\Way C SC PL H a m h r q aw ps n rs bs b /\
 (∀ z lv,Ag9 ps rt pl wr k=.fault z lv->∀ H',Same H H'->ExF FA E H' z pl lv) /\
 ∀ p1 pg t l,Ag9 ps rt pl wr k=.trail p1 pg t l->∀ (tt t1 t2:Addr) (H':Hp),Same H H'->H' tt=some (.tup [.ref t1,.ref t2,.int (pg:Int),.int ((rigN t l:Nat):Int)])->H' t1=some (.tup [.int (rt:Int),.int ((pl / 8 / 8:Nat):Int)])->H' t2=some (.tup [.int (p1:Int),.int ((pl / 8 % 8:Nat):Int)])->Q (.ref tt) H'
theorem Az2 {ps:Pgs} {w:Nat} {wr k:Bool} (h:Ag2 ps w wr k=none):hasP ps (.int ((w / 256:Nat):Int))=true:=by
 unfold Ag2 at h
 split at h
 ·cases h
 ·split at h
  ·cases h
  ·rename_i z
   cases hb:hasP ps (.int ((w / 256:Nat):Int)) with
   | true=>rfl
   | false=>exact absurd hb z
section
variable {P : Program} {w : World} {K : PySem.W.Frag} {mg : Str → Option Value} {base : Heap} {C NP NL NW NI SC PL WC FA : Addr}
theorem Co7:Ab5 ["store","row","write","kernel","place","level"] ["store","row","write","kernel","place","level"] (Aa1 Bi0):=FSc
theorem Cs4 {f f1 f2 f3 fI:Addr} {fd fd1 fd2 fd3 fdI:FuncData} (F:Fun K "check_row" "check_row" Bi0 f fd) (Ba:Dn K mg "has" Ay4 ["row","marks"] f1 fd1) (GBa:FnOk P w K mg base CX0 1 f1 fd1 ["row","marks"] Ba2) (Bp:Dn K mg "page_of" Ba7 ["row"] f2 fd2) (GBp:FnOk P w K mg base CX0 1 f2 fd2 ["row"] Bl7) (M1:Me K PL "has" "Plain.has" Ao5 ["self","page"] f3 fd3) (GM1:FnOk P w K mg base CX0 4 f3 fd3 ["self","page"] (Al5 C SC PL)) (FL:Flt K mg FA fI) (GF:FnOk P w K mg base CX0 1 fI fdI ["self","kind","place","level"] (spXI FA 3 ffF)) (BF:Binds K fdI ["self","kind","place","level"] []) (PC:Plc K PL) (R:Rws0 K mg):FnOk P w K mg base (CXr P w) 5 f fd ["store","row","write","kernel","place","level"] (Bu9 C SC PL FA):=by
 obtain ⟨t_pr,c_pr⟩:=R.pr
 obtain ⟨t_ke,c_ke⟩:=R.ke
 obtain ⟨t_wr,c_wr⟩:=R.wr
 refine F.okR Co7 (λvs H Q E h'=>?_) (λcdv A outer s H vs Q E hr h'=>?_)
 ·obtain ⟨a,m,h,r,q,aw,ps,n,rs,bs,b,w0,wr,k,pl,lv,rfl,_⟩:=h'
  rfl
 ·obtain ⟨a,m,h,r,q,aw,ps,n,rs,bs,b,w0,wr,k,pl,lv,rfl,W,q0,e⟩:=h'
  have hr2:Room 2 _:=hr.mono (by decide)
  have hr1:Room 1 _:=hr.mono (by decide)
  refine ⟨_,(Aa2 (Ac8 (Ae0 (Ad1 (Ab3 GBa hr1 (by rfl) Ba.m Ba.F.kp Ba.b .nil Ac1 (Aa0 (pv 1) (Aa0 (Ad6 (by rfl) c_pr (show RelV (.int 1) (.int 1 t_pr) from ⟨_,rfl⟩)) Aa3))))) (Aa4 (Ai6 FL.ex FL.fn FL.m Ak8 rfl GF hr2 BF (by decide) (Aa0 Ab8 (Aa0 (pv 4) (Aa0 (pv 5) Aa3))))) Ab0) (Aa2 (Ac8 (Ae0 (Ad1 (Ac4 (pv 0) PC.cl M1.m GM1 hr M1.b .nil Ac1 (Aa0 (Ab3 GBp hr1 (by rfl) Bp.m Bp.F.kp Bp.b .nil Ac1 (Aa0 (pv 1) Aa3)) Aa3)))) (Aa4 (Ai6 FL.ex FL.fn FL.m Ak8 rfl GF hr2 BF (by decide) (Aa0 Ab8 (Aa0 (pv 4) (Aa0 (pv 5) Aa3))))) Ab0) (Aa2 (Ac8 (PW.pt (Ah1 (Ad1 (Ab3 GBa hr1 (by rfl) Ba.m Ba.F.kp Ba.b .nil Ac1 (Aa0 (pv 1) (Aa0 (Ad6 (by rfl) c_ke (show RelV (.int 4) (.int 4 t_ke) from ⟨_,rfl⟩)) Aa3)))) (Af8 (Ae0 (Ad1 (pv 3)))))) (Aa4 (Ai6 FL.ex FL.fn FL.m Ak8 rfl GF hr2 BF (by decide) (Aa0 Ab8 (Aa0 (pv 4) (Aa0 (pv 5) Aa3))))) Ab0) (Aa4 (Ac8 (PW.pt (Ah1 (Ad1 (pv 2)) (Af8 (Ae0 (Ad1 (Ab3 GBa hr1 (by rfl) Ba.m Ba.F.kp Ba.b .nil Ac1 (Aa0 (pv 1) (Aa0 (Ad6 (by rfl) c_wr (show RelV (.int 2) (.int 2 t_wr) from ⟨_,rfl⟩)) Aa3)))))))) (Aa4 (Ai6 FL.ex FL.fn FL.m Ak8 rfl GF hr2 BF (by decide) (Aa0 Ab8 (Aa0 (pv 4) (Aa0 (pv 5) Aa3))))) Ab0))))),?_⟩
  obtain ⟨dx,fs,ha,wf⟩:=W.ob
  have L:Ag2 ps w0 wr k=(if hasN w0 1=false then some ("absent":Str) else if hasP ps (.int ((w0 / 256:Nat):Int))=false then some ("beyond":Str) else if (hasN w0 4 && !k)=true then some ("kernel":Str) else if (wr && !hasN w0 2)=true then some ("fixed":Str) else none):=rfl
  refine ⟨_,rfl,w0,1,rfl,_,rfl,?_⟩
  cases h1:hasN w0 1 with
  | false=>exact iteT ⟨_,rfl,_,rfl,rfl,λd hd=>e "absent" (by rw [L,h1]; rfl) d hd⟩
  | true =>
   refine iteF ⟨_,rfl,a,dx,fs,rfl,ha,wf.nq _,_,rfl,w0,rfl,a,m,h,r,q,aw,ps,n,rs,bs,b,_,rfl,W,.int _,_,rfl,?_⟩
   cases h2:hasP ps (.int ((w0 / 256:Nat):Int)) with
   | false=>exact iteT ⟨_,rfl,_,rfl,rfl,λd hd=>e "beyond" (by rw [L,h1,h2]; rfl) d hd⟩
   | true =>
    refine iteF ⟨_,rfl,w0,4,rfl,_,rfl,?_⟩
    cases h4:hasN w0 4 with
    | true =>
     refine iteT ⟨_,rfl,_,rfl,?_⟩
     cases k with
     | false=>exact iteT ⟨_,rfl,_,rfl,rfl,λd hd=>e "kernel" (by rw [L,h1,h2,h4]; rfl) d hd⟩
     | true =>
      refine iteF ⟨_,rfl,_,rfl,?_⟩
      cases wr with
      | false=>exact iteF (q0 (by rw [L,h1,h2,h4]; rfl))
      | true =>
       refine iteT ⟨_,rfl,w0,2,rfl,_,rfl,?_⟩
       cases h5:hasN w0 2 with
       | false=>exact iteT ⟨_,rfl,_,rfl,rfl,λd hd=>e "fixed" (by rw [L,h1,h2,h4,h5]; rfl) d hd⟩
       | true=>exact iteF (q0 (by rw [L,h1,h2,h4,h5]; rfl))
    | false =>
     refine iteF ⟨_,rfl,_,rfl,?_⟩
     cases wr with
     | false=>exact iteF (q0 (by rw [L,h1,h2,h4]; rfl))
     | true =>
      refine iteT ⟨_,rfl,w0,2,rfl,_,rfl,?_⟩
      cases h5:hasN w0 2 with
      | false=>exact iteT ⟨_,rfl,_,rfl,rfl,λd hd=>e "fixed" (by rw [L,h1,h2,h4,h5]; rfl) d hd⟩
      | true=>exact iteF (q0 (by rw [L,h1,h2,h4,h5]; rfl))
theorem sc_look:Ab5 ["store","root","place","write","kernel","parts","top","top_row","low","low_row"] ["store","root","place","write","kernel"] (Aa1 Bh1):=FSc
theorem Cr5 {f f1 f2 f3 f4 f5 f6 fI:Addr} {fd fd1 fd2 fd3 fd4 fd5 fd6 fdI:FuncData} (F:Fun K "look" "look" Bh1 f fd) (Bq:Dn K mg "parts_of" Ao4 ["place"] f1 fd1) (GBq:FnOk P w K mg base CX0 4 f1 fd1 ["place"] As7) (Bp:Dn K mg "page_of" Ba7 ["row"] f2 fd2) (GBp:FnOk P w K mg base CX0 1 f2 fd2 ["row"] Bl7) (Br:Dn K mg "rights_of" sRig ["top_row","low_row"] f3 fd3) (GBr:FnOk P w K mg base CX0 1 f3 fd3 ["top_row","low_row"] Cm4) (M1:Me K PL "has" "Plain.has" Ao5 ["self","page"] f4 fd4) (GM1:FnOk P w K mg base CX0 4 f4 fd4 ["self","page"] (Al5 C SC PL)) (M2:Me K PL "read" "Store.read" Av1 ["self","page","cell"] f5 fd5) (GM2:FnOk P w K mg base (CXr P w) 7 f5 fd5 ["self","page","cell"] (Ap7 C SC PL NP NL)) (Bc:Dn K mg "check_row" Bi0 ["store","row","write","kernel","place","level"] f6 fd6) (GBc:FnOk P w K mg base (CXr P w) 5 f6 fd6 ["store","row","write","kernel","place","level"] (Bu9 C SC PL FA)) (FL:Flt K mg FA fI) (GF:FnOk P w K mg base CX0 1 fI fdI ["self","kind","place","level"] (spXI FA 3 ffF)) (BF:Binds K fdI ["self","kind","place","level"] []) (PC:Plc K PL) (R:Rws0 K mg):FnOk P w K mg base (CXr P w) 8 f fd ["store","root","place","write","kernel"] (Bt9 C SC PL FA):=by
 obtain ⟨t_pl,c_pl⟩:=R.pl
 refine F.okR sc_look (λvs H Q E h'=>?_) (λcdv A outer s H vs Q E hr h'=>?_)
 ·obtain ⟨a,m,h,r,q,aw,ps,n,rs,bs,b,rt,pl,wr,k,rfl,_⟩:=h'
  rfl
 ·obtain ⟨a,m,h,r,q,aw,ps,n,rs,bs,b,rt,pl,wr,k,rfl,W,e,q0⟩:=h'
  have hr5:Room 5 _:=hr.mono (by decide)
  have hr4:Room 4 _:=hr.mono (by decide)
  have hr2:Room 2 _:=hr.mono (by decide)
  have hr1:Room 1 _:=hr.mono (by decide)
  refine ⟨_,(Aa2 (Ac8 (Ab6 Cx5 (pv 2) (Ad6 (by rfl) c_pl (show RelV (.int 512) (.int 512 t_pl) from ⟨_,rfl⟩)) (Ac0 _)) (Aa4 (Ai6 FL.ex FL.fn FL.m Ak8 rfl GF hr2 BF (by decide) (Aa0 Ab8 (Aa0 (pv 2) (Aa0 Aa5 Aa3))))) Ab0) (Aa2 (Ac8 (Ae0 (Ad1 (Ac4 (pv 0) PC.cl M1.m GM1 hr4 M1.b .nil Ac1 (Aa0 (pv 1) Aa3)))) (Aa4 (Ai6 FL.ex FL.fn FL.m Ak8 rfl GF hr2 BF (by decide) (Aa0 Ab8 (Aa0 (pv 2) (Aa0 Aa5 Aa3))))) Ab0) (Aa2 (Ac5 (i:=5) sc_look.nd rfl (Or.inl rfl) (Ab3 GBq hr4 (by rfl) Bq.m Bq.F.kp Bq.b .nil Ac1 (Aa0 (pv 2) Aa3))) (Aa2 (Ac5 (i:=6) sc_look.nd rfl (Or.inl rfl) (Af5 (Aa0 (pv 1) (Aa0 (Ad3 Ad4 (pv 5) Aa5 (λ_ _=>rfl)) Aa3)))) (Aa2 (Ac5 (i:=7) sc_look.nd rfl (Or.inl rfl) (Ac4 (pv 0) PC.cl M2.m GM2 hr M2.b .nil Ah8 (Aa0 (Ad3 Ad4 (pv 6) Aa5 (λ_ _=>rfl)) (Aa0 (Ad3 Ad4 (pv 6) Aa5 (λ_ _=>rfl)) Aa3)))) (Aa2 (Ad7 (Ab3 GBc hr5 (by rfl) Bc.m Bc.F.kp Bc.b .nil Ah8 (Aa0 (pv 0) (Aa0 (pv 7) (Aa0 (pv 3) (Aa0 (pv 4) (Aa0 (pv 2) (Aa0 Aa5 Aa3)))))))) (Aa2 (Ac5 (i:=8) sc_look.nd rfl (Or.inl rfl) (Af5 (Aa0 (Ab3 GBp hr1 (by rfl) Bp.m Bp.F.kp Bp.b .nil Ac1 (Aa0 (pv 7) Aa3)) (Aa0 (Ad3 Ad4 (pv 5) Aa5 (λ_ _=>rfl)) Aa3)))) (Aa2 (Ac5 (i:=9) sc_look.nd rfl (Or.inl rfl) (Ac4 (pv 0) PC.cl M2.m GM2 hr M2.b .nil Ah8 (Aa0 (Ad3 Ad4 (pv 8) Aa5 (λ_ _=>rfl)) (Aa0 (Ad3 Ad4 (pv 8) Aa5 (λ_ _=>rfl)) Aa3)))) (Aa2 (Ad7 (Ab3 GBc hr5 (by rfl) Bc.m Bc.F.kp Bc.b .nil Ah8 (Aa0 (pv 0) (Aa0 (pv 9) (Aa0 (pv 3) (Aa0 (pv 4) (Aa0 (pv 2) (Aa0 Aa5 Aa3)))))))) (Aa4 (Ab2 (Af5 (Aa8 (pv 6) (Aa8 (pv 8) (Aa8 (Ab3 GBp hr1 (by rfl) Bp.m Bp.F.kp Bp.b .nil Ac1 (Aa0 (pv 9) Aa3)) (Aa8 (Ab3 GBr hr1 (by rfl) Br.m Br.F.kp Br.b .nil Ac1 (Aa0 (pv 7) (Aa0 (pv 9) Aa3))) Aa3)))))))))))))))),?_⟩
  obtain ⟨dx,fs,ha,wf⟩:=W.ob
  have L:Ag9 ps rt pl wr k=(if 512<=pl then .fault "far" 0 else if hasP ps (.int (rt:Int))=false then .fault "beyond" 0 else match Ag2 ps (Ad8 ps rt (pl / 8 / 8)) wr k with | some z=>.fault z 1 | none=>match Ag2 ps (Ad8 ps (Ad8 ps rt (pl / 8 / 8) / 256) (pl / 8 % 8)) wr k with | some z=>.fault z 2 | none=>.trail (Ad8 ps rt (pl / 8 / 8) / 256) (Ad8 ps (Ad8 ps rt (pl / 8 / 8) / 256) (pl / 8 % 8) / 256) (Ad8 ps rt (pl / 8 / 8)) (Ad8 ps (Ad8 ps rt (pl / 8 / 8) / 256) (pl / 8 % 8))):=rfl
  refine ⟨_,rfl,(pl:Int),512,rfl,rfl,_,rfl,ite2 (λz=>?_) (λz=>?_)⟩
  ·have z':(pl:Int) ≥ 512:=of_decide_eq_true z
   exact ⟨_,rfl,rfl,λd hd=>e "far" 0 (by rw [L,if_pos (by omega)]) H (Same.refl _) d hd⟩
  have hp:pl<512:=by
   have:¬ ((pl:Int) ≥ 512):=λy=>z (decide_eq_true y)
   omega
  refine ⟨_,rfl,a,dx,fs,rfl,ha,wf.nq _,_,rfl,a,m,h,r,q,aw,ps,n,rs,bs,b,_,rfl,W,.int _,_,rfl,?_⟩
  cases hr0:hasP ps (.int (rt:Int)) with
  | false=>exact iteT ⟨_,rfl,rfl,λd hd=>e "beyond" 0 (by rw [L,if_neg (by omega),if_pos hr0]) H (Same.refl _) d hd⟩
  | true =>
  refine iteF ⟨_,rfl,pl,rfl,hp,λt0 ht0=>?_⟩
  have L2:=L
  rw [if_neg (by omega),if_neg (by rw [hr0]; decide)] at L2
  have s0:=Aa6 (o:=.tup [.int ((pl / 8 / 8:Nat):Int),.int ((pl / 8 % 8:Nat):Int),.int ((pl % 8:Nat):Int)]) ht0
  have z0:upd H t0 (.tup [.int ((pl / 8 / 8:Nat):Int),.int ((pl / 8 % 8:Nat):Int),.int ((pl % 8:Nat):Int)]) t0=some (.tup [.int ((pl / 8 / 8:Nat):Int),.int ((pl / 8 % 8:Nat):Int),.int ((pl % 8:Nat):Int)]):=upd_same
  generalize upd H t0 (.tup [.int ((pl / 8 / 8:Nat):Int),.int ((pl / 8 % 8:Nat):Int),.int ((pl % 8:Nat):Int)])=H0 at *
  refine ⟨_,rfl,_,rfl,t0,_,_,_,rfl,rfl,SqT.of z0,rfl,by show 2<=sizeLine; decide,λt1 ht1=>?_⟩
  have s1:=s0.trans (Aa6 (o:=.tup [.int (rt:Int),.int ((pl / 8 / 8:Nat):Int)]) ht1)
  have z1:upd H0 t1 (.tup [.int (rt:Int),.int ((pl / 8 / 8:Nat):Int)]) t1=some (.tup [.int (rt:Int),.int ((pl / 8 / 8:Nat):Int)]):=upd_same
  have z01:upd H0 t1 (.tup [.int (rt:Int),.int ((pl / 8 / 8:Nat):Int)]) t0=some (.tup [.int ((pl / 8 / 8:Nat):Int),.int ((pl / 8 % 8:Nat):Int),.int ((pl % 8:Nat):Int)]):=Aa6 ht1 _ _ z0
  generalize upd H0 t1 (.tup [.int (rt:Int),.int ((pl / 8 / 8:Nat):Int)])=H1 at *
  have W1:=W.same s1
  obtain ⟨dx,fs,ha,wf⟩:=W1.ob
  refine ⟨_,rfl,a,dx,fs,rfl,ha,wf.nq _,_,rfl,t1,_,_,_,rfl,rfl,SqT.of z1,rfl,_,rfl,t1,_,_,_,rfl,rfl,SqT.of z1,rfl,a,m,h,r,q,aw,ps,n,rs,bs,b,_,_,rfl,W1,.int _,.int _,λi j p ws e1 e2 e3 hj=>?_,λy=>absurd (hr0.symm.trans y) (by decide),λ_ y=>absurd ((Ae3 (by omega) (by omega)).symm.trans y) (by decide)⟩
  obtain rfl:rt=i:=by have:=V.int.inj e1; omega
  obtain rfl:pl / 8 / 8=j:=by have:=V.int.inj e2; omega
  have wp:=W.M.good _ _ _ e3
  have w0n:0<=ws.getD (pl / 8 / 8) 0:=(wp.2 _ (by rw [List.getD_eq_getElem?_getD,List.getElem?_eq_getElem (by omega)]; exact List.getElem_mem _)).1
  rw [Ah4 e3 w0n]
  generalize hT:Ad8 ps rt (pl / 8 / 8)=T0 at *
  refine ⟨_,rfl,_,rfl,_,rfl,_,rfl,_,rfl,a,m,h,r,q,aw,ps,n,rs,bs,b,T0,wr,k,pl,1,rfl,W1,λhn=>?_,λzz hz d hd=>e zz 1 (by rw [L2,hz]) H1 s1 d hd⟩
  rw [hn] at L2
  refine ⟨_,rfl,T0,rfl,_,rfl,t0,_,_,_,rfl,rfl,SqT.of z01,rfl,by show 2<=sizeLine; decide,λt2 ht2=>?_⟩
  have s2':=Aa6 (o:=.tup [.int ((T0 / 256:Nat):Int),.int ((pl / 8 % 8:Nat):Int)]) ht2
  have s2:=s1.trans s2'
  have z2:upd H1 t2 (.tup [.int ((T0 / 256:Nat):Int),.int ((pl / 8 % 8:Nat):Int)]) t2=some (.tup [.int ((T0 / 256:Nat):Int),.int ((pl / 8 % 8:Nat):Int)]):=upd_same
  have z12:=s2' _ _ z1
  generalize upd H1 t2 (.tup [.int ((T0 / 256:Nat):Int),.int ((pl / 8 % 8:Nat):Int)])=H2 at *
  have W2:=W.same s2
  obtain ⟨dx,fs,ha,wf⟩:=W2.ob
  have hh:=Az2 hn
  refine ⟨_,rfl,a,dx,fs,rfl,ha,wf.nq _,_,rfl,t2,_,_,_,rfl,rfl,SqT.of z2,rfl,_,rfl,t2,_,_,_,rfl,rfl,SqT.of z2,rfl,a,m,h,r,q,aw,ps,n,rs,bs,b,_,_,rfl,W2,.int _,.int _,λi j p2 ws2 e1 e2 e4 hj2=>?_,λy=>absurd (hh.symm.trans y) (by decide),λ_ y=>absurd ((Ae3 (by omega) (by omega)).symm.trans y) (by decide)⟩
  obtain rfl:T0 / 256=i:=by have:=V.int.inj e1; omega
  obtain rfl:pl / 8 % 8=j:=by have:=V.int.inj e2; omega
  have wp2:=W.M.good _ _ _ e4
  have w2n:0<=ws2.getD (pl / 8 % 8) 0:=(wp2.2 _ (by rw [List.getD_eq_getElem?_getD,List.getElem?_eq_getElem (by omega)]; exact List.getElem_mem _)).1
  rw [Ah4 e4 w2n]
  generalize hL:Ad8 ps (T0 / 256) (pl / 8 % 8)=L0 at *
  refine ⟨_,rfl,_,rfl,_,rfl,_,rfl,_,rfl,a,m,h,r,q,aw,ps,n,rs,bs,b,L0,wr,k,pl,2,rfl,W2,λhn2=>?_,λzz hz d hd=>e zz 2 (by rw [L2,hz]) H2 s2 d hd⟩
  rw [hn2] at L2
  refine ⟨_,rfl,_,rfl,_,rfl,L0,rfl,_,rfl,_,rfl,T0,L0,rfl,by show 4<=sizeLine; decide,λtt htt=>?_⟩
  have s3:=Aa6 (o:=.tup [.ref t1,.ref t2,.int ((L0 / 256:Nat):Int),.int ((rigN T0 L0:Nat):Int)]) htt
  exact q0 _ _ _ _ L2 tt t1 t2 _ (s2.trans s3) upd_same (s3 _ _ z12) (s3 _ _ z2)
end
end K28
end
section
namespace K28
open PySem L2
abbrev Bg6:Stmt:=top 44
abbrev Bh0:Stmt:=top 43
theorem Bw5 {w m:Nat} (h:w &&& m=m):w ||| m=w:=by
 refine Nat.eq_of_testBit_eq λk=>?_
 have z:=congrArg (λx=>x.testBit k) h
 simp only [Nat.testBit_and] at z
 rw [Nat.testBit_or]
 cases hw:w.testBit k <;> cases hm:m.testBit k <;> simp_all
def Kpt (h:Addr) (ps:Pgs) (H H':Hp):Prop:=∀ b o,¬ At h ps b->H b=some o->H' b=some o
theorem Kpt.trans {h:Addr} {ps ps1:Pgs} {H H1 H2:Hp} (x:Kpt h ps H H1) (y:Kpt h ps1 H1 H2) (e:∀ b,At h ps1 b->At h ps b):Kpt h ps H H2:=λb o n z=>y b o (λw=>n (e b w)) (x b o n z)
theorem Bv2 {ps:Pgs} {i j:Nat} {p:Addr} {ws:List Int} (e:ps[i]?=some (some (p,ws))) (hj:j<ws.length):setW ps i j (ws.getD j 0)=ps:=by
 rw [Ak4 e]
 have e2:ws.set j (ws.getD j 0)=ws:=by
  refine List.ext_getElem? λk=>?_
  by_cases hk:j=k
  ·subst hk
   rw [List.getElem?_set_self hj,List.getD_eq_getElem?_getD,List.getElem?_eq_getElem hj]
   rfl
  ·rw [List.getElem?_set_ne hk]
 rw [e2]
 refine List.ext_getElem? λk=>?_
 by_cases hk:i=k
 ·subst hk
  rw [List.getElem?_set_self (List.getElem?_eq_some_iff.mp e).1,e]
 ·rw [List.getElem?_set_ne hk]
theorem Dd6 {w m:Nat} (h:w<281474976710656) (hm:m<256):w ||| m<281474976710656:=by
 have:w ||| m<2 ^ 48:=Nat.or_lt_two_pow (by omega) (by omega)
 omega
def mkN (ps:Pgs) (i j m:Nat):Pgs:=setW ps i j ((Ad8 ps i j ||| m:Nat):Int)
def Bt4 (C SC PL:Addr):Sp:=λvs H Q _=>∃ (a m h r q aw:Addr) (ps:Pgs) (n:Int) (rs:Rs) (bs:List Bool) (b:Int) (t:Addr) (i j mk:Nat),vs=[.ref a,.ref t,.int mk]/\Way C SC PL H a m h r q aw ps n rs bs b/\H t=some (.tup [.int (i:Int),.int (j:Int)])/\hasP ps (.int (i:Int))=true/\j<8/\mk<256/\∀ H',Way C SC PL H' a m h r q aw (mkN ps i j mk) n rs bs b->Kpt h ps H H'->Q .non H'
def Bt8 (C SC PL:Addr):Sp:=λvs H Q _=>∃ (a m h r q aw:Addr) (ps:Pgs) (n:Int) (rs:Rs) (bs:List Bool) (b:Int) (tt t1 t2:Addr) (i j i1 j1 pg rg:Nat) (wr:Bool),vs=[.ref a,.ref tt,.bl wr]/\Way C SC PL H a m h r q aw ps n rs bs b/\H tt=some (.tup [.ref t1,.ref t2,.int (pg:Int),.int (rg:Int)])/\H t1=some (.tup [.int (i:Int),.int (j:Int)])/\H t2=some (.tup [.int (i1:Int),.int (j1:Int)])/\hasP ps (.int (i:Int))=true/\hasP ps (.int (i1:Int))=true/\j<8/\j1<8 /\
 ∀ H',Way C SC PL H' a m h r q aw (mkN (mkN ps i j 8) i1 j1 (if wr then 24 else 8)) n rs bs b->Kpt h ps H H'->Q (.int (((if wr then rg ||| 16 else rg:Nat)):Int)) H'
theorem Ai2 {ps:Pgs} {i j m:Nat} (x:Nat):hasP (mkN ps i j m) (.int (x:Int))=hasP ps (.int (x:Int)):=by
 unfold mkN
 simp only [hasP,Bm0]
 congr 1
 exact Bp4 _
section
variable {P : Program} {w : World} {K : PySem.W.Frag} {mg : Str → Option Value} {base : Heap} {C NP NL NW NI SC PL WC FA : Addr}
theorem sc_putm:Ab5 ["store","spot","marks","row"] ["store","spot","marks"] (Aa1 Bg6):=FSc
theorem Cq8 {f f1 f2 f3 f4:Addr} {fd fd1 fd2 fd3 fd4:FuncData} (F:Fun K "put_marks" "put_marks" Bg6 f fd) (Ba:Dn K mg "has" Ay4 ["row","marks"] f1 fd1) (GBa:FnOk P w K mg base CX0 1 f1 fd1 ["row","marks"] Ba2) (Bb:Dn K mg "put" Ay3 ["row","marks"] f2 fd2) (GBb:FnOk P w K mg base CX0 1 f2 fd2 ["row","marks"] Ba1) (M1:Me K PL "read" "Store.read" Av1 ["self","page","cell"] f3 fd3) (GM1:FnOk P w K mg base (CXr P w) 7 f3 fd3 ["self","page","cell"] (Ap7 C SC PL NP NL)) (M2:Me K PL "write" "Store.write" Ao0 ["self","page","cell","word"] f4 fd4) (GM2:FnOk P w K mg base (CXr P w) 7 f4 fd4 ["self","page","cell","word"] (An9 C SC PL NP NL NW)) (PC:Plc K PL) (R:Rws0 K mg):FnOk P w K mg base CX0 8 f fd ["store","spot","marks"] (Bt4 C SC PL):=by
 refine F.ok sc_putm (λvs H Q E h'=>?_) (λcdv A outer s H vs Q E hr h'=>?_)
 ·obtain ⟨a,m,h,r,q,aw,ps,n,rs,bs,b,t,i,j,mk,rfl,_⟩:=h'
  rfl
 ·obtain ⟨a,m,h,r,q,aw,ps,n,rs,bs,b,t,i,j,mk,rfl,W,zt,hh,hj,hmk,q0⟩:=h'
  have hr1:Room 1 _:=hr.mono (by decide)
  refine ⟨_,(Aa2 (Ac5 (i:=3) sc_putm.nd rfl (Or.inl rfl) (Ac4 (pv 0) PC.cl M1.m GM1 hr M1.b .nil Bb3 (Aa0 (Ad3 Ad4 (pv 1) Aa5 (λ_ _=>rfl)) (Aa0 (Ad3 Ad4 (pv 1) Aa5 (λ_ _=>rfl)) Aa3)))) (Aa4 (Ac8 (Ae0 (Ad1 (Ab3 GBa hr1 (by rfl) Ba.m Ba.F.kp Ba.b .nil Ac1 (Aa0 (pv 3) (Aa0 (pv 2) Aa3))))) (Aa4 (Ad7 (Ac4 (pv 0) PC.cl M2.m GM2 hr M2.b .nil Bb3 (Aa0 (Ad3 Ad4 (pv 1) Aa5 (λ_ _=>rfl)) (Aa0 (Ad3 Ad4 (pv 1) Aa5 (λ_ _=>rfl)) (Aa0 (Ab3 GBb hr1 (by rfl) Bb.m Bb.F.kp Bb.b .nil Ac1 (Aa0 (pv 3) (Aa0 (pv 2) Aa3))) Aa3)))))) Ab0))),?_⟩
  obtain ⟨dx,fs,ha,wf⟩:=W.ob
  obtain ⟨i',p,ws,ei,ep⟩:=Ag4 hh
  obtain rfl:i=i':=by have:=V.int.inj ei; omega
  have good:=W.M.good _ _ _ ep
  have hjl:j<ws.length:=by omega
  have hmem:ws.getD j 0 ∈ ws:=by rw [List.getD_eq_getElem?_getD,List.getElem?_eq_getElem hjl]; exact List.getElem_mem _
  have wb:=good.2 _ hmem
  have ew:=Ah4 (j:=j) ep wb.1
  have wlt:Ad8 ps i j<281474976710656:=by have:=wb.2; rw [ew] at this; omega
  refine ⟨_,rfl,a,dx,fs,rfl,ha,wf.nq _,_,rfl,t,_,_,_,rfl,rfl,SqT.of zt,rfl,_,rfl,t,_,_,_,rfl,rfl,SqT.of zt,rfl,a,m,h,r,q,aw,ps,n,rs,bs,b,_,_,rfl,W,.int _,.int _,λi2 j2 p2 ws2 e1 e2 e3 hj2=>?_,λy=>absurd (hh.symm.trans y) (by decide),λ_ y=>absurd ((Ae3 (by omega) (by omega)).symm.trans y) (by decide)⟩
  obtain rfl:i=i2:=by have:=V.int.inj e1; omega
  obtain rfl:j=j2:=by have:=V.int.inj e2; omega
  obtain ⟨rfl,rfl⟩:p=p2/\ws=ws2:=by have:=Option.some.inj (ep.symm.trans e3); cases this; exact ⟨rfl,rfl⟩
  rw [ew]
  refine ⟨_,rfl,_,rfl,Ad8 ps i j,mk,rfl,_,rfl,?_⟩
  cases hm:hasN (Ad8 ps i j) mk with
  | true =>
   refine iteF (q0 H ?_ λb o _ z=>z)
   have eq:mkN ps i j mk=ps:=by
    unfold mkN
    rw [Bw5 (of_decide_eq_true hm),<- ew]
    exact Bv2 ep hjl
   rw [eq]
   exact W
  | false =>
   refine iteT ⟨_,rfl,a,dx,fs,rfl,ha,wf.nq _,_,rfl,t,_,_,_,rfl,rfl,SqT.of zt,rfl,_,rfl,t,_,_,_,rfl,rfl,SqT.of zt,rfl,_,rfl,_,rfl,Ad8 ps i j,mk,rfl,a,m,h,r,q,aw,ps,n,rs,bs,b,_,_,_,rfl,W,.int _,.int _,.int _,λi2 j2 v2 p2 ws2 e1 e2 e4 e3 hj2 v0 v1=>?_,λy=>absurd (hh.symm.trans y) (by decide),λ_ y=>absurd ((Ae3 (by omega) (by omega)).symm.trans y) (by decide),λ_ _ y=>absurd ((Ae3 (by omega) (by have:=Dd6 wlt hmk; omega)).symm.trans y) (by decide)⟩
   obtain rfl:i=i2:=by have:=V.int.inj e1; omega
   obtain rfl:j=j2:=by have:=V.int.inj e2; omega
   obtain ⟨rfl,rfl⟩:p=p2/\ws=ws2:=by have:=Option.some.inj (ep.symm.trans e3); cases this; exact ⟨rfl,rfl⟩
   cases e4
   exact q0 _ (W.setW ep v0 v1) λb o nb z=>by rw [Aa7 (show b≠p from λy=>nb (y ▸ .inr ⟨i,ws,ep⟩))]; exact z
theorem Co5:Ab5 ["store","trail","write"] ["store","trail","write"] (Aa1 Bh0):=FSc
theorem Cr4 {f f1 f2:Addr} {fd fd1 fd2:FuncData} (F:Fun K "mark" "mark" Bh0 f fd) (Bm:Dn K mg "put_marks" Bg6 ["store","spot","marks"] f1 fd1) (GBm:FnOk P w K mg base CX0 8 f1 fd1 ["store","spot","marks"] (Bt4 C SC PL)) (Bb:Dn K mg "put" Ay3 ["row","marks"] f2 fd2) (GBb:FnOk P w K mg base CX0 1 f2 fd2 ["row","marks"] Ba1) (R:Rws0 K mg):FnOk P w K mg base CX0 9 f fd ["store","trail","write"] (Bt8 C SC PL):=by
 obtain ⟨t_to,c_to⟩:=R.to
 obtain ⟨t_so,c_so⟩:=R.so
 refine F.ok Co5 (λvs H Q E h'=>?_) (λcdv A outer s H vs Q E hr h'=>?_)
 ·obtain ⟨a,m,h,r,q,aw,ps,n,rs,bs,b,tt,t1,t2,i,j,i1,j1,pg,rg,wr,rfl,_⟩:=h'
  rfl
 ·obtain ⟨a,m,h,r,q,aw,ps,n,rs,bs,b,tt,t1,t2,i,j,i1,j1,pg,rg,wr,rfl,W,zt,z1,z2,hh,hh1,hj,hj1,q0⟩:=h'
  have hr1:Room 1 _:=hr.mono (by decide)
  refine ⟨_,(Aa2 (Ad7 (Ab3 GBm hr (by rfl) Bm.m Bm.F.kp Bm.b .nil Ac1 (Aa0 (pv 0) (Aa0 (Ad3 Ad4 (pv 1) Aa5 (λ_ _=>rfl)) (Aa0 (Ad6 (by rfl) c_to (show RelV (.int 8) (.int 8 t_to) from ⟨_,rfl⟩)) Aa3))))) (Aa2 (Ad7 (Ab3 GBm hr (by rfl) Bm.m Bm.F.kp Bm.b .nil Ac1 (Aa0 (pv 0) (Aa0 (Ad3 Ad4 (pv 1) Aa5 (λ_ _=>rfl)) (Aa0 (Ar8 (Ad1 (pv 2)) (Ab3 GBb hr1 (by rfl) Bb.m Bb.F.kp Bb.b .nil Ac1 (Aa0 (Ad6 (by rfl) c_to (show RelV (.int 8) (.int 8 t_to) from ⟨_,rfl⟩)) (Aa0 (Ad6 (by rfl) c_so (show RelV (.int 16) (.int 16 t_so) from ⟨_,rfl⟩)) Aa3))) (Ad6 (by rfl) c_to (show RelV (.int 8) (.int 8 t_to) from ⟨_,rfl⟩))) Aa3))))) (Aa4 (Ab2 (Ar8 (Ad1 (pv 2)) (Ab3 GBb hr1 (by rfl) Bb.m Bb.F.kp Bb.b .nil Ac1 (Aa0 (Ad3 Ad4 (pv 1) Aa5 (λ_ _=>rfl)) (Aa0 (Ad6 (by rfl) c_so (show RelV (.int 16) (.int 16 t_so) from ⟨_,rfl⟩)) Aa3))) (Ad3 Ad4 (pv 1) Aa5 (λ_ _=>rfl))))))),?_⟩
  obtain ⟨dx,fs,ha,wf⟩:=W.ob
  refine ⟨_,rfl,_,rfl,tt,_,_,_,rfl,rfl,SqT.of zt,rfl,a,m,h,r,q,aw,ps,n,rs,bs,b,t1,i,j,8,rfl,W,z1,hh,hj,by decide,λH1 W1 k1=>?_⟩
  have e1:∀ b,At h (mkN ps i j 8) b->At h ps b:=λb y=>y.setW
  have nt:∀ t xs,H t=some (.tup xs)->¬ At h ps t:=λt xs y z=>by
   rcases z with z | ⟨k,ws,z⟩
   ·have:=W.M.pg.top; rw [<- z,y] at this; cases this
   ·have:=(W.M.pg.each k t ws z).1; rw [y] at this; cases this
  have y0:=k1 _ _ (nt _ _ zt) zt
  have y2:=k1 _ _ (nt _ _ z2) z2
  have hh2:hasP (mkN ps i j 8) (.int (i1:Int))=true:=by rw [Ai2]; exact hh1
  have fin:∀ (mk:Nat) (H2:Hp),Way C SC PL H2 a m h r q aw (mkN (mkN ps i j 8) i1 j1 mk) n rs bs b->Kpt h (mkN ps i j 8) H1 H2->H2 tt=some (.tup [.ref t1,.ref t2,.int (pg:Int),.int (rg:Int)])/\Kpt h ps H H2:=λmk H2 W2 k2=>⟨k2 _ _ (λz=>nt _ _ zt (e1 _ z)) y0,k1.trans k2 e1⟩
  cases wr with
  | true =>
   refine ⟨_,rfl,_,rfl,tt,_,_,_,rfl,rfl,SqT.of y0,rfl,_,rfl,_,rfl,iteT ⟨8,16,rfl,a,m,h,r,q,aw,mkN ps i j 8,n,rs,bs,b,t2,i1,j1,24,rfl,W1,y2,hh2,hj1,by decide,λH2 W2 k2=>?_⟩⟩
   obtain ⟨y3,k3⟩:=fin 24 H2 W2 k2
   exact ⟨_,rfl,_,rfl,iteT ⟨_,rfl,tt,_,_,_,rfl,rfl,SqT.of y3,rfl,rg,16,rfl,q0 H2 W2 k3⟩⟩
  | false =>
   refine ⟨_,rfl,_,rfl,tt,_,_,_,rfl,rfl,SqT.of y0,rfl,_,rfl,_,rfl,iteF ⟨a,m,h,r,q,aw,mkN ps i j 8,n,rs,bs,b,t2,i1,j1,8,rfl,W1,y2,hh2,hj1,by decide,λH2 W2 k2=>?_⟩⟩
   obtain ⟨y3,k3⟩:=fin 8 H2 W2 k2
   exact ⟨_,rfl,_,rfl,iteF ⟨_,rfl,tt,_,_,_,rfl,rfl,SqT.of y3,rfl,q0 H2 W2 k3⟩⟩
end
end K28
end
section
namespace K28
open PySem L2
abbrev Bg3:Stmt:=Ab1 (top 23) 1
abbrev Bh5:Stmt:=Ab1 (top 23) 2
abbrev Aq6:Stmt:=Ab1 (top 23) 3
abbrev At6:Stmt:=Ab1 (top 23) 4
def Bt1 (C:Addr):Sp:=λvs H Q _=>∃ (m q:Addr) (n:Int) (rs:Rs) (k:Int),vs=[.ref m,.int k]/\Sh C H m q n rs/\(Aj2 rs k=none->Q .non H)/\∀ (p r:Int) (t:Addr),Aj2 rs k=some (p,r)->H t=some (.tup [.int p,.int r])->Q (.ref t) H
def Ax3 (C:Addr):Sp:=λvs H Q _=>∃ (m q:Addr) (n:Int) (rs:Rs) (k:Int),vs=[.ref m,.int k]/\Sh C H m q n rs/\∀ H',But q H H'->Sh C H' m q n (delR rs k)->Q (.bl (Aj2 rs k).isSome) H'
def Bu3 (C:Addr):Sp:=λvs H Q _=>∃ (m q:Addr) (n:Int) (rs:Rs) (k p r:Int),vs=[.ref m,.int k,.int p,.int r]/\Sh C H m q n rs/\rs.length<=12/\∀ H',But q H H'->Sh C H' m q n (Ai1 n rs (k,p,r)).1->Q (oV (Ai1 n rs (k,p,r)).2) H'
def Bf5 (C:Addr):Sp:=λvs H Q _=>∃ (m q:Addr) (n:Int) (rs:Rs),vs=[.ref m]/\Sh C H m q n rs/\∀ (q':Addr) (H':Hp),But m H H'->H q'=none->Sh C H' m q' n []->Q .non H'
section
variable {P : Program} {w : World} {K : PySem.W.Frag} {mg : Str → Option Value} {base : Heap} {C : Addr}
theorem scSe:Ab5 ["self","number"] ["self","number"] (Aa1 Bg3):=FSc
theorem Cq1 {f:Addr} {fd:FuncData} (F:Fun K "seek" "Shelf.seek" Bg3 f fd) (S:Shf K mg C):FnOk P w K mg base CX0 1 f fd ["self","number"] (Bt1 C):=by
 refine F.ok scSe (λvs H Q E h=>?_) (λcdv A outer s H vs Q E hr h=>?_)
 ·obtain ⟨m,q,n,rs,k,rfl,_⟩:=h
  rfl
 ·obtain ⟨m,q,n,rs,k,rfl,W,q0,q1⟩:=h
  obtain ⟨dx,fs,hm,fo⟩:=W.ob
  obtain ⟨kvs,hq,rw⟩:=W.se
  refine ⟨_,Aa4 (Ab2 (Ce9 (Aj3 hr) (Af0 (pv 0) rfl) (pv 1) ⟨rfl,rfl,rfl,rfl⟩)),?_⟩
  refine ⟨_,rfl,m,C,dx,fs,_,rfl,hm,S.cl,S.ns,fo.seats,q,rfl,.inl ⟨kvs,.of hq⟩,_,rfl,_,DGet.k (k:=Sum.inl k) hq,?_⟩
  rcases rw.look k with ⟨e1,e2⟩ | ⟨p,r,t,e1,e2,e3⟩
  ·rw [e2]
   exact q0 e1
  ·rw [e2]
   exact q1 p r t e1 e3
theorem scDr:Ab5 ["self","number"] ["self","number"] (Aa1 Aq6):=FSc
theorem Cg8 {f:Addr} {fd:FuncData} (F:Fun K "drop" "Shelf.drop" Aq6 f fd) (S:Shf K mg C):FnOk P w K mg base CX0 1 f fd ["self","number"] (Ax3 C):=by
 refine F.ok scDr (λvs H Q E h=>?_) (λcdv A outer s H vs Q E hr h=>?_)
 ·obtain ⟨m,q,n,rs,k,rfl,_⟩:=h
  rfl
 ·obtain ⟨m,q,n,rs,k,rfl,W,qq⟩:=h
  obtain ⟨dx,fs,hm,fo⟩:=W.ob
  obtain ⟨kvs,hq,rw⟩:=W.se
  refine ⟨_,Aa2 (Ac8 (Cw6 (Bw4 (Aj3 hr) (pv 1) (Af0 (pv 0) rfl))) (Aa4 (Ab2 Ah7)) Ab0) (Aa2 (Ad7 (Ce8 (Af0 (pv 0) rfl) (pv 1) ⟨rfl,rfl,rfl,rfl⟩)) (Aa4 (Ab2 Ah7))),?_⟩
  refine ⟨_,rfl,_,rfl,m,C,dx,fs,_,rfl,hm,S.cl,S.ns,fo.seats,q,_,rfl,DGet.k (k:=Sum.inl k) hq,_,rfl,?_⟩
  rcases rw.look k with ⟨e1,e2⟩ | ⟨p,r,t,e1,e2,e3⟩
  ·rw [e2]
   refine iteT ?_
   have z:=qq H (λb o _ e=>e) (by rw [Bz9 e1]; exact W)
   rw [e1] at z
   exact z
  ·rw [e2]
   refine iteF ?_
   refine ⟨_,rfl,m,C,dx,fs,_,rfl,hm,S.cl,S.ns,fo.seats,q,rfl,.inl ⟨kvs,.of hq⟩,_,rfl,kvs,Sum.inl k,_,hq,rfl,e2,?_⟩
   have z:=qq _ But.upd (W.seat (rw.del k) (Ca0 W.nd) (Nat.le_trans (Bo2 rs k) W.ln))
   rw [e1] at z
   exact z
theorem scKe:Ab5 ["self","number","page","rights","oldest"] ["self","number","page","rights"] (Aa1 Bh5):=FSc
theorem Cr9 {f f1:Addr} {fd fd1:FuncData} (F:Fun K "keep" "Shelf.keep" Bh5 f fd) (M1:Me K C "drop" "Shelf.drop" Aq6 ["self","number"] f1 fd1) (G1:FnOk P w K mg base CX0 1 f1 fd1 ["self","number"] (Ax3 C)) (S:Shf K mg C) (T:Txt K mg):FnOk P w K mg base CX0 2 f fd ["self","number","page","rights"] (Bu3 C):=by
 refine F.ok scKe (λvs H Q E h=>?_) (λcdv A outer s H vs Q E hr h=>?_)
 ·obtain ⟨m,q,n,rs,k,p,r,rfl,_⟩:=h
  rfl
 ·obtain ⟨m,q,n,rs,k,p,r,rfl,W,l12,qq⟩:=h
  obtain ⟨dx,fs,hm,fo⟩:=W.ob
  obtain ⟨kvs,hq,rw⟩:=W.se
  have hl:=rw.len
  refine ⟨_,Aa2 (Au0 (Aj3 hr) (Af0 (pv 0) rfl) (pv 1) (Af5 (Aa0 (pv 2) (Aa0 (pv 3) Aa3))) rfl) (Aa2 (Ac8 (Ab6 Bq2 (Ac9 Cb0 (by rfl) T.len PySem.boot_len (Aa0 (Af0 (pv 0) rfl) Aa3)) (Af0 (pv 0) rfl) (Ac0 _)) (Aa4 (Ab2 Ae8)) Ab0) (Aa2 (Ac5 (i:=4) scKe.nd rfl (Or.inl rfl) (Ad3 Ae2 (Ah5 (Av2 rfl) (by rfl) T.lst PyProof.Rows.boot_list (Aa0 (Af0 (pv 0) rfl) Aa3)) Aa5 (λ_ _=>rfl))) (Aa2 (Ad7 (Ac4 (pv 0) S.cl M1.m G1 hr M1.b .nil Ac1 (Aa0 (pv 4) Aa3))) (Aa4 (Ab2 (pv 4)))))),?_⟩
  refine ⟨_,rfl,_,rfl,(by show 2<=sizeLine; decide),λt ht=>?_⟩
  have s1:=Aa6 (o:=.tup [V.int p,V.int r]) ht
  refine ⟨_,rfl,m,C,dx,fs,_,rfl,s1 _ _ hm,S.cl,S.ns,fo.seats,_,rfl,q,_,rfl,DPut.k (k:=Sum.inl k) (s1 _ _ hq) (Nat.lt_of_lt_of_le (by omega:kvs.length<14) (by decide)),?_⟩
  have W2:Sh C _ m q n (putR rs (k,p,r)):=(W.same s1).seat ((rw.imp λt xs z=>s1 _ _ z).put (k:=k) (p:=p) (r:=r) W.nd upd_same) (Bi3 W.nd) (Nat.le_trans putR_len.1 (by omega))
  have b2:But q H _:=(But.of s1).trans (But.upd (H:=upd H t (.tup [V.int p,V.int r])) (o:=.dK (putK kvs (Sum.inl k) (.ref t))))
  generalize upd (upd H t (.tup [V.int p,V.int r])) q (.dK (putK kvs (Sum.inl k) (.ref t)))=H2 at *
  obtain ⟨dx2,fs2,hm2,fo2⟩:=W2.ob
  obtain ⟨kvs2,hq2,rw2⟩:=W2.se
  refine ⟨_,rfl,m,C,dx2,fs2,_,rfl,hm2,S.cl,S.ns,fo2.seats,q,kvs2,rfl,hq2,_,rfl,m,C,dx2,fs2,_,rfl,hm2,S.cl,S.nm,fo2.most,_,_,rfl,rfl,_,rfl,ite2 (λz=>?_) (λz=>?_)⟩
  ·have z':=of_decide_eq_true z
   rw [rw2.len] at z'
   have e:Ai1 n rs (k,p,r)=(putR rs (k,p,r),none):=by unfold Ai1; rw [if_pos z']
   have y:=qq H2 b2 (by rw [e]; exact W2)
   rw [e] at y
   exact y
  ·have z':¬ ((kvs2.length:Int)<=n):=λy=>z (decide_eq_true y)
   rw [rw2.len] at z'
   have e:Ai1 n rs (k,p,r)=((putR rs (k,p,r)).tail,(putR rs (k,p,r)).head?.map (·.1)):=by unfold Ai1; rw [if_neg z']
   cases hp:putR rs (k,p,r) with
   | nil =>
    have:=(putR_len (rs:=rs) (x:=(k,p,r))).2
    rw [hp] at this
    exact absurd this (by decide)
   | cons y ys =>
    rw [hp] at W2 rw2 e
    refine ⟨_,rfl,m,C,dx2,fs2,_,rfl,hm2,S.cl,S.ns,fo2.seats,q,kvs2,rfl,hq2,λl hl2=>?_⟩
    have s3:=Aa6 (o:=.lst (kvs2.map λkv=>kV kv.1)) hl2
    have at0:atI (kvs2.map λkv=>kV kv.1) ((0:Nat):Int)=some (.int y.1):=by
     rw [rw2.keys]
     exact Aj1 rfl
    refine ⟨l,_,_,_,rfl,rfl,SqL.of upd_same,at0,?_⟩
    have W3:=W2.same s3
    have b3:But q H _:=b2.trans (But.of s3)
    generalize upd H2 l (.lst (kvs2.map λkv=>kV kv.1))=H3 at *
    obtain ⟨dx3,fs3,hm3,fo3⟩:=W3.ob
    refine ⟨_,rfl,m,dx3,fs3,rfl,hm3,fo3.no _ (by decide +kernel) (by decide +kernel),_,rfl,m,q,n,_,y.1,rfl,W3,λH4 b4 W4=>?_⟩
    rw [Ca1 W2.nd] at W4
    have z5:=qq H4 (b3.trans b4) (by rw [e]; exact W4)
    rw [e] at z5
    exact ⟨_,rfl,z5⟩
theorem scEm:Ab5 ["self"] ["self"] (Aa1 At6):=FSc
theorem Ch5 {f:Addr} {fd:FuncData} (F:Fun K "empty" "Shelf.empty" At6 f fd) (S:Shf K mg C):FnOk P w K mg base CX0 1 f fd ["self"] (Bf5 C):=by
 refine F.ok scEm (λvs H Q E h=>?_) (λcdv A outer s H vs Q E hr h=>?_)
 ·obtain ⟨m,q,n,rs,rfl,_⟩:=h
  rfl
 ·obtain ⟨m,q,n,rs,rfl,W,qq⟩:=h
  obtain ⟨dx,fs,hm,fo⟩:=W.ob
  refine ⟨_,Aa4 (Ap0 (pv 0) Bm4 rfl),?_⟩
  intro p hp
  have np:m≠p:=Ac7 hm hp
  refine ⟨_,rfl,m,C,dx,fs,rfl,(by rw [Aa7 np]; exact hm),S.cl,S.ns,Nat.lt_of_le_of_lt fo.few (by decide),?_⟩
  refine qq p _ (λb o hb e=>?_) hp ⟨⟨dx,_,upd_same,⟨?_,?_,λg z1 z2=>?_,?_⟩⟩,⟨[],?_,.nil⟩,List.nodup_nil,by decide,W.n1,W.n2⟩
  ·rw [Aa7 hb,Aa7 (Ac7 e hp)]
   exact e
  ·rw [Ab7,if_neg (by decide +kernel)]
   exact fo.most
  ·rw [Ab7,if_pos rfl]
  ·rw [Ab7,if_neg z2]
   exact fo.no g z1 z2
  ·rw [Ak0 _ _ (by rw [fo.seats]; rfl)]
   exact fo.few
  ·rw [Aa7 np.symm]
   exact upd_same
end
theorem Way.seats {C SC PL:Addr} {H H':Hp} {a m h r q aw:Addr} {ps:Pgs} {n:Int} {rs rs':Rs} {bs:List Bool} {b:Int} (w:Way C SC PL H a m h r q aw ps n rs bs b) (e:But q H H') (S:Sh SC H' r q n rs'):Way C SC PL H' a m h r q aw ps n rs' bs b:=by
 obtain ⟨dx,fs,ea,f⟩:=w.ob
 obtain ⟨dm,em⟩:=w.M.ob
 obtain ⟨kvs,eq,_⟩:=w.S.se
 have pg:Pg H' h ps:=⟨e _ _ (Af1 w.M.pg.top eq nofun) w.M.pg.top,λi p ws z=>⟨e _ _ (Af1 (w.M.pg.each i p ws z).1 eq nofun) (w.M.pg.each i p ws z).1,(w.M.pg.each i p ws z).2⟩,w.M.pg.nd⟩
 exact ⟨⟨dx,fs,e _ _ (Af1 ea eq nofun) ea,f⟩,⟨⟨dm,e _ _ (Af1 em eq nofun) em⟩,pg,w.M.good,w.M.len⟩,S,e _ _ (Af1 w.an eq nofun) w.an,w.nd⟩
theorem Way.cleared {C SC PL:Addr} {H H':Hp} {a m h r q q' aw:Addr} {ps:Pgs} {n:Int} {rs rs':Rs} {bs:List Bool} {b:Int} (w:Way C SC PL H a m h r q aw ps n rs bs b) (e:But r H H') (S:Sh SC H' r q' n rs'):Way C SC PL H' a m h r q' aw ps n rs' bs b:=by
 obtain ⟨dx,fs,ea,f⟩:=w.ob
 obtain ⟨dm,em⟩:=w.M.ob
 obtain ⟨dr,fr,er,fo⟩:=w.S.ob
 have na:a≠r:=λz=>by
  rw [z,er] at ea
  cases ea
  have:=f.mem
  rw [fo.no _ (by decide +kernel) (by decide +kernel)] at this
  cases this
 have nm:m≠r:=λz=>by
  rw [z,er] at em
  cases em
  have:=Ai9 h
  rw [fo.no _ (by decide +kernel) (by decide +kernel)] at this
  cases this
 have pg:Pg H' h ps:=⟨e _ _ (Af1 w.M.pg.top er nofun) w.M.pg.top,λi p ws z=>⟨e _ _ (Af1 (w.M.pg.each i p ws z).1 er nofun) (w.M.pg.each i p ws z).1,(w.M.pg.each i p ws z).2⟩,w.M.pg.nd⟩
 exact ⟨⟨dx,fs,e _ _ na ea,f⟩,⟨⟨dm,e _ _ nm em⟩,pg,w.M.good,w.M.len⟩,S,e _ _ (Af1 w.an er nofun) w.an,w.nd⟩
end K28
end
section
namespace K28
open PySem L2
abbrev sRem:Stmt:=Ab1 (top 47) 7
abbrev Bg1:Stmt:=Ab1 (top 47) 8
abbrev Ao3:Stmt:=Ab1 (top 47) 6
def RsN (rs:Rs):Prop:=∀ k p r,Aj2 rs k=some (p,r)->0<=p/\0<=r
def remN (ps:Pgs) (rs:Rs) (pl:Nat) (wr k:Bool):Option Nat :=
 if pl<512 then (match Aj2 rs ((pl / 8:Nat):Int) with
  | none=>none
  | some (p,r)=>if (hasP ps (.int p) && letN r.toNat wr k)=true then some p.toNat else none) else none
def oN:Option Nat->V
 | none=>.non
 | some p=>.int (p:Int)
def Kpw (h q:Addr) (ps:Pgs) (H H':Hp):Prop:=∀ b o,¬ At h ps b->b≠q->H b=some o->H' b=some o
theorem Ai4 {ps:Pgs} {rt pl:Nat} {wr k:Bool} {p1 pg t l:Nat} (e:Ag9 ps rt pl wr k=.trail p1 pg t l):pl<512/\hasP ps (.int (rt:Int))=true/\hasP ps (.int (p1:Int))=true/\hasP ps (.int (pg:Int))=true/\t=Ad8 ps rt (pl / 8 / 8)/\p1=t / 256/\l=Ad8 ps p1 (pl / 8 % 8)/\pg=l / 256/\Ag2 ps t wr k=none/\Ag2 ps l wr k=none:=by
 unfold Ag9 at e
 split at e
 ·cases e
 rename_i h1
 split at e
 ·cases e
 rename_i h2
 cases h3:Ag2 ps (Ad8 ps rt (pl / 8 / 8)) wr k with
 | some z=>rw [h3] at e; cases e
 | none =>
 rw [h3] at e
 cases h4:Ag2 ps (Ad8 ps (Ad8 ps rt (pl / 8 / 8) / 256) (pl / 8 % 8)) wr k with
 | some z=>rw [h4] at e; cases e
 | none =>
 rw [h4] at e
 cases e
 refine ⟨by omega,?_,Az2 h3,Az2 h4,rfl,rfl,rfl,rfl,h3,h4⟩
 cases hb:hasP ps (.int (rt:Int)) with
 | true=>rfl
 | false=>exact absurd hb h2
def Cm5 (C SC PL:Addr):Sp:=λvs H Q _=>∃ (a m h r q aw:Addr) (ps:Pgs) (n:Int) (rs:Rs) (bs:List Bool) (b:Int) (pl:Nat) (wr k:Bool),vs=[.ref a,.int pl,.bl wr,.bl k]/\Way C SC PL H a m h r q aw ps n rs bs b/\RsN rs/\Q (oN (remN ps rs pl wr k)) H
def Wkd (C SC PL FA:Addr) (H:Hp) (Q:VK) (E:XK) (a m h r q aw:Addr) (ps:Pgs) (n:Int) (rs:Rs) (bs:List Bool) (rt pl:Nat) (wr k:Bool):Prop :=
 (∀ z lv,Ag9 ps rt pl wr k=.fault z lv->∀ H',Same H H'->ExF FA E H' z pl lv) /\
 ∀ p1 pg t l,Ag9 ps rt pl wr k=.trail p1 pg t l->∀ H',Way C SC PL H' a m h r q aw (mkN (mkN ps rt (pl / 8 / 8) 8) p1 (pl / 8 % 8) (if wr then 24 else 8)) n (Ai1 n rs (((pl / 8:Nat):Int),(pg:Int),((if wr then rigN t l ||| 16 else rigN t l:Nat):Int))).1 bs (rt:Int)->Kpw h q ps H H'->Q (.int (pg:Int)) H'
def Bs9 (C SC PL FA:Addr):Sp:=λvs H Q E=>∃ (a m h r q aw:Addr) (ps:Pgs) (n:Int) (rs:Rs) (bs:List Bool) (rt pl:Nat) (wr k:Bool),vs=[.ref a,.int pl,.bl wr,.bl k]/\Way C SC PL H a m h r q aw ps n rs bs (rt:Int)/\rs.length<=12/\Wkd C SC PL FA H Q E a m h r q aw ps n rs bs rt pl wr k
def As5 (C SC PL FA:Addr):Sp:=λvs H Q E=>∃ (a m h r q aw:Addr) (ps:Pgs) (n:Int) (rs:Rs) (bs:List Bool) (rt pl:Nat) (wr k:Bool),vs=[.ref a,.int pl,.bl wr,.bl k]/\Way C SC PL H a m h r q aw ps n rs bs (rt:Int)/\rs.length<=12/\RsN rs/\(∀ p,remN ps rs pl wr k=some p->Q (.int (p:Int)) H)/\(remN ps rs pl wr k=none->Wkd C SC PL FA H Q E a m h r q aw ps n rs bs rt pl wr k)
section
variable {P : Program} {w : World} {K : PySem.W.Frag} {mg : Str → Option Value} {base : Heap} {C NP NL NW NI SC PL WC FA : Addr}
theorem sc_rem:Ab5 ["self","place","write","kernel","row"] ["self","place","write","kernel"] (Aa1 sRem):=FSc
theorem Cx8 {f f1 f2 f3 f4 f5:Addr} {fd fd1 fd2 fd3 fd4 fd5:FuncData} (F:Fun K "remembered" "Ways.remembered" sRem f fd) (B:Dn K mg "is_below" Aj5 ["thing","bound"] f1 fd1) (GB:FnOk P w K mg base CX0 2 f1 fd1 ["thing","bound"] Aj9) (Bn:Dn K mg "number_of" sNum ["place"] f2 fd2) (GBn:FnOk P w K mg base CX0 3 f2 fd2 ["place"] Bp6) (M1:Me K SC "seek" "Shelf.seek" Bg3 ["self","number"] f3 fd3) (GM1:FnOk P w K mg base CX0 1 f3 fd3 ["self","number"] (Bt1 SC)) (M2:Me K PL "has" "Plain.has" Ao5 ["self","page"] f4 fd4) (GM2:FnOk P w K mg base CX0 4 f4 fd4 ["self","page"] (Al5 C SC PL)) (Bl:Dn K mg "lets" Bh3 ["rights","write","kernel"] f5 fd5) (GBl:FnOk P w K mg base CX0 2 f5 fd5 ["rights","write","kernel"] Bu1) (PC:Plc K PL) (SS:Shf K mg SC) (R:Rws0 K mg):FnOk P w K mg base CX0 5 f fd ["self","place","write","kernel"] (Cm5 C SC PL):=by
 obtain ⟨t_pl,c_pl⟩:=R.pl
 refine F.ok sc_rem (λvs H Q E h'=>?_) (λcdv A outer s H vs Q E hr h'=>?_)
 ·obtain ⟨a,m,h,r,q,aw,ps,n,rs,bs,b,pl,wr,k,rfl,_⟩:=h'
  rfl
 ·obtain ⟨a,m,h,r,q,aw,ps,n,rs,bs,b,pl,wr,k,rfl,W,rn,q0⟩:=h'
  have hr3:Room 3 _:=hr.mono (by decide)
  have hr2:Room 2 _:=hr.mono (by decide)
  have hr1:Room 1 _:=hr.mono (by decide)
  refine ⟨_,(Aa2 (Ac8 (Ae0 (Ad1 (Ab3 GB hr2 (by rfl) B.m B.F.kp B.b .nil Ac1 (Aa0 (pv 1) (Aa0 (Ad6 (by rfl) c_pl (show RelV (.int 512) (.int 512 t_pl) from ⟨_,rfl⟩)) Aa3))))) (Aa4 (Ab2 Ae8)) Ab0) (Aa2 (Ac5 (i:=4) sc_rem.nd rfl (Or.inl rfl) (Ac4 (Af0 (pv 0) rfl) SS.cl M1.m GM1 hr1 M1.b .nil Ac1 (Aa0 (Ab3 GBn hr3 (by rfl) Bn.m Bn.F.kp Bn.b .nil Ac1 (Aa0 (pv 1) Aa3)) Aa3))) (Aa2 (Ac8 (PW.pt (Al7 (Ab6 Au3 (pv 4) Ae8 (Ac0 _)) (Al7 (Ae0 (Ad1 (Ac4 (pv 0) PC.cl M2.m GM2 hr M2.b .nil Ac1 (Aa0 (Ad3 Ad4 (pv 4) Aa5 (λ_ _=>rfl)) Aa3)))) (Ai5 (Ae0 (Ad1 (Ab3 GBl hr2 (by rfl) Bl.m Bl.F.kp Bl.b .nil Ac1 (Aa0 (Ad3 Ad4 (pv 4) Aa5 (λ_ _=>rfl)) (Aa0 (pv 2) (Aa0 (pv 3) Aa3)))))))))) (Aa4 (Ab2 Ae8)) Ab0) (Aa4 (Ab2 (Ad3 Ad4 (pv 4) Aa5 (λ_ _=>rfl))))))),?_⟩
  obtain ⟨dx,fs,ha,wf⟩:=W.ob
  obtain ⟨dr,fr,hr0,fo⟩:=W.S.ob
  have Rm:remN ps rs pl wr k=(if pl<512 then (match Aj2 rs ((pl / 8:Nat):Int) with | none=>none | some (p,r)=>if (hasP ps (.int p) && letN r.toNat wr k)=true then some p.toNat else none) else none):=rfl
  refine ⟨_,rfl,_,_,rfl,.int _,_,rfl,?_⟩
  by_cases hp:pl<512
  ·rw [Ae3 (by omega) (by omega)]
   rw [if_pos hp] at Rm
   refine iteF ⟨_,rfl,a,PL,dx,fs,_,rfl,ha,PC.cl,PC.nr,wf.rck,r,dr,fr,rfl,hr0,fo.no _ (by decide +kernel) (by decide +kernel),_,rfl,pl,rfl,hp,r,_,n,rs,_,rfl,W.S,λhn=>?_,λp rg t hs ht=>?_⟩
   ·rw [hn] at Rm
    rw [Rm] at q0
    exact ⟨_,rfl,rfl,_,rfl,Ae7 rfl q0⟩
   ·rw [hs] at Rm
    obtain ⟨p0,r0⟩:=rn _ _ _ hs
    obtain ⟨rN,rfl⟩:∃ rN:Nat,rg=(rN:Int):=⟨rg.toNat,by omega⟩
    obtain ⟨pN,rfl⟩:∃ pN:Nat,p=(pN:Int):=⟨p.toNat,by omega⟩
    dsimp only at Rm
    rw [Int.toNat_natCast,Int.toNat_natCast] at Rm
    refine ⟨_,rfl,rfl,_,rfl,Ac3 (decide_eq_false nofun) ⟨_,rfl,a,dx,fs,rfl,ha,wf.nq _,_,rfl,t,_,_,_,rfl,rfl,SqT.of ht,rfl,a,m,h,r,q,aw,ps,n,rs,bs,b,_,rfl,W,.int _,_,rfl,?_⟩⟩
    cases hb:hasP ps (.int (pN:Int)) with
    | false =>
     rw [hb] at Rm
     rw [Rm] at q0
     exact iteT q0
    | true =>
     rw [hb] at Rm
     refine iteF ⟨_,rfl,t,_,_,_,rfl,rfl,SqT.of ht,rfl,_,rfl,_,rfl,rN,wr,k,rfl,_,rfl,?_⟩
     cases hl:letN rN wr k with
     | false =>
      rw [hl] at Rm
      rw [Rm] at q0
      exact iteT q0
     | true =>
      rw [hl] at Rm
      rw [Rm] at q0
      exact iteF ⟨_,rfl,t,_,_,_,rfl,rfl,SqT.of ht,rfl,q0⟩
  ·rw [Be1 (by omega)]
   rw [if_neg hp] at Rm
   rw [Rm] at q0
   exact iteT q0
theorem sc_walk:Ab5 ["self","place","write","kernel","trail","rights"] ["self","place","write","kernel"] (Aa1 Bg1):=FSc
theorem Cp8 {f f1 f2 f3 f4:Addr} {fd fd1 fd2 fd3 fd4:FuncData} (F:Fun K "walked" "Ways.walked" Bg1 f fd) (Bk:Dn K mg "look" Bh1 ["store","root","place","write","kernel"] f1 fd1) (GBk:FnOk P w K mg base (CXr P w) 8 f1 fd1 ["store","root","place","write","kernel"] (Bt9 C SC PL FA)) (Bm:Dn K mg "mark" Bh0 ["store","trail","write"] f2 fd2) (GBm:FnOk P w K mg base CX0 9 f2 fd2 ["store","trail","write"] (Bt8 C SC PL)) (Bn:Dn K mg "number_of" sNum ["place"] f3 fd3) (GBn:FnOk P w K mg base CX0 3 f3 fd3 ["place"] Bp6) (M1:Me K SC "keep" "Shelf.keep" Bh5 ["self","number","page","rights"] f4 fd4) (GM1:FnOk P w K mg base CX0 2 f4 fd4 ["self","number","page","rights"] (Bu3 SC)) (PC:Plc K PL) (SS:Shf K mg SC):FnOk P w K mg base (CXr P w) 10 f fd ["self","place","write","kernel"] (Bs9 C SC PL FA):=by
 refine F.okR sc_walk (λvs H Q E h'=>?_) (λcdv A outer s H vs Q E hr h'=>?_)
 ·obtain ⟨a,m,h,r,q,aw,ps,n,rs,bs,rt,pl,wr,k,rfl,_⟩:=h'
  rfl
 ·obtain ⟨a,m,h,r,q,aw,ps,n,rs,bs,rt,pl,wr,k,rfl,W,hl,kk⟩:=h'
  have hr8:Room 8 _:=hr.mono (by decide)
  have hr3:Room 3 _:=hr.mono (by decide)
  have hr2:Room 2 _:=hr.mono (by decide)
  refine ⟨_,(Aa2 (Ac5 (i:=4) sc_walk.nd rfl (Or.inl rfl) (Ab3 GBk hr8 (by rfl) Bk.m Bk.F.kp Bk.b .nil Ah8 (Aa0 (pv 0) (Aa0 (Af0 (pv 0) rfl) (Aa0 (pv 1) (Aa0 (pv 2) (Aa0 (pv 3) Aa3))))))) (Aa2 (Ac5 (i:=5) sc_walk.nd rfl (Or.inl rfl) (Ab3 GBm hr (by rfl) Bm.m Bm.F.kp Bm.b .nil Ac1 (Aa0 (pv 0) (Aa0 (pv 4) (Aa0 (pv 2) Aa3))))) (Aa2 (Ad7 (Ac4 (Af0 (pv 0) rfl) SS.cl M1.m GM1 hr2 M1.b .nil Ac1 (Aa0 (Ab3 GBn hr3 (by rfl) Bn.m Bn.F.kp Bn.b .nil Ac1 (Aa0 (pv 1) Aa3)) (Aa0 (Ad3 Ad4 (pv 4) Aa5 (λ_ _=>rfl)) (Aa0 (pv 5) Aa3))))) (Aa4 (Ab2 (Ad3 Ad4 (pv 4) Aa5 (λ_ _=>rfl))))))),?_⟩
  obtain ⟨dx,fs,ha,wf⟩:=W.ob
  obtain ⟨kf,kt⟩:=kk
  refine ⟨_,rfl,_,rfl,a,PL,dx,fs,_,rfl,ha,PC.cl,PC.nb,wf.bas,_,rfl,_,rfl,_,rfl,a,m,h,r,q,aw,ps,n,rs,bs,(rt:Int),rt,pl,wr,k,rfl,W,kf,λp1 pg t l ht tt t1 t2 H1 s1 z z1 z2=>?_⟩
  obtain ⟨hp,h1,h2,_⟩:=Ai4 ht
  refine ⟨_,rfl,_,rfl,_,rfl,a,m,h,r,q,aw,ps,n,rs,bs,(rt:Int),tt,t1,t2,rt,pl / 8 / 8,p1,pl / 8 % 8,pg,rigN t l,wr,rfl,W.same s1,z,z1,z2,h1,h2,by omega,by omega,λH2 W2 k2=>?_⟩
  have nt:¬ At h ps tt:=λy=>by
   rcases y with y | ⟨i,ws,y⟩
   ·have e:=(W.same s1).M.pg.top; rw [<- y,z] at e; cases e
   ·have e:=((W.same s1).M.pg.each i tt ws y).1; rw [z] at e; cases e
  have zt:=k2 _ _ nt z
  obtain ⟨dx,fs,ha,wf⟩:=W2.ob
  obtain ⟨dr,fr,hr0,fo⟩:=W2.S.ob
  obtain ⟨kvs,eq,_⟩:=W2.S.se
  refine ⟨_,rfl,a,PL,dx,fs,_,rfl,ha,PC.cl,PC.nr,wf.rck,r,dr,fr,rfl,hr0,fo.no _ (by decide +kernel) (by decide +kernel),_,rfl,pl,rfl,hp,_,rfl,tt,_,_,_,rfl,rfl,SqT.of zt,rfl,_,rfl,r,q,n,rs,_,_,_,rfl,W2.S,hl,λH3 b3 S3=>?_⟩
  have zt3:=b3 _ _ (Af1 zt eq nofun) zt
  exact ⟨_,rfl,tt,_,_,_,rfl,rfl,SqT.of zt3,rfl,kt _ _ _ _ ht H3 (W2.seats b3 S3) λb o nb nq y=>b3 b o nq (k2 b o nb (s1 _ _ y))⟩
theorem sc_reach:Ab5 ["self","place","write","kernel","page"] ["self","place","write","kernel"] (Aa1 Ao3):=FSc
theorem Cg9 {f f1 f2:Addr} {fd fd1 fd2:FuncData} (F:Fun K "reach" "Ways.reach" Ao3 f fd) (M1:Me K PL "remembered" "Ways.remembered" sRem ["self","place","write","kernel"] f1 fd1) (GM1:FnOk P w K mg base CX0 5 f1 fd1 ["self","place","write","kernel"] (Cm5 C SC PL)) (M2:Me K PL "walked" "Ways.walked" Bg1 ["self","place","write","kernel"] f2 fd2) (GM2:FnOk P w K mg base (CXr P w) 10 f2 fd2 ["self","place","write","kernel"] (Bs9 C SC PL FA)) (PC:Plc K PL):FnOk P w K mg base (CXr P w) 11 f fd ["self","place","write","kernel"] (As5 C SC PL FA):=by
 refine F.okR sc_reach (λvs H Q E h'=>?_) (λcdv A outer s H vs Q E hr h'=>?_)
 ·obtain ⟨a,m,h,r,q,aw,ps,n,rs,bs,rt,pl,wr,k,rfl,_⟩:=h'
  rfl
 ·obtain ⟨a,m,h,r,q,aw,ps,n,rs,bs,rt,pl,wr,k,rfl,W,hl,rn,q1,q2⟩:=h'
  have hr5:Room 5 _:=hr.mono (by decide)
  refine ⟨_,(Aa2 (Ac5 (i:=4) sc_reach.nd rfl (Or.inl rfl) (Ac4 (pv 0) PC.cl M1.m GM1 hr5 M1.b .nil Ac1 (Aa0 (pv 1) (Aa0 (pv 2) (Aa0 (pv 3) Aa3))))) (Aa2 (Ac8 (Ab6 Au3 (pv 4) Ae8 (Ac0 _)) (Aa4 (Ac5 (i:=4) sc_reach.nd rfl (Or.inl rfl) (Ac4 (pv 0) PC.cl M2.m GM2 hr M2.b .nil Ah8 (Aa0 (pv 1) (Aa0 (pv 2) (Aa0 (pv 3) Aa3)))))) Ab0) (Aa4 (Ab2 (pv 4))))),?_⟩
  obtain ⟨dx,fs,ha,wf⟩:=W.ob
  refine ⟨_,rfl,a,dx,fs,rfl,ha,wf.nq _,_,rfl,_,rfl,_,rfl,a,m,h,r,q,aw,ps,n,rs,bs,(rt:Int),pl,wr,k,rfl,W,rn,?_⟩
  cases hm:remN ps rs pl wr k with
  | some p=>exact ⟨_,rfl,rfl,_,rfl,Ac3 (decide_eq_false nofun) ⟨_,rfl,q1 p hm⟩⟩
  | none =>
   refine ⟨_,rfl,rfl,_,rfl,Ae7 rfl ⟨_,rfl,a,dx,fs,rfl,ha,wf.nq _,_,rfl,_,rfl,_,rfl,a,m,h,r,q,aw,ps,n,rs,bs,rt,pl,wr,k,rfl,W,hl,(q2 hm).1,λp1 pg t l ht H1 W1 k1=>⟨_,rfl,(q2 hm).2 p1 pg t l ht H1 W1 k1⟩⟩⟩
end
end K28
end
section
namespace K28
open PySem L2
abbrev Bh2:Stmt:=Ab1 (top 47) 4
abbrev Bg4:Stmt:=Ab1 (top 47) 5
abbrev Bg2:Stmt:=Ab1 (top 47) 13
abbrev At1:Stmt:=Ab1 (top 47) 14
def Rchd (C SC PL FA:Addr) (H:Hp) (K1:Nat->Pgs->Rs->Hp->Prop) (E:XK) (a m h r q aw:Addr) (ps:Pgs) (n:Int) (rs:Rs) (bs:List Bool) (rt pl:Nat) (wr k:Bool):Prop :=
 (∀ p,remN ps rs pl wr k=some p->K1 p ps rs H)/\(remN ps rs pl wr k=none->(∀ z lv,Ag9 ps rt pl wr k=.fault z lv->∀ H',Same H H'->ExF FA E H' z pl lv) /\
  ∀ p1 pg t l,Ag9 ps rt pl wr k=.trail p1 pg t l->∀ H',Way C SC PL H' a m h r q aw (mkN (mkN ps rt (pl / 8 / 8) 8) p1 (pl / 8 % 8) (if wr then 24 else 8)) n (Ai1 n rs (((pl / 8:Nat):Int),(pg:Int),((if wr then rigN t l ||| 16 else rigN t l:Nat):Int))).1 bs (rt:Int)->Kpw h q ps H H' ->
   K1 pg (mkN (mkN ps rt (pl / 8 / 8) 8) p1 (pl / 8 % 8) (if wr then 24 else 8)) (Ai1 n rs (((pl / 8:Nat):Int),(pg:Int),((if wr then rigN t l ||| 16 else rigN t l:Nat):Int))).1 H')
def Bu0 (C SC PL FA:Addr):Sp:=λvs H Q E=>∃ (a m h r q aw:Addr) (ps:Pgs) (n:Int) (rs:Rs) (bs:List Bool) (rt pl:Nat) (k:Bool),vs=[.ref a,.int pl,.bl k]/\Way C SC PL H a m h r q aw ps n rs bs (rt:Int)/\rs.length<=12/\RsN rs /\
 Rchd C SC PL FA H (λp ps' rs' H1=>∀ H',Same H1 H'->Q (.int ((Ad8 ps' p (pl % 8):Nat):Int)) H') E a m h r q aw ps n rs bs rt pl false k
def Bt2 (C SC PL FA:Addr):Sp:=λvs H Q E=>∃ (a m h r q aw:Addr) (ps:Pgs) (n:Int) (rs:Rs) (bs:List Bool) (rt pl:Nat) (v:Int) (k:Bool),vs=[.ref a,.int pl,.int v,.bl k]/\Way C SC PL H a m h r q aw ps n rs bs (rt:Int)/\rs.length<=12/\RsN rs/\0<=v/\v<281474976710656 /\
 Rchd C SC PL FA H (λp ps' rs' H1=>∀ H',Way C SC PL H' a m h r q aw (setW ps' p (pl % 8) v) n rs' bs (rt:Int)->Kpw h q ps' H1 H'->Q .non H') E a m h r q aw ps n rs bs rt pl true k
def Bt0 (C SC PL:Addr):Sp:=λvs H Q _=>∃ (a m h r q aw:Addr) (ps:Pgs) (n:Int) (rs:Rs) (bs:List Bool) (b x:Int),vs=[.ref a,.int x]/\Way C SC PL H a m h r q aw ps n rs bs b/\∀ H' q',Way C SC PL H' a m h r q' aw ps n [] bs x->(∀ b o,b≠a->b≠r->H b=some o->H' b=some o)->H q'=none->Q .non H'
def Be7 (C SC PL:Addr):Sp:=λvs H Q _=>∃ (a m h r q aw:Addr) (ps:Pgs) (n:Int) (rs:Rs) (bs:List Bool) (b:Int) (pl:Nat),vs=[.ref a,.int pl]/\Way C SC PL H a m h r q aw ps n rs bs b/\(¬ pl<512->Q .non H)/\∀ H',Way C SC PL H' a m h r q aw ps n (delR rs ((pl / 8:Nat):Int)) bs b->But q H H'->pl<512->Q .non H'
theorem Bi2 {ps:Pgs} {rs:Rs} {pl:Nat} {wr k:Bool} {p:Nat} (rn:RsN rs) (h:remN ps rs pl wr k=some p):pl<512/\hasP ps (.int (p:Int))=true:=by
 unfold remN at h
 split at h
 ·rename_i hp
  refine ⟨hp,?_⟩
  cases hl:Aj2 rs ((pl / 8:Nat):Int) with
  | none=>rw [hl] at h; cases h
  | some y =>
   obtain ⟨p2,r2⟩:=y
   rw [hl] at h
   dsimp only at h
   split at h
   ·rename_i hb
    cases h
    have:=(rn _ _ _ hl).1
    rw [Bool.and_eq_true] at hb
    rw [Int.toNat_of_nonneg this]
    exact hb.1
   ·cases h
 ·cases h
theorem Way.base {C SC PL:Addr} {H:Hp} {a m h r q aw:Addr} {ps:Pgs} {n:Int} {rs:Rs} {bs:List Bool} {b x:Int} {dx:Addr} {fs:List (Str×V)} (w:Way C SC PL H a m h r q aw ps n rs bs b) (ha:H a=some (.ins PL dx fs)) (wf:Wf fs m r aw b):Way C SC PL (upd H a (.ins PL dx (putF "base" (.int x) fs))) a m h r q aw ps n rs bs x:=by
 obtain ⟨dm,em⟩:=w.M.ob
 obtain ⟨dr,fr,er,fo⟩:=w.S.ob
 obtain ⟨kvs,eq,_⟩:=w.S.se
 have nr:r≠a:=λz=>by
  rw [z,ha] at er
  cases er
  have:=wf.mem
  rw [fo.no _ (by decide +kernel) (by decide +kernel)] at this
  cases this
 have nm:m≠a:=λz=>by
  rw [z,ha] at em
  cases em
  have:=wf.mem
  rw [Ai8 h (by decide +kernel)] at this
  cases this
 refine ⟨⟨dx,_,upd_same,⟨?_,?_,?_,?_,λg z1 z2 z3 z4=>?_,?_⟩⟩,⟨⟨dm,by rw [Aa7 nm]; exact em⟩,w.M.pg.keep λb hb=>Aa7 (λz=>?_),w.M.good,w.M.len⟩,w.S.but But.upd nr (Af1 eq ha nofun) (λxs z=>by rw [ha] at z; cases z),by rw [Aa7 (Af1 w.an ha nofun)]; exact w.an,w.nd⟩
 ·rw [Ab7,if_neg (by decide +kernel)]; exact wf.mem
 ·rw [Ab7,if_pos rfl]
 ·rw [Ab7,if_neg (by decide +kernel)]; exact wf.rck
 ·rw [Ab7,if_neg (by decide +kernel)]; exact wf.ans
 ·rw [Ab7,if_neg z2]; exact wf.no g z1 z2 z3 z4
 ·rw [Ak0 _ _ (by rw [wf.bas]; rfl)]; exact wf.len
 ·rcases hb with hb | ⟨i,ws,hb⟩
  ·have y:=w.M.pg.top; rw [<- hb,z,ha] at y; cases y
  ·have y:=(w.M.pg.each i b ws hb).1; rw [z,ha] at y; cases y
section
variable {P : Program} {w : World} {K : PySem.W.Frag} {mg : Str → Option Value} {base : Heap} {C NP NL NW NI SC PL WC FA : Addr}
theorem sc_load:Ab5 ["self","place","kernel","page"] ["self","place","kernel"] (Aa1 Bh2):=FSc
theorem Cr6 {f f1 f2 f3:Addr} {fd fd1 fd2 fd3:FuncData} (F:Fun K "load" "Ways.load" Bh2 f fd) (M1:Me K PL "reach" "Ways.reach" Ao3 ["self","place","write","kernel"] f1 fd1) (GM1:FnOk P w K mg base (CXr P w) 11 f1 fd1 ["self","place","write","kernel"] (As5 C SC PL FA)) (M2:Me K PL "read" "Store.read" Av1 ["self","page","cell"] f2 fd2) (GM2:FnOk P w K mg base (CXr P w) 7 f2 fd2 ["self","page","cell"] (Ap7 C SC PL NP NL)) (Bq:Dn K mg "parts_of" Ao4 ["place"] f3 fd3) (GBq:FnOk P w K mg base CX0 4 f3 fd3 ["place"] As7) (PC:Plc K PL):FnOk P w K mg base (CXr P w) 12 f fd ["self","place","kernel"] (Bu0 C SC PL FA):=by
 refine F.okR sc_load (λvs H Q E h'=>?_) (λcdv A outer s H vs Q E hr h'=>?_)
 ·obtain ⟨a,m,h,r,q,aw,ps,n,rs,bs,rt,pl,k,rfl,_⟩:=h'
  rfl
 ·obtain ⟨a,m,h,r,q,aw,ps,n,rs,bs,rt,pl,k,rfl,W,hl,rn,kk⟩:=h'
  have hr7:Room 7 _:=hr.mono (by decide)
  have hr4:Room 4 _:=hr.mono (by decide)
  refine ⟨_,(Aa2 (Ac5 (i:=3) sc_load.nd rfl (Or.inl rfl) (Ac4 (pv 0) PC.cl M1.m GM1 hr M1.b .nil Ah8 (Aa0 (pv 1) (Aa0 Ah7 (Aa0 (pv 2) Aa3))))) (Aa4 (Ab2 (Ac4 (pv 0) PC.cl M2.m GM2 hr7 M2.b .nil Ah8 (Aa0 (pv 3) (Aa0 (Ad3 Ad4 (Ab3 GBq hr4 (by rfl) Bq.m Bq.F.kp Bq.b .nil Ac1 (Aa0 (pv 1) Aa3)) Aa5 (λ_ _=>rfl)) Aa3)))))),?_⟩
  obtain ⟨dx,fs,ha,wf⟩:=W.ob
  refine ⟨_,rfl,a,dx,fs,rfl,ha,wf.nq _,_,rfl,_,rfl,a,m,h,r,q,aw,ps,n,rs,bs,rt,pl,false,k,rfl,W,hl,rn,λp hm=>?_,λhm=>⟨(kk.2 hm).1,λp1 pg t0 l ht H1 W1 k1=>?_⟩⟩
  ·obtain ⟨hp,hh⟩:=Bi2 rn hm
   have q1:=kk.1 p hm
   have W1:=W
   obtain ⟨dx,fs,ha,wf⟩:=W1.ob
   refine ⟨_,rfl,a,dx,fs,rfl,ha,wf.nq _,_,rfl,_,rfl,pl,rfl,hp,λt ht=>?_⟩
   have s1:=Aa6 (o:=.tup [.int ((pl / 8 / 8:Nat):Int),.int ((pl / 8 % 8:Nat):Int),.int ((pl % 8:Nat):Int)]) ht
   refine ⟨t,_,_,_,rfl,rfl,SqT.of upd_same,rfl,a,m,h,r,q,aw,ps,n,rs,bs,(rt:Int),_,_,rfl,W1.same s1,.int _,.int _,λi j p3 ws e1 e2 e3 hj=>?_,λy=>absurd (hh.symm.trans y) (by decide),λ_ y=>absurd ((Ae3 (by omega) (by omega)).symm.trans y) (by decide)⟩
   obtain rfl:p=i:=by have:=V.int.inj e1; omega
   obtain rfl:pl % 8=j:=by have:=V.int.inj e2; omega
   have good:=W1.M.good _ _ _ e3
   have w0:0<=ws.getD (pl % 8) 0:=(good.2 _ (by rw [List.getD_eq_getElem?_getD,List.getElem?_eq_getElem (by omega)]; exact List.getElem_mem _)).1
   rw [Ah4 e3 w0]
   exact q1 _ s1
  ·obtain ⟨hp,_,_,hh0,_⟩:=Ai4 ht
   have q1:=(kk.2 hm).2 p1 pg t0 l ht H1 W1 k1
   have hh:hasP (mkN (mkN ps rt (pl / 8 / 8) 8) p1 (pl / 8 % 8) (if false=true then 24 else 8)) (.int (pg:Int))=true:=by rw [Ai2,Ai2]; exact hh0
   obtain ⟨dx,fs,ha,wf⟩:=W1.ob
   refine ⟨_,rfl,a,dx,fs,rfl,ha,wf.nq _,_,rfl,_,rfl,pl,rfl,hp,λt ht=>?_⟩
   have s1:=Aa6 (o:=.tup [.int ((pl / 8 / 8:Nat):Int),.int ((pl / 8 % 8:Nat):Int),.int ((pl % 8:Nat):Int)]) ht
   refine ⟨t,_,_,_,rfl,rfl,SqT.of upd_same,rfl,a,m,h,r,q,aw,(mkN (mkN ps rt (pl / 8 / 8) 8) p1 (pl / 8 % 8) (if false=true then 24 else 8)),n,(Ai1 n rs (((pl / 8:Nat):Int),(pg:Int),((if false=true then rigN t0 l ||| 16 else rigN t0 l:Nat):Int))).1,bs,(rt:Int),_,_,rfl,W1.same s1,.int _,.int _,λi j p3 ws e1 e2 e3 hj=>?_,λy=>absurd (hh.symm.trans y) (by decide),λ_ y=>absurd ((Ae3 (by omega) (by omega)).symm.trans y) (by decide)⟩
   obtain rfl:pg=i:=by have:=V.int.inj e1; omega
   obtain rfl:pl % 8=j:=by have:=V.int.inj e2; omega
   have good:=W1.M.good _ _ _ e3
   have w0:0<=ws.getD (pl % 8) 0:=(good.2 _ (by rw [List.getD_eq_getElem?_getD,List.getElem?_eq_getElem (by omega)]; exact List.getElem_mem _)).1
   rw [Ah4 e3 w0]
   exact q1 _ s1
theorem Cd6:Ab5 ["self","place"] ["self","place"] (Aa1 At1):=FSc
theorem Cg1 {f f1 f2 f3:Addr} {fd fd1 fd2 fd3:FuncData} (F:Fun K "drop" "Ways.drop" At1 f fd) (B:Dn K mg "is_below" Aj5 ["thing","bound"] f1 fd1) (GB:FnOk P w K mg base CX0 2 f1 fd1 ["thing","bound"] Aj9) (Bn:Dn K mg "number_of" sNum ["place"] f2 fd2) (GBn:FnOk P w K mg base CX0 3 f2 fd2 ["place"] Bp6) (M1:Me K SC "drop" "Shelf.drop" Aq6 ["self","number"] f3 fd3) (GM1:FnOk P w K mg base CX0 1 f3 fd3 ["self","number"] (Ax3 SC)) (PC:Plc K PL) (SS:Shf K mg SC) (R:Rws0 K mg):FnOk P w K mg base CX0 4 f fd ["self","place"] (Be7 C SC PL):=by
 obtain ⟨t_pl,c_pl⟩:=R.pl
 refine F.ok Cd6 (λvs H Q E h'=>?_) (λcdv A outer s H vs Q E hr h'=>?_)
 ·obtain ⟨a,m,h,r,q,aw,ps,n,rs,bs,b,pl,rfl,_⟩:=h'
  rfl
 ·obtain ⟨a,m,h,r,q,aw,ps,n,rs,bs,b,pl,rfl,W,k0,k1⟩:=h'
  have hr2:Room 2 _:=hr.mono (by decide)
  have hr1:Room 1 _:=hr.mono (by decide)
  refine ⟨_,(Aa4 (Ac8 (Ad1 (Ab3 GB hr2 (by rfl) B.m B.F.kp B.b .nil Ac1 (Aa0 (pv 1) (Aa0 (Ad6 (by rfl) c_pl (show RelV (.int 512) (.int 512 t_pl) from ⟨_,rfl⟩)) Aa3)))) (Aa4 (Ad7 (Ac4 (Af0 (pv 0) rfl) SS.cl M1.m GM1 hr1 M1.b .nil Ac1 (Aa0 (Ab3 GBn hr (by rfl) Bn.m Bn.F.kp Bn.b .nil Ac1 (Aa0 (pv 1) Aa3)) Aa3)))) Ab0)),?_⟩
  obtain ⟨dr,fr,hr0,fo⟩:=W.S.ob
  obtain ⟨dx,fs,ha,wf⟩:=W.ob
  refine ⟨_,rfl,_,_,rfl,.int _,_,rfl,?_⟩
  by_cases hp:pl<512
  ·rw [Ae3 (by omega) (by omega)]
   exact iteT ⟨_,rfl,a,PL,dx,fs,_,rfl,ha,PC.cl,PC.nr,wf.rck,r,dr,fr,rfl,hr0,fo.no _ (by decide +kernel) (by decide +kernel),_,rfl,pl,rfl,hp,r,q,n,rs,_,rfl,W.S,λH1 b1 S1=>k1 H1 (W.seats b1 S1) b1 hp⟩
  ·rw [Be1 (by omega)]
   exact iteF (k0 hp)
theorem Cn8:Ab5 ["self","root"] ["self","root"] (Aa1 Bg2):=FSc
theorem Cp9 {f f1:Addr} {fd fd1:FuncData} (F:Fun K "turn_root" "Ways.turn_root" Bg2 f fd) (M1:Me K SC "empty" "Shelf.empty" At6 ["self"] f1 fd1) (GM1:FnOk P w K mg base CX0 1 f1 fd1 ["self"] (Bf5 SC)) (PC:Plc K PL) (SS:Shf K mg SC):FnOk P w K mg base CX0 2 f fd ["self","root"] (Bt0 C SC PL):=by
 refine F.ok Cn8 (λvs H Q E h'=>?_) (λcdv A outer s H vs Q E hr h'=>?_)
 ·obtain ⟨a,m,h,r,q,aw,ps,n,rs,bs,b,x,rfl,_⟩:=h'
  rfl
 ·obtain ⟨a,m,h,r,q,aw,ps,n,rs,bs,b,x,rfl,W,k0⟩:=h'
  refine ⟨_,(Aa2 (Ap0 (pv 0) (pv 1) rfl) (Aa4 (Ad7 (Ag3 (Af0 (pv 0) rfl) SS.cl M1.m GM1 hr M1.b .nil Ac1)))),?_⟩
  obtain ⟨dx,fs,ha,wf⟩:=W.ob
  refine ⟨_,rfl,_,rfl,a,PL,dx,fs,rfl,ha,PC.cl,PC.nb,(by have:=wf.len; omega),?_⟩
  have W1:=W.base (x:=x) ha wf
  have b1:But a H (upd H a (.ins PL dx (putF "base" (.int x) fs))):=But.upd
  have f1:∀ b,upd H a (.ins PL dx (putF "base" (.int x) fs)) b=none->H b=none:=λb e=>by
   by_cases z:b=a
   ·rw [z,upd_same] at e; cases e
   ·rw [Aa7 z] at e; exact e
  generalize upd H a (.ins PL dx (putF "base" (.int x) fs))=H1 at *
  obtain ⟨dr,fr,hr0,fo⟩:=W1.S.ob
  obtain ⟨dx,fs,ha,wf⟩:=W1.ob
  exact ⟨_,rfl,a,PL,dx,fs,_,rfl,ha,PC.cl,PC.nr,wf.rck,r,dr,fr,rfl,hr0,fo.no _ (by decide +kernel) (by decide +kernel),r,_,n,rs,rfl,W1.S,λq2 H2 b2 hq S2=>k0 H2 q2 (W1.cleared b2 S2) (λb o na nr y=>b2 b o nr (b1 b o na y)) (f1 _ hq)⟩
theorem sc_save:Ab5 ["self","place","word","kernel","page"] ["self","place","word","kernel"] (Aa1 Bg4):=FSc
theorem Cq2 {f f1 f2 f3 f4:Addr} {fd fd1 fd2 fd3 fd4:FuncData} (F:Fun K "save" "Ways.save" Bg4 f fd) (B:Dn K mg "check_word" Aq8 ["word"] f4 fd4) (GB:FnOk P w K mg base (CXr P w) 4 f4 fd4 ["word"] (Ax8 NW)) (M1:Me K PL "reach" "Ways.reach" Ao3 ["self","place","write","kernel"] f1 fd1) (GM1:FnOk P w K mg base (CXr P w) 11 f1 fd1 ["self","place","write","kernel"] (As5 C SC PL FA)) (M2:Me K PL "write" "Store.write" Ao0 ["self","page","cell","word"] f2 fd2) (GM2:FnOk P w K mg base (CXr P w) 7 f2 fd2 ["self","page","cell","word"] (An9 C SC PL NP NL NW)) (Bq:Dn K mg "parts_of" Ao4 ["place"] f3 fd3) (GBq:FnOk P w K mg base CX0 4 f3 fd3 ["place"] As7) (PC:Plc K PL):FnOk P w K mg base (CXr P w) 12 f fd ["self","place","word","kernel"] (Bt2 C SC PL FA):=by
 refine F.okR sc_save (λvs H Q E h'=>?_) (λcdv A outer s H vs Q E hr h'=>?_)
 ·obtain ⟨a,m,h,r,q,aw,ps,n,rs,bs,rt,pl,v,k,rfl,_⟩:=h'
  rfl
 ·obtain ⟨a,m,h,r,q,aw,ps,n,rs,bs,rt,pl,v,k,rfl,W,hl,rn,v0,v1,kk⟩:=h'
  have hr7:Room 7 _:=hr.mono (by decide)
  have hr4:Room 4 _:=hr.mono (by decide)
  refine ⟨_,(Aa2 (Ad7 (Ab3 GB hr4 (by rfl) B.m B.F.kp B.b .nil Ah8 (Aa0 (pv 2) Aa3))) (Aa2 (Ac5 (i:=4) sc_save.nd rfl (Or.inl rfl) (Ac4 (pv 0) PC.cl M1.m GM1 hr M1.b .nil Ah8 (Aa0 (pv 1) (Aa0 Ah7 (Aa0 (pv 3) Aa3))))) (Aa4 (Ad7 (Ac4 (pv 0) PC.cl M2.m GM2 hr7 M2.b .nil Ah8 (Aa0 (pv 4) (Aa0 (Ad3 Ad4 (Ab3 GBq hr4 (by rfl) Bq.m Bq.F.kp Bq.b .nil Ac1 (Aa0 (pv 1) Aa3)) Aa5 (λ_ _=>rfl)) (Aa0 (pv 2) Aa3)))))))),?_⟩
  obtain ⟨dx,fs,ha,wf⟩:=W.ob
  refine ⟨_,rfl,_,rfl,.int _,λ_=>?_,λy=>absurd ((Ae3 v0 v1).symm.trans y) (by decide)⟩
  refine ⟨_,rfl,a,dx,fs,rfl,ha,wf.nq _,_,rfl,_,rfl,a,m,h,r,q,aw,ps,n,rs,bs,rt,pl,true,k,rfl,W,hl,rn,λp hm=>?_,λhm=>⟨(kk.2 hm).1,λp1 pg t0 l ht H1 W1 k1=>?_⟩⟩
  ·obtain ⟨hp,hh⟩:=Bi2 rn hm
   have q1:=kk.1 p hm
   have W1:=W
   obtain ⟨dx,fs,ha,wf⟩:=W1.ob
   refine ⟨_,rfl,a,dx,fs,rfl,ha,wf.nq _,_,rfl,_,rfl,pl,rfl,hp,λt ht=>?_⟩
   have s1:=Aa6 (o:=.tup [.int ((pl / 8 / 8:Nat):Int),.int ((pl / 8 % 8:Nat):Int),.int ((pl % 8:Nat):Int)]) ht
   refine ⟨t,_,_,_,rfl,rfl,SqT.of upd_same,rfl,_,rfl,a,m,h,r,q,aw,ps,n,rs,bs,(rt:Int),_,_,_,rfl,W1.same s1,.int _,.int _,.int _,λi j v2 p3 ws e1 e2 e4 e3 hj y0 y1=>?_,λy=>absurd (hh.symm.trans y) (by decide),λ_ y=>absurd ((Ae3 (by omega) (by omega)).symm.trans y) (by decide),λ_ _ y=>absurd ((Ae3 v0 v1).symm.trans y) (by decide)⟩
   obtain rfl:p=i:=by have:=V.int.inj e1; omega
   obtain rfl:pl % 8=j:=by have:=V.int.inj e2; omega
   cases e4
   exact q1 _ ((W1.same s1).setW e3 v0 v1) λb o nb _ z=>by rw [Aa7 (show b≠p3 from λy=>nb (y ▸ .inr ⟨_,ws,e3⟩))]; exact s1 _ _ z
  ·obtain ⟨hp,_,_,hh0,_⟩:=Ai4 ht
   have q1:=(kk.2 hm).2 p1 pg t0 l ht H1 W1 k1
   have hh:hasP (mkN (mkN ps rt (pl / 8 / 8) 8) p1 (pl / 8 % 8) (if true=true then 24 else 8)) (.int (pg:Int))=true:=by rw [Ai2,Ai2]; exact hh0
   obtain ⟨dx,fs,ha,wf⟩:=W1.ob
   refine ⟨_,rfl,a,dx,fs,rfl,ha,wf.nq _,_,rfl,_,rfl,pl,rfl,hp,λt ht=>?_⟩
   have s1:=Aa6 (o:=.tup [.int ((pl / 8 / 8:Nat):Int),.int ((pl / 8 % 8:Nat):Int),.int ((pl % 8:Nat):Int)]) ht
   refine ⟨t,_,_,_,rfl,rfl,SqT.of upd_same,rfl,_,rfl,a,m,h,r,q,aw,(mkN (mkN ps rt (pl / 8 / 8) 8) p1 (pl / 8 % 8) (if true=true then 24 else 8)),n,(Ai1 n rs (((pl / 8:Nat):Int),(pg:Int),((if true=true then rigN t0 l ||| 16 else rigN t0 l:Nat):Int))).1,bs,(rt:Int),_,_,_,rfl,W1.same s1,.int _,.int _,.int _,λi j v2 p3 ws e1 e2 e4 e3 hj y0 y1=>?_,λy=>absurd (hh.symm.trans y) (by decide),λ_ y=>absurd ((Ae3 (by omega) (by omega)).symm.trans y) (by decide),λ_ _ y=>absurd ((Ae3 v0 v1).symm.trans y) (by decide)⟩
   obtain rfl:pg=i:=by have:=V.int.inj e1; omega
   obtain rfl:pl % 8=j:=by have:=V.int.inj e2; omega
   cases e4
   exact q1 _ ((W1.same s1).setW e3 v0 v1) λb o nb _ z=>by rw [Aa7 (show b≠p3 from λy=>nb (y ▸ .inr ⟨_,ws,e3⟩))]; exact s1 _ _ z
end
end K28
end
section
namespace K28
open PySem L2
abbrev Ba8:Stmt:=top 50
abbrev Ak6:Stmt:=top 51
abbrev sRow:Stmt:=top 53
abbrev sPgs:Stmt:=top 54
abbrev Bh8:Stmt:=top 55
abbrev sIsI:Stmt:=top 61
abbrev Ao1:Stmt:=top 63
abbrev sOwn:Stmt:=top 52
abbrev Ay5:Stmt:=top 57
abbrev At7:Stmt:=top 58
abbrev sDoL:Stmt:=top 59
abbrev Bh4:Stmt:=top 66
abbrev Ba6:Stmt:=top 67
abbrev sAtP:Stmt:=top 68
abbrev Bh7:Stmt:=top 69
abbrev Ao2:Stmt:=top 70
abbrev sLaw:Stmt:=top 71
def Bl9 (K:PySem.W.Frag):Sp:=λvs H Q _=>∃ (a:Addr) (ns:List Int) (k:Nat),vs=[.ref a,.int k]/\SqL K H a (ns.map V.int)/\Q (.int (ns.getD k 0)) H
def Cc8:Sp:=λvs H Q _=>∃ (x:Int) (n:Nat),vs=[.int x,.int n]/\0<=x/\x<2147483648/\n<=24/\∀ (r:Int) (H':Hp),Same H H'->0<=r->r<281474976710656->Q (.int r) H'
def As4:Sp:=λvs H Q _=>∃ (D:Addr) (ps:Pgs) (i:Nat),vs=[.ref D,.int i]/\Pg H D ps/\Q (.bl (Af4 ps[i]?)) H
def Bu7:Sp:=λvs H Q _=>∃ (p:Addr) (ps:Pgs),vs=[.ref p]/\Pg H p ps/\ps.length<=1000/\∀ D H' qs,Same H H'->Pg H' D qs->cont qs=cont ps->(∀ b,At D qs b->H b=none)->Q (.ref D) H'
def Cn0:Sp:=λvs H Q _=>∃ (p r:Addr) (ps qs:Pgs),vs=[.ref p,.ref r]/\Pg H p ps/\Pg H r qs/\Good ps/\cont ps=cont qs/\ps.length<=24/\Q (.bl true) H
theorem Ci5 {k:Nat} (h:k<16):∃ c:Int,atI ([3,3,3,1,7,3,19,3,11,27,31,5,2,3,0,227].map V.int) (k:Int)=some (.int c)/\0<=c/\c<256:=by
 rcases (show k=0\/k=1\/k=2\/k=3\/k=4\/k=5\/k=6\/k=7\/k=8\/k=9\/k=10\/k=11\/k=12\/k=13\/k=14\/k=15 by omega) with rfl | rfl | rfl | rfl | rfl | rfl | rfl | rfl | rfl | rfl | rfl | rfl | rfl | rfl | rfl | rfl <;> exact ⟨_,rfl,by decide,by decide⟩
def Cm6 (K:PySem.W.Frag):Sp:=λvs H Q _=>∃ (a:Addr) (ns:List Int),vs=[.ref a]/\SqL K H a (ns.map V.int)/\∀ (D:Addr) (H':Hp) (qs:Pgs),Same H H'->Pg H' D qs->Good qs->1<=qs.length->qs.length<=24->(∀ b,At D qs b->H b=none)->Q (.ref D) H'
def Cc9:Sp:=λvs H Q _=>∃ (c:Int) (k:Nat),vs=[.int c,.int k]/\k<4/\∀ r H',0<=r->r<2147483648->Same H H'->Q (.int r) H'
section
variable {P : Program} {w : World} {K : PySem.W.Frag} {mg : Str → Option Value} {base : Heap} {C NP NL NW NI SC PL : Addr}
theorem scCe:Ab5 ["_law_script","_law_k"] ["_law_script","_law_k"] (Aa1 Ba8):=FSc
theorem Cs7 {f:Addr} {fd:FuncData} (F:Fun K "_law_cell_at" "_law_cell_at" Ba8 f fd) (T:Txt K mg):FnOk P w K mg base CX0 1 f fd ["_law_script","_law_k"] (Bl9 K):=by
 refine F.ok scCe (λvs H Q E h=>?_) (λcdv A outer s H vs Q E hr h=>?_)
 ·obtain ⟨x,ns,k,rfl,_⟩:=h
  rfl
 ·obtain ⟨x,ns,k,rfl,hS,q⟩:=h
  refine ⟨_,(Aa2 (Ac8 (Ab6 Bb5 (pv 1) (Ac9 Ad2 (by rfl) T.len PySem.boot_len (Aa0 (pv 0) Aa3)) (Ac0 _)) (Aa4 (Ab2 (Ad3 Ae2 (pv 0) (pv 1) (λ_ _=>rfl)))) Ab0) (Aa4 (Ab2 Aa5))),?_⟩
  refine ⟨_,rfl,_,rfl,x,_,rfl,.inl hS,_,_,rfl,rfl,_,rfl,ite2 (λz=>?_) (λz=>?_)⟩
  ·have z':=of_decide_eq_true z
   rw [List.length_map] at z'
   exact ⟨_,rfl,_,rfl,x,_,_,_,rfl,rfl,hS,Al2 (by omega),q⟩
  ·have z':¬ ((k:Int)<((ns.map V.int).length:Int)):=λy=>z (decide_eq_true y)
   rw [List.length_map] at z'
   rw [List.getD_eq_getElem?_getD,List.getElem?_eq_none (by omega)] at q
   exact q
theorem scLW:Ab5 ["_law_found"] ["_law_found"] (Aa1 Ak6):=FSc
theorem Bx3 {f:Addr} {fd:FuncData} (F:Fun K "_law_whole" "_law_whole" Ak6 f fd) (T:Txt K mg):FnOk P w K mg base CX0 1 f fd ["_law_found"] Ak3:=by
 refine F.ok scLW (λvs H Q E h=>?_) (λcdv A outer s H vs Q E hr h=>?_)
 ·obtain ⟨x,rfl,_⟩:=h
  rfl
 ·obtain ⟨x,rfl,th,q⟩:=h
  refine ⟨_,(Aa4 (Ab2 (Aj7 (Ac9 Aw1 (by rfl) T.isi PyProof.Rows.boot_isinstance (Aa0 (pv 0) (Aa0 (Ag0 (by rfl) T.int PyProof.Rows.boot_int (show RelV (.ty "int") (.type "int") from rfl)) Aa3))) (Al9 (Bw3 (Ac9 Al1 (by rfl) T.isi PyProof.Rows.boot_isinstance (Aa0 (pv 0) (Aa0 (Ag0 (by rfl) T.boo PyProof.Rows.boot_bool (show RelV (.ty "bool") (.type "bool") from rfl)) Aa3)))))))),?_⟩
  refine ⟨x,rfl,x,rfl,th,_,rfl,?_⟩
  cases th with
  | non=>exact iteF q
  | bl b=>exact iteT ⟨_,rfl,_,rfl,.bl b,_,rfl,q⟩
  | int i=>exact iteT ⟨_,rfl,_,rfl,.int i,_,rfl,q⟩
  | str z=>exact iteF q
  | lst e=>exact iteF q
  | frz e=>exact iteF q
  | tup e=>exact iteF q
  | dic e=>exact iteF q
theorem scRo:Ab5 ["_law_mixed","_law_many","_law_marks","_law_page"] ["_law_mixed","_law_many"] (Aa1 sRow):=FSc
theorem Cx6 {f:Addr} {fd:FuncData} (F:Fun K "_law_row_by" "_law_row_by" sRow f fd):FnOk P w K mg base CX0 1 f fd ["_law_mixed","_law_many"] Cc8:=by
 refine F.ok scRo (λvs H Q E h=>?_) (λcdv A outer s H vs Q E hr h=>?_)
 ·obtain ⟨x,n,rfl,_⟩:=h
  rfl
 ·obtain ⟨x,n,rfl,x0,x1,hn,q⟩:=h
  have e48:(2:Int) ^ (48:Int).toNat=281474976710656:=by decide
  have e40:(2:Int) ^ (40:Int).toNat=1099511627776:=by decide
  obtain ⟨t3,R3,hR3⟩:∃ tr,PSs (cxOf CX0 P w K mg base ["_law_mixed","_law_many","_law_marks","_law_page"] "_law_row_by" (Aa1 sRow) f cdv A outer s H E).nox ((Aa9 sRow).drop 3) tr/\∀ (H1:Hp) (c y:Int),Same H H1->0<=c->c<256->0<=y->y<1099511627776->tr { nx:=λ_ H'=>Q .non H',rt:=Q } [some (.int x),some (.int n),some (.int c),some (.int y)] H1:=by
   refine ⟨_,(Aa2 (Ac8 (Ab6 Ae4 (Ab9 Ad0 (pv 0) Aa5) Aa5 (Ac0 _)) (Aa4 (Ab2 (Ab9 Ad0 (Ab9 Aj8 (pv 0) (pv 0)) (Ab9 Am9 Aa5 Aa5)))) Ab0) (Aa4 (Ab2 (Ab9 Ag8 (Ab9 Aj8 (pv 3) Aa5) (pv 2))))),λH1 c y ss c0 c1 y0 y1=>?_⟩
   refine ⟨_,rfl,x,16,rfl,rfl,(by show (0:Int)<16; decide),rfl,_,rfl,ite2 (λ_=>?_) (λ_=>?_)⟩
   ·refine ⟨_,rfl,_,rfl,x,x,rfl,rfl,.inl ⟨by omega,by omega⟩,2,48,rfl,rfl,⟨by decide,by decide,by decide⟩,_,_,rfl,rfl,(by show (0:Int)<2 ^ (48:Int).toNat; decide),?_⟩
    refine q _ H1 ss ?_ ?_
    ·exact Int.emod_nonneg _ (by decide)
    ·rw [e48]; exact Int.emod_lt_of_pos _ (by decide)
   ·exact ⟨_,rfl,y,256,rfl,rfl,.inr ⟨by decide,by decide⟩,_,rfl,_,c,rfl,rfl,q _ H1 ss (by omega) (by omega)⟩
  have RT:PSsq (cxOf CX0 P w K mg base ["_law_mixed","_law_many","_law_marks","_law_page"] "_law_row_by" (Aa1 sRow) f cdv A outer s H E).nox (Aa9 sRow) _:=At9 (Ay8 (i:=2) scRo.nd rfl (Or.inl rfl) (Cx1 Ae2 (Ce7 (.cons (.cons (.cons (.cons (.cons (.cons (.cons (.cons (.cons (.cons (.cons (.cons (.cons (.cons (.cons (.cons .nil))))))))))))))))) (Ar0 Ad0 (Ar0 Ad9 ⟨pv 0⟩ ⟨Aa5⟩) ⟨Aa5⟩) (λ_ _=>rfl))) (At9 (Ay8 (i:=3) scRo.nd rfl (Or.inl rfl) (Ar0 Ad0 (Ar0 Ad9 ⟨pv 0⟩ ⟨Aa5⟩) (Ar0 Ag8 ⟨pv 1⟩ ⟨Aa5⟩))) (At9 (Cw7 ⟨Ab6 Ae4 (Ab9 Ad0 (pv 0) Aa5) Aa5 (Ac0 _)⟩ (Ce2 (Ay8 (i:=3) scRo.nd rfl (Or.inl rfl) (Ar0 Av6 (Ar0 Av6 (Ar0 Am9 ⟨Aa5⟩ ⟨Aa5⟩) ⟨Aa5⟩) ⟨pv 3⟩))) Ce3) ⟨R3⟩))
  refine PSsq.ex RT ?_
  refine ⟨by show 16<=sizeLine; decide,λp hp=>?_⟩
  have s1:=Aa6 (o:=.lst ([3,3,3,1,7,3,19,3,11,27,31,5,2,3,0,227].map V.int)) hp
  obtain ⟨k,hk⟩:∃ k:Nat,x / 16 % 16=(k:Int):=⟨(x / 16 % 16).toNat,by omega⟩
  obtain ⟨c,hc,c0,c1⟩:=Ci5 (k:=k) (by omega)
  refine ⟨_,rfl,x,16,rfl,rfl,⟨by decide,by decide⟩,_,16,rfl,rfl,(by show (0:Int)<16; decide),p,_,_,_,rfl,rfl,SqL.of upd_same,(by rw [hk]; exact hc),?_⟩
  refine ⟨_,rfl,x,256,rfl,rfl,⟨by decide,by decide⟩,_,rfl,_,1,rfl,rfl,_,_,rfl,rfl,(by show (0:Int)<(n:Int)+1; omega),?_⟩
  have y0:0<=x / 256 % ((n:Int)+1):=Int.emod_nonneg _ (by omega)
  have y1:x / 256 % ((n:Int)+1)<(n:Int)+1:=Int.emod_lt_of_pos _ (by omega)
  dsimp only
  generalize x / 256 % ((n:Int)+1)=y at y0 y1 ⊢
  refine ⟨_,rfl,x,16,rfl,rfl,(by show (0:Int)<16; decide),rfl,_,rfl,ite2 (λ_=>?_) (λ_=>?_)⟩
  ·refine ⟨2,40,rfl,rfl,⟨by decide,by decide,by decide⟩,_,1,rfl,rfl,_,rfl,_,y,rfl,rfl,?_⟩
   dsimp only
   rw [e40]
   exact hR3 _ c _ s1 c0 c1 (by omega) (by omega)
  ·exact hR3 _ c y s1 c0 c1 y0 (by omega)
theorem scTh:Ab5 ["_law_pages_here","_law_page"] ["_law_pages_here","_law_page"] (Aa1 Ao1):=FSc
theorem Cg3 {f:Addr} {fd:FuncData} (F:Fun K "_law_there" "_law_there" Ao1 f fd) (T:Txt K mg):FnOk P w K mg base CX0 1 f fd ["_law_pages_here","_law_page"] As4:=by
 refine F.ok scTh (λvs H Q E h=>?_) (λcdv A outer s H vs Q E hr h=>?_)
 ·obtain ⟨D,ps,i,rfl,_⟩:=h
  rfl
 ·obtain ⟨D,ps,i,rfl,g,q⟩:=h
  refine ⟨_,(Aa4 (Ab2 (Aj7 (Af6 Bb5 (pv 1) (Ac9 Ad2 (by rfl) T.len PySem.boot_len (Aa0 (pv 0) Aa3)) (Ac0 _)) (Al9 (Af6 Aq0 (Ad3 Ae2 (pv 0) (pv 1) (λ_ _=>rfl)) Ae8 (Ac0 _)))))),?_⟩
  refine ⟨_,rfl,_,rfl,D,_,rfl,.inl (SqL.of g.top),_,_,rfl,rfl,_,rfl,ite2 (λz=>?_) (λz=>?_)⟩
  ·have z':=of_decide_eq_true z
   rw [List.length_map] at z'
   have hi:i<ps.length:=by omega
   obtain ⟨o,ho,hat⟩:=Aw2 (ps:=ps) (i:=i) hi
   rw [ho] at q
   refine ⟨_,rfl,_,rfl,D,_,_,_,rfl,rfl,SqL.of g.top,hat,rfl,?_⟩
   cases o with
   | none=>exact q
   | some y=>exact q
  ·have z':¬ ((i:Int)<((ps.map pgV).length:Int)):=λy=>z (decide_eq_true y)
   rw [List.length_map] at z'
   rw [List.getElem?_eq_none (by omega)] at q
   exact q
theorem scCo:Ab5 ["_law_pages_here","_law_found","_law_words"] ["_law_pages_here"] (Aa1 Bh8):=FSc
theorem Cs5 {f:Addr} {fd:FuncData} (F:Fun K "_law_copy" "_law_copy" Bh8 f fd) (T:Txt K mg):FnOk P w K mg base CX0 1 f fd ["_law_pages_here"] Bu7:=by
 refine F.ok scCo (λvs H Q E h=>?_) (λcdv A outer s H vs Q E hr h=>?_)
 ·obtain ⟨p,ps,rfl,_⟩:=h
  rfl
 ·obtain ⟨p,ps,rfl,g,hl,q⟩:=h
  refine ⟨_,(Aa2 (Ac5 (i:=1) scCo.nd rfl (Or.inl rfl) (Ag1 Aa3)) (Aa2 (Ah9 PassesOwn.never rfl (Af9 (pv 0)) (Ad5 (i:=2) scCo.nd rfl (Or.inl rfl)) (Aa4 (Ac8 (Ab6 Au3 (pv 2) Ae8 (Ac0 _)) (Aa4 (Ad7 (Bb2 PySem.F.plainAttrs_list PySem.F.slot_list_append PySem.F.type_list_append Ah6 (pv 1) (Aa0 Ae8 Aa3)))) (Aa4 (Ad7 (Bb2 PySem.F.plainAttrs_list PySem.F.slot_list_append PySem.F.type_list_append Ah6 (pv 1) (Aa0 (Ah5 Ag6 (by rfl) T.lst PyProof.Rows.boot_list (Aa0 (pv 2) Aa3)) Aa3))))))) (Aa4 (Ab2 (pv 1))))),?_⟩
  refine ⟨by show 0<=sizeLine; decide,λD hD=>?_⟩
  have s1:=Aa6 (o:=.lst []) hD
  refine ⟨_,rfl,p,rfl,⟨_,SqL.of (s1 _ _ g.top)⟩,Ah0 (K:=K) (a:=p) (xs:=ps.map pgV) (λi σ H'=>(∃ v,σ=[some (.ref p),some (.ref D),v])/\∃ qs:Pgs,Same H H'/\Pg H' D qs/\qs.length=i/\cont qs=(cont ps).take i/\(∀ b,At D qs b->H b=none)) ?_ ?_ ?_ ?_⟩
  ·refine ⟨⟨_,rfl⟩,[],s1,⟨upd_same,λi p ws e=>by simp at e,λi j p ws ws' e=>by simp at e⟩,rfl,rfl,λb hb=>?_⟩
   rcases hb with rfl | ⟨i,ws,e⟩
   ·exact hD
   ·simp at e
  ·rintro i σ H' _ ⟨_,qs,ss,_⟩
   exact SqL.of (ss _ _ g.top)
  ·rintro i x σ H' hi ⟨⟨v,rfl⟩,qs,ss,gq,hql,hc,hf⟩
   rw [List.getElem?_map] at hi
   cases eo:ps[i]? with
   | none=>rw [eo] at hi; cases hi
   | some o =>
   rw [eo] at hi
   have hi':pgV o=x:=Option.some.inj hi
   subst hi'
   have hil:i<ps.length:=(List.getElem?_eq_some_iff.mp eo).1
   have sl:i<sizeLine:=Nat.lt_of_lt_of_le (show i<1001 by omega) (by decide)
   have sz:(qs.map pgV).length<sizeLine:=by rw [List.length_map,hql]; exact sl
   have tk:(cont ps).take (i+1)=(cont ps).take i++[o.map (·.2)]:=by
    have:(cont ps)[i]?=some (o.map (·.2)):=by unfold cont; rw [List.getElem?_map,eo]; rfl
    rw [List.take_add_one,this]
    rfl
   cases o with
   | none =>
    refine ⟨_,rfl,rfl,_,rfl,Ae7 rfl ⟨_,rfl,.inl ⟨rfl,_,SqL.of gq.top⟩,D,_,_,rfl,rfl,gq.top,sz,⟨_,rfl⟩,qs++[none],ss.set hD,gq.app (o:=none) (Same.refl _) (λq ws e=>by cases e),by rw [List.length_append,hql]; rfl,by rw [tk,<- hc]; unfold cont; rw [List.map_append]; rfl,λb hb=>?_⟩⟩
    rcases hb.app with z | ⟨ws,z⟩
    ·exact hf b z
    ·cases z
   | some t =>
    obtain ⟨pt,wt⟩:=t
    have hp:=ss _ _ (g.each i pt wt eo).1
    refine ⟨_,rfl,rfl,_,rfl,Ac3 (decide_eq_false nofun) ⟨_,rfl,.inl ⟨rfl,_,SqL.of gq.top⟩,_,rfl,pt,_,rfl,.inl (SqL.of hp),λl hl0=>?_⟩⟩
    have s2:=Aa6 (o:=.lst (wt.map V.int)) hl0
    have hn:∀ (q:Addr) (ws:List Int),some (l,wt)=some (q,ws)->upd H' l (.lst (wt.map V.int)) q=some (.lst (ws.map V.int))/\H' q=none:=λq ws e=>by
     cases e
     exact ⟨upd_same,hl0⟩
    refine ⟨D,_,_,rfl,rfl,s2 _ _ gq.top,sz,⟨_,rfl⟩,qs++[some (l,wt)],(ss.trans s2).set hD,gq.app s2 hn,by rw [List.length_append,hql]; rfl,?_,λb hb=>?_⟩
    ·rw [tk,<- hc]
     unfold cont
     rw [List.map_append]
     rfl
    ·rcases hb.app with z | ⟨ws,z⟩
     ·exact hf b z
     ·cases z
      exact ss.free hl0
  ·rintro σ H' ⟨⟨v,rfl⟩,qs,ss,gq,hql,hc,hf⟩
   refine ⟨_,rfl,q D H' qs ss gq ?_ hf⟩
   rw [hc,List.take_of_length_le]
   unfold cont
   rw [List.length_map,List.length_map]
   exact Nat.le_refl _
theorem scIs:Ab5 ["_law_found","_law_due_here","_law_words","_law_word"] ["_law_found","_law_due_here"] (Aa1 sIsI):=FSc
theorem Cy6 {f f1:Addr} {fd fd1:FuncData} (F:Fun K "_law_is_image" "_law_is_image" sIsI f fd) (D1:Dn K mg "_law_whole" Ak6 ["_law_found"] f1 fd1) (G1:FnOk P w K mg base CX0 1 f1 fd1 ["_law_found"] Ak3) (T:Txt K mg):FnOk P w K mg base CX0 2 f fd ["_law_found","_law_due_here"] Cn0:=by
 refine F.ok scIs (λvs H Q E h=>?_) (λcdv A outer s H vs Q E hr h=>?_)
 ·obtain ⟨p,r,ps,qs,rfl,_⟩:=h
  rfl
 ·obtain ⟨p,r,ps,qs,rfl,g,g',gd,hc,hl,q⟩:=h
  have hlen:=Am7 hc
  refine ⟨_,(Aa2 (Ac8 (PW.pt (Al7 (Ae0 (Ad1 (Ac9 Ah2 (by rfl) T.isi PyProof.Rows.boot_isinstance (Aa0 (pv 0) (Aa0 (Ag0 (by rfl) T.lst PyProof.Rows.boot_list (show RelV (.ty "list") (.type "list") from rfl)) Aa3))))) (Ai5 (Ab6 Bq1 (Ac9 Ad2 (by rfl) T.len PySem.boot_len (Aa0 (pv 0) Aa3)) (Ac9 Ad2 (by rfl) T.len PySem.boot_len (Aa0 (pv 1) Aa3)) (Ac0 _))))) (Aa4 (Ab2 Ah7)) Ab0) (Aa2 (Ah9 PassesOwn.never rfl (Af9 (pv 0)) (Ad5 (i:=2) scIs.nd rfl (Or.inl rfl)) (Aa4 (Ac8 (Ab6 Aq0 (pv 2) Ae8 (Ac0 _)) (Aa2 (Ac8 (PW.pt (Al7 (Ae0 (Ad1 (Ac9 Ah2 (by rfl) T.isi PyProof.Rows.boot_isinstance (Aa0 (pv 2) (Aa0 (Ag0 (by rfl) T.lst PyProof.Rows.boot_list (show RelV (.ty "list") (.type "list") from rfl)) Aa3))))) (Ai5 (Ab6 Bq1 (Ac9 Ad2 (by rfl) T.len PySem.boot_len (Aa0 (pv 2) Aa3)) Aa5 (Ac0 _))))) (Aa4 (Ab2 Ah7)) Ab0) (Aa4 (Ah9 PassesOwn.never rfl (Af9 (pv 2)) (Ad5 (i:=3) scIs.nd rfl (Or.inl rfl)) (Aa4 (Ac8 (Ae0 (Ad1 (Ab3 G1 hr (by rfl) D1.m D1.F.kp D1.b .nil Ac1 (Aa0 (pv 3) Aa3)))) (Aa4 (Ab2 Ah7)) Ab0))))) Ab0))) (Aa4 (Ab2 (Af6 (Bm5 hr.units) (pv 0) (pv 1) (Ac0 _)))))),?_⟩
  refine ⟨_,rfl,_,rfl,.lst g.top,_,rfl,Ac3 (by show (!Ar3 H (.ref p))=false; rw [Ak9 g.top]; rfl) ?_⟩
  refine ⟨_,rfl,p,_,rfl,.inl (SqL.of g.top),_,rfl,r,_,rfl,.inl (SqL.of g'.top),rfl,_,rfl,Ac3 (by show (!decide (V.int ((ps.map pgV).length:Int)=V.int ((qs.map pgV).length:Int)))=false; rw [List.length_map,List.length_map,hlen,decide_eq_true rfl]; rfl) ?_⟩
  refine ⟨_,rfl,p,rfl,⟨_,SqL.of g.top⟩,Ah0 (K:=K) (a:=p) (xs:=ps.map pgV) (λi σ H'=>H'=H/\∃ v1 v2,σ=[some (.ref p),some (.ref r),v1,v2]) ?_ ?_ ?_ ?_⟩
  ·exact ⟨rfl,_,_,rfl⟩
  ·rintro i σ H' _ ⟨rfl,_⟩
   exact SqL.of g.top
  ·rintro i x σ H' hi ⟨rfl,v1,v2,rfl⟩
   rw [List.getElem?_map] at hi
   cases eo:ps[i]? with
   | none=>rw [eo] at hi; cases hi
   | some o =>
   rw [eo] at hi
   have hi':pgV o=x:=Option.some.inj hi
   subst hi'
   cases o with
   | none=>exact ⟨_,rfl,rfl,_,rfl,Ac3 rfl ⟨rfl,_,_,rfl⟩⟩
   | some t =>
    obtain ⟨pt,wt⟩:=t
    have hp:=(g.each i pt wt eo).1
    have w8:=(gd i pt wt eo).1
    refine ⟨_,rfl,rfl,_,rfl,Ae7 (by show (!decide (V.ref pt=V.non))=true; rw [decide_eq_false nofun]; rfl) ?_⟩
    refine ⟨_,rfl,_,rfl,.lst hp,_,rfl,Ac3 (by show (!Ar3 H' (.ref pt))=false; rw [Ak9 hp]; rfl) ?_⟩
    refine ⟨_,rfl,pt,_,rfl,.inl (SqL.of hp),rfl,_,rfl,Ac3 (by show (!decide (V.int ((wt.map V.int).length:Int)=V.int 8))=false; rw [List.length_map,w8]; rfl) ?_⟩
    refine ⟨_,rfl,pt,rfl,⟨_,SqL.of hp⟩,Ah0 (K:=K) (a:=pt) (xs:=wt.map V.int) (λi2 σ H2=>H2=H'/\∃ v2,σ=[some (.ref p),some (.ref r),some (.ref pt),v2]) ?_ ?_ ?_ ?_⟩
    ·exact ⟨rfl,_,rfl⟩
    ·rintro i2 σ H2 _ ⟨rfl,_⟩
     exact SqL.of hp
    ·rintro i2 y σ H2 hi2 ⟨rfl,v2,rfl⟩
     rw [List.getElem?_map] at hi2
     cases ew:wt[i2]? with
     | none=>rw [ew] at hi2; cases hi2
     | some z =>
      rw [ew] at hi2
      have hi2':V.int z=y:=Option.some.inj hi2
      subst hi2'
      exact ⟨_,rfl,_,rfl,.int z,_,rfl,iteF ⟨rfl,_,rfl⟩⟩
    ·rintro σ H2 ⟨rfl,v2,rfl⟩
     exact ⟨rfl,_,_,rfl⟩
  ·rintro σ H' ⟨rfl,v1,v2,rfl⟩
   refine ⟨_,rfl,_,rfl,_,_,Da7 g,Da7 g',Bv0 _,Bv0 _,?_⟩
   rw [hc,eqvC]
   exact q
theorem scOw:Ab5 ["_law_cell","_law_k","_law_left","_law_turn"] ["_law_cell","_law_k"] (Aa1 sOwn):=FSc
theorem Cy0 {f:Addr} {fd:FuncData} (F:Fun K "_law_own" "_law_own" sOwn f fd) (T:Txt K mg):FnOk P w K mg base CX0 1 f fd ["_law_cell","_law_k"] Cc9:=by
 refine F.ok scOw (λvs H Q E h=>?_) (λcdv A outer s H vs Q E hr h=>?_)
 ·obtain ⟨c,k,rfl,_⟩:=h
  rfl
 ·obtain ⟨c,k,rfl,hk,q⟩:=h
  refine ⟨_,(Aa2 (Ac5 (i:=2) scOw.nd rfl (Or.inl rfl) (Ab9 Ar9 (pv 0) (Ab9 Am9 Aa5 Aa5))) (Aa2 (Ah9 PassesOwn.never rfl (Ak1 (by rfl) T.rng (Aa0 (pv 1) Aa3)) (Ad5 (i:=3) scOw.nd rfl (Or.inl rfl)) (Aa4 (Ac5 (i:=2) scOw.nd rfl (Or.inl rfl) (Ab9 Ar9 (pv 2) (Ab9 Am9 Aa5 Aa5))))) (Aa2 (Ac8 (Ab6 Bi6 (pv 2) Aa5 (Ac0 _)) (Aa4 (Ab2 (Ab9 Ad0 (pv 2) (Ab9 Am9 Aa5 Aa5)))) Ab0) (Aa4 (Ab2 (Ab9 Ad0 (Ab9 Aj8 (pv 0) (Ad3 Ae2 (Ag1 (Aa8 Aa5 (Aa8 Aa5 (Aa8 Aa5 (Aa8 Aa5 Aa3))))) (pv 1) (λ_ _=>rfl))) Aa5)))))),?_⟩
  refine ⟨_,rfl,10,18,rfl,rfl,⟨by decide,by decide,by decide⟩,c,_,rfl,rfl,⟨by decide,by decide +kernel⟩,?_⟩
  refine ⟨_,rfl,_,rfl,(by omega),(by omega),?_⟩
  have en:(k:Int).toNat=k:=rfl
  rw [en]
  refine Ap5 (lo:=0) (n:=k) (λi σ H'=>(∃ (l:Int) (v:Option V),σ=[some (.int c),some (.int k),some (.int l),v])/\H'=H) ⟨⟨_,_,rfl⟩,rfl⟩ ?_ ?_
  ·rintro i σ H' hi ⟨⟨l,v,rfl⟩,rfl⟩
   exact ⟨_,rfl,2,31,rfl,rfl,⟨by decide,by decide,by decide⟩,l,_,rfl,rfl,⟨by decide,by decide +kernel⟩,⟨_,_,rfl⟩,rfl⟩
  ·rintro σ H' ⟨⟨l,v,rfl⟩,rfl⟩
   refine ⟨_,rfl,l,0,rfl,rfl,_,rfl,ite2 (λ_=>?_) (λ_=>?_)⟩
   ·refine ⟨_,rfl,2,31,rfl,rfl,⟨by decide,by decide,by decide⟩,l,_,rfl,rfl,(by show (0:Int)<2 ^ (31:Int).toNat; decide),q _ _ (Int.emod_nonneg _ (by decide)) ?_ (Same.refl _)⟩
    exact Int.emod_lt_of_pos _ (by decide)
   ·refine ⟨_,rfl,(by show 4<=sizeLine; decide),λp hp=>?_⟩
    have h3:k=0\/k=1\/k=2\/k=3:=by omega
    have b0:∀ x:Int,0<=x % 2147483647:=λx=>Int.emod_nonneg _ (by decide)
    have b1:∀ x:Int,x % 2147483647<2147483648:=λx=>by have:=Int.emod_lt_of_pos x (show (0:Int)<2147483647 by decide); omega
    rcases h3 with rfl | rfl | rfl | rfl
    ·exact ⟨_,rfl,p,_,_,_,rfl,rfl,SqL.of upd_same,rfl,c,_,rfl,rfl,.inr ⟨by decide,by decide⟩,_,2147483647,rfl,rfl,(by show (0:Int)<2147483647; decide),q _ _ (b0 _) (b1 _) (Aa6 hp)⟩
    ·exact ⟨_,rfl,p,_,_,_,rfl,rfl,SqL.of upd_same,rfl,c,_,rfl,rfl,.inr ⟨by decide,by decide⟩,_,2147483647,rfl,rfl,(by show (0:Int)<2147483647; decide),q _ _ (b0 _) (b1 _) (Aa6 hp)⟩
    ·exact ⟨_,rfl,p,_,_,_,rfl,rfl,SqL.of upd_same,rfl,c,_,rfl,rfl,.inr ⟨by decide,by decide⟩,_,2147483647,rfl,rfl,(by show (0:Int)<2147483647; decide),q _ _ (b0 _) (b1 _) (Aa6 hp)⟩
    ·exact ⟨_,rfl,p,_,_,_,rfl,rfl,SqL.of upd_same,rfl,c,_,rfl,rfl,.inr ⟨by decide,by decide⟩,_,2147483647,rfl,rfl,(by show (0:Int)<2147483647; decide),q _ _ (b0 _) (b1 _) (Aa6 hp)⟩
theorem scPg:Ab5 ["_law_script","_law_cell","_law_many","_law_mixed","_law_left","_law_pages_here","_law_page","_law_words","_law_k"] ["_law_script"] (Aa1 sPgs):=FSc
theorem Cj4 (n:Nat):ixN (n+[(0:Nat)].length) (-1)=some n:=by
 show ixN (n+1) (-1)=some n
 unfold ixN
 simp
 omega
theorem Ch2 {f f1 f2:Addr} {fd fd1 fd2:FuncData} (F:Fun K "_law_pages" "_law_pages" sPgs f fd) (D1:Dn K mg "_law_cell_at" Ba8 ["_law_script","_law_k"] f1 fd1) (G1:FnOk P w K mg base CX0 1 f1 fd1 ["_law_script","_law_k"] (Bl9 K))
  (D2:Dn K mg "_law_row_by" sRow ["_law_mixed","_law_many"] f2 fd2) (G2:FnOk P w K mg base CX0 1 f2 fd2 ["_law_mixed","_law_many"] Cc8) (T:Txt K mg):FnOk P w K mg base CX0 2 f fd ["_law_script"] (Cm6 K):=by
 refine F.ok scPg (λvs H Q E h=>?_) (λcdv A outer s H vs Q E hr h=>?_)
 ·obtain ⟨x,ns,rfl,_⟩:=h
  rfl
 ·obtain ⟨x,ns,rfl,hS,q⟩:=h
  obtain ⟨t3,R3,hR3⟩:∃ tr,PSs (cxOf CX0 P w K mg base ["_law_script","_law_cell","_law_many","_law_mixed","_law_left","_law_pages_here","_law_page","_law_words","_law_k"] "_law_pages" (Aa1 sPgs) f cdv A outer s H E).nox ((Aa9 sPgs).drop 3) tr/\∀ (c m:Int),1<=m->m<=24->tr { nx:=λ_ H'=>Q .non H',rt:=Q } [some (.ref x),some (.int c),some (.int m),none,none,none,none,none,none] H:=by
   refine ⟨_,(Aa2 (Ac5 (i:=3) scPg.nd rfl (Or.inl rfl) (Ab9 Ag8 Aa5 (Ab9 Ad0 (Ab9 Aj8 (Ab3 G1 hr (by rfl) D1.m D1.F.kp D1.b .nil Ac1 (Aa0 (pv 0) (Aa0 Aa5 Aa3))) Aa5) Aa5))) (Aa2 (Ac5 (i:=4) scPg.nd rfl (Or.inl rfl) (Ab9 Ar9 (Ab3 G1 hr (by rfl) D1.m D1.F.kp D1.b .nil Ac1 (Aa0 (pv 0) (Aa0 Aa5 Aa3))) (Ab9 Am9 Aa5 Aa5))) (Aa2 (Ac5 (i:=5) scPg.nd rfl (Or.inl rfl) (Ag1 Aa3)) (Aa2 (Ah9 PassesOwn.never rfl (Ak1 (by rfl) T.rng (Aa0 (pv 2) Aa3)) (Ad5 (i:=6) scPg.nd rfl (Or.inl rfl)) (Aa2 (Ac5 (i:=7) scPg.nd rfl (Or.inl rfl) (Ag1 Aa3)) (Aa2 (Ah9 PassesOwn.never rfl (Ak1 (by rfl) T.rng (Aa0 Aa5 Aa3)) (Ad5 (i:=8) scPg.nd rfl (Or.inl rfl)) (Aa2 (Ac5 (i:=3) scPg.nd rfl (Or.inl rfl) (Ab9 Ad0 (Ab9 Ag8 (Ab9 Aj8 (pv 3) Aa5) (Ab3 G1 hr (by rfl) D1.m D1.F.kp D1.b .nil Ac1 (Aa0 (pv 0) (Aa0 (Ab9 Ag8 Aa5 (Ab9 Ad0 (Ab9 Ag8 (Ab9 Aj8 (pv 6) Aa5) (pv 8)) Aa5)) Aa3)))) Aa5)) (Aa2 (Ad7 (Bb2 PySem.F.plainAttrs_list PySem.F.slot_list_append PySem.F.type_list_append Ah6 (pv 7) (Aa0 (Ab3 G2 hr (by rfl) D2.m D2.F.kp D2.b .nil Ac1 (Aa0 (pv 3) (Aa0 (pv 2) Aa3))) Aa3))) (Aa4 (Ac8 (Ab6 Bi6 (pv 4) Aa5 (Ac0 _)) (Aa2 (Al3 (Ab9 Ad0 (pv 4) (Ab9 Am9 Aa5 Aa5)) (Ap2 (pv 7) (Dd4 Cu2 Aa5) Ai0)) (Aa4 (Ac5 (i:=4) scPg.nd rfl (Or.inl rfl) (Ab9 Ar9 (pv 4) (Ab9 Am9 Aa5 Aa5))))) Ab0))))) (Aa2 (Ac8 (PW.pt (Ah1 (Ab6 Bi6 (pv 6) Aa5 (Ac0 _)) (Af8 (Ab6 Ae4 (Ab9 Ad0 (pv 3) Aa5) Aa5 (Ac0 _))))) (Aa4 (Ac5 (i:=7) scPg.nd rfl (Or.inl rfl) Ae8)) Ab0) (Aa4 (Ad7 (Bb2 PySem.F.plainAttrs_list PySem.F.slot_list_append PySem.F.type_list_append Ah6 (pv 5) (Aa0 (pv 7) Aa3)))))))) (Aa4 (Ab2 (pv 5))))))),λc m m1 m2=>?_⟩
   obtain ⟨n,rfl⟩:∃ n:Nat,m=(n:Int):=⟨m.toNat,by omega⟩
   refine ⟨_,rfl,x,ns,1,rfl,hS,_,1226874159,rfl,rfl,.inr ⟨by decide,by decide⟩,_,2147483647,rfl,rfl,(by show (0:Int)<2147483647; decide),1,_,rfl,rfl,?_⟩
   have b0:0<=ns.getD 1 0 * 1226874159 % 2147483647:=Int.emod_nonneg _ (by decide)
   have b1:ns.getD 1 0 * 1226874159 % 2147483647<2147483647:=Int.emod_lt_of_pos _ (by decide)
   dsimp only
   generalize ns.getD 1 0 * 1226874159 % 2147483647=mx0 at b0 b1 ⊢
   refine ⟨_,rfl,x,ns,1,rfl,hS,10,18,rfl,rfl,⟨by decide,by decide,by decide⟩,_,_,rfl,rfl,⟨by decide,by decide +kernel⟩,?_⟩
   refine ⟨by show 0<=sizeLine; decide,λD hD=>?_⟩
   refine ⟨_,rfl,(n:Int),rfl,by omega,by omega,?_⟩
   rw [Int.toNat_natCast]
   refine Ap5 (lo:=0) (n:=n) (λi σ H'=>∃ (mx lf:Int) (v1 v2 v3:Option V),σ=[some (.ref x),some (.int c),some (.int n),some (.int mx),some (.int lf),some (.ref D),v1,v2,v3]/\0<=mx/\mx<=2147483647/\∃ qs:Pgs,Same H H'/\Pg H' D qs/\Good qs/\qs.length=i/\(∀ b,At D qs b->H b=none)) ?_ ?_ ?_
   ·refine ⟨_,_,_,_,_,rfl,by omega,by omega,[],Aa6 hD,⟨upd_same,λi p ws e=>by simp at e,λi j p ws ws' e=>by simp at e⟩,λi p ws e=>by simp at e,rfl,λb hb=>?_⟩
    rcases hb with rfl | ⟨i,ws,e⟩
    ·exact hD
    ·simp at e
   ·rintro i σ H' hi ⟨mx,lf0,v1,v2,v3,rfl,x0,x1,qs,ss,gq,hg,hql,hf⟩
    have ei:(0:Int)+(i:Int)=(i:Int):=by omega
    rw [ei]
    have sl:i<sizeLine:=Nat.lt_of_lt_of_le (show i<25 by omega) (by decide)
    have sz:(qs.map pgV).length<sizeLine:=by rw [List.length_map,hql]; exact sl
    refine ⟨by show 0<=sizeLine; decide,λl hl=>?_⟩
    refine ⟨8,rfl,by decide,by decide,Ap5 (lo:=0) (n:=8) (λj σ H2=>∃ (my lf:Int) (v3:Option V),σ=[some (.ref x),some (.int c),some (.int n),some (.int my),some (.int lf),some (.ref D),some (.int i),some (.ref l),v3]/\0<=my/\my<=2147483647/\∃ ws:List Int,Same H' H2/\H2 l=some (.lst (ws.map V.int))/\ws.length=j/\∀ w ∈ ws,0<=w/\w<281474976710656) ?_ ?_ ?_⟩
    ·exact ⟨_,_,_,rfl,x0,x1,[],Aa6 hl,upd_same,rfl,λw hw=>by cases hw⟩
    ·rintro j σ H2 hj ⟨my,lf,v3,rfl,y0,y1,ws,s2,el,wl,wb⟩
     have ej:(0:Int)+(j:Int)=(j:Int):=by omega
     rw [ej]
     refine ⟨_,rfl,my,48271,rfl,rfl,.inr ⟨by decide,by decide⟩,_,rfl,_,rfl,(i:Int),8,rfl,rfl,.inr ⟨by decide,by decide⟩,_,rfl,_,(j:Int),rfl,rfl,_,60,rfl,rfl,(by show (0:Int)<60; decide),2,_,rfl,rfl,x,ns,2+(i * 8+j) % 60,congrArg (λz=>[V.ref x,V.int z]) (show (2:Int)+((i:Int) * 8+(j:Int)) % 60=((2+(i * 8+j) % 60:Nat):Int) by omega),(ss.trans s2).seq hS,_,_,rfl,rfl,_,2147483647,rfl,rfl,(by show (0:Int)<2147483647; decide),?_⟩
     generalize ns.getD (2+(i * 8+j) % 60) 0=d
     have z0:0<=(my * 48271+d) % 2147483647:=Int.emod_nonneg _ (by decide)
     have z1:(my * 48271+d) % 2147483647<2147483647:=Int.emod_lt_of_pos _ (by decide)
     dsimp only
     generalize (my * 48271+d) % 2147483647=mz at z0 z1 ⊢
     refine ⟨_,rfl,.inl ⟨rfl,_,SqL.of el⟩,_,rfl,_,rfl,mz,n,rfl,z0,by omega,by omega,λr H3 s3 r0 r1=>⟨l,_,_,rfl,rfl,s3 _ _ el,?_,?_⟩⟩
     ·rw [List.length_map,wl]; exact Nat.lt_of_lt_of_le (show j<9 by omega) (by decide)
     have s4:Same H' (upd H3 l (.lst ((ws++[r]).map V.int))):=(s2.trans s3).set hl
     have el4:upd H3 l (.lst (ws.map V.int++[V.int r])) l=some (.lst ((ws++[r]).map V.int)):=by rw [upd_same,List.map_append]; rfl
     have em:(ws++[r]).map V.int=ws.map V.int++[V.int r]:=by rw [List.map_append]; rfl
     rw [em] at s4
     generalize upd H3 l (.lst (ws.map V.int++[V.int r]))=H4 at *
     refine ⟨_,rfl,lf,0,rfl,rfl,_,rfl,ite2 (λ_=>?_) (λ_=>⟨mz,_,_,rfl,z0,by omega,ws++[r],s4,el4,by rw [List.length_append,wl]; rfl,λw hw=>?_⟩)⟩
     ·have q0:0<=lf % 281474976710656:=Int.emod_nonneg _ (by decide)
      have q1:lf % 281474976710656<281474976710656:=Int.emod_lt_of_pos _ (by decide)
      refine ⟨_,rfl,2,48,rfl,rfl,⟨by decide,by decide,by decide⟩,lf,_,rfl,rfl,(by show (0:Int)<2 ^ (48:Int).toNat; decide),_,rfl,1,rfl,l,_,_,ws.length,rfl,rfl,el4,?_,?_⟩
      ·rw [List.length_map,List.length_append]
       exact Cj4 _
      dsimp only
      rw [show (2:Int) ^ (48:Int).toNat=281474976710656 by decide]
      generalize lf % 281474976710656=w0 at q0 q1 ⊢
      have el5:((ws++[r]).map V.int).set ws.length (.int w0)=(ws++[w0]).map V.int:=by
       rw [<- List.map_set,List.set_append_right _ _ (Nat.le_refl _),Nat.sub_self]
       rfl
      rw [el5]
      refine ⟨_,rfl,2,48,rfl,rfl,⟨by decide,by decide,by decide⟩,lf,_,rfl,rfl,⟨by decide,by decide +kernel⟩,mz,_,_,rfl,z0,by omega,ws++[w0],s4.set hl,upd_same,by rw [List.length_append,wl]; rfl,λw hw=>?_⟩
      rcases List.mem_append.mp hw with z | z
      ·exact wb w z
      ·rw [List.mem_singleton.mp z]
       exact ⟨q0,q1⟩
     ·rcases List.mem_append.mp hw with z | z
      ·exact wb w z
      ·rw [List.mem_singleton.mp z]
       exact ⟨r0,r1⟩
    ·rintro σ H2 ⟨my,lf,v3,rfl,y0,y1,ws,s2,el,wl,wb⟩
     have hn:∀ (q:Addr) (vs:List Int),some (l,ws)=some (q,vs)->H2 q=some (.lst (vs.map V.int))/\H' q=none:=λq vs e=>by
      cases e
      exact ⟨el,hl⟩
     have fin:∀ b,At D (qs++[some (l,ws)]) b->H b=none:=λb hb=>by
      rcases hb.app with z | ⟨ws,z⟩
      ·exact hf b z
      ·cases z
       exact ss.free hl
     refine ⟨_,rfl,_,0,rfl,rfl,_,rfl,ite2 (λ_=>⟨_,rfl,my,7,rfl,rfl,(by show (0:Int)<7; decide),rfl,_,rfl,ite2 (λ_=>⟨_,rfl,.inl ⟨rfl,_,SqL.of (s2 _ _ gq.top)⟩,_,rfl,D,_,_,rfl,rfl,s2 _ _ gq.top,sz,my,_,_,_,_,rfl,y0,y1,qs++[none],(ss.trans s2).set hD,gq.app (o:=none) s2 (λq ws e=>by cases e),hg.app (o:=none) (λq ws e=>by cases e),by rw [List.length_append,hql]; rfl,λb hb=>?_⟩) (λ_=>?_)⟩) (λ_=>?_)⟩
     ·rcases hb.app with z | ⟨ws,z⟩
      ·exact hf b z
      ·cases z
     all_goals
      refine ⟨_,rfl,.inl ⟨rfl,_,SqL.of (s2 _ _ gq.top)⟩,_,rfl,D,_,_,rfl,rfl,s2 _ _ gq.top,sz,my,_,_,_,_,rfl,y0,y1,qs++[some (l,ws)],(ss.trans s2).set hD,gq.app s2 hn,hg.app λq vs e=>?_,by rw [List.length_append,hql]; rfl,fin⟩
      cases e
      exact ⟨wl,wb⟩
   ·rintro σ H' ⟨mx,lf0,v1,v2,v3,rfl,x0,x1,qs,ss,gq,hg,hql,hf⟩
    exact ⟨_,rfl,q D H' qs ss gq hg (by omega) (by omega) hf⟩
  refine ⟨_,Aa2 (Ac5 (i:=1) scPg.nd rfl (Or.inl rfl) (Ab3 G1 hr (by rfl) D1.m D1.F.kp D1.b .nil Ac1 (Aa0 (pv 0) (Aa0 Aa5 Aa3)))) (Aa2 (Ac5 (i:=2) scPg.nd rfl (Or.inl rfl) (Ab9 Ag8 Aa5 (Ab9 Ad0 (Ab9 Ad0 (Ab9 Aj8 (pv 1) Aa5) Aa5) Aa5))) (Aa2 (Ac8 (Ab6 Ae4 (Ab9 Ad0 (pv 1) Aa5) Aa5 (Ac0 _)) (Aa4 (Ac5 (i:=2) scPg.nd rfl (Or.inl rfl) (Ab9 Ag8 Aa5 (Ab9 Ad0 (Ab9 Ad0 (Ab9 Aj8 (pv 1) Aa5) Aa5) Aa5)))) Ab0) R3)),?_⟩
  refine ⟨_,rfl,x,ns,0,rfl,hS,?_⟩
  generalize ns.getD 0 0=c
  refine ⟨_,rfl,c,950706376,rfl,rfl,.inr ⟨by decide,by decide⟩,_,2147483647,rfl,rfl,(by show (0:Int)<2147483647; decide),_,5,rfl,rfl,(by show (0:Int)<5; decide),2,_,rfl,rfl,?_⟩
  refine ⟨_,rfl,c,8,rfl,rfl,(by show (0:Int)<8; decide),rfl,_,rfl,ite2 (λ_=>?_) (λ_=>?_)⟩
  ·refine ⟨_,rfl,c,742938285,rfl,rfl,.inr ⟨by decide,by decide⟩,_,2147483647,rfl,rfl,(by show (0:Int)<2147483647; decide),_,24,rfl,rfl,(by show (0:Int)<24; decide),1,_,rfl,rfl,?_⟩
   exact hR3 c _ (by omega) (by omega)
  ·exact hR3 c _ (by omega) (by omega)
end
end K28
end
section
namespace K28
open PySem L2
theorem Cu1 (a b:Nat):(a &&& b) % 2=a % 2 * (b % 2):=by
 have h:=Nat.testBit_and a b 0
 simp only [Nat.testBit_zero] at h
 have ha:a % 2=0\/a % 2=1:=by omega
 have hb:b % 2=0\/b % 2=1:=by omega
 have hc:(a &&& b) % 2=0\/(a &&& b) % 2=1:=by omega
 rcases ha with ha | ha <;> rcases hb with hb | hb <;> rcases hc with hc | hc <;> simp_all
theorem Cx4 (a b:Nat):(a ||| b) % 2+a % 2 * (b % 2)=a % 2+b % 2:=by
 have h:=Nat.testBit_or a b 0
 simp only [Nat.testBit_zero] at h
 have ha:a % 2=0\/a % 2=1:=by omega
 have hb:b % 2=0\/b % 2=1:=by omega
 have hc:(a ||| b) % 2=0\/(a ||| b) % 2=1:=by omega
 rcases ha with ha | ha <;> rcases hb with hb | hb <;> rcases hc with hc | hc <;> simp_all
theorem Bw6:∀ (n a b:Nat),a<n->(a ||| b)+(a &&& b)=a+b
 | 0,_,_,h=>absurd h (Nat.not_lt_zero _)
 | n+1,a,b,h=>by
  by_cases z:a=0
  ·subst z; simp
  ·have ih:=Bw6 n (a / 2) (b / 2) (by omega)
   rw [<- Nat.or_div_two,<- Nat.and_div_two] at ih
   have m1:=Cx4 a b
   have m2:=Cu1 a b
   rw [<- m2] at m1
   omega
theorem Aq3 (w k:Nat):w &&& 2 ^ k=2 ^ k * (w / 2 ^ k % 2):=by
 have hw:w.testBit k=decide (w / 2 ^ k % 2=1):=Nat.testBit_eq_decide_div_mod_eq
 have h2:w / 2 ^ k % 2=0\/w / 2 ^ k % 2=1:=by omega
 apply Nat.eq_of_testBit_eq
 intro i
 rw [Nat.testBit_and,Nat.testBit_two_pow]
 rcases h2 with e | e
 ·rw [e,Nat.mul_zero,Nat.zero_testBit]
  by_cases hi:k=i
  ·subst hi
   rw [hw,e]
   rfl
  ·rw [decide_eq_false hi,Bool.and_false]
 ·rw [e,Nat.mul_one,Nat.testBit_two_pow]
  by_cases hi:k=i
  ·subst hi
   rw [hw,e]
   rfl
  ·rw [decide_eq_false hi,Bool.and_false]
theorem and8 (w:Nat):w &&& 8=8 * (w / 8 % 2):=Aq3 w 3
theorem Df3 (w:Nat):w &&& 16=16 * (w / 16 % 2):=Aq3 w 4
theorem or8 (w:Nat):w ||| 8=if w / 8 % 2=0 then w+8 else w:=by
 have h:=Bw6 (w+1) w 8 (Nat.lt_succ_self _)
 rw [and8] at h
 split <;> omega
theorem or16 (w:Nat):w ||| 16=if w / 16 % 2=0 then w+16 else w:=by
 have h:=Bw6 (w+1) w 16 (Nat.lt_succ_self _)
 rw [Df3] at h
 split <;> omega
theorem or24 (w:Nat):w ||| 24=(w ||| 8) ||| 16:=by
 rw [Nat.or_assoc,show (8 ||| 16:Nat)=24 from by decide]
theorem Az4 (w i:Nat):hasN w (2 ^ i)=decide (w / 2 ^ i % 2=1):=by
 unfold hasN
 rw [Aq3]
 have:0<2 ^ i:=Nat.two_pow_pos i
 rcases Nat.mod_two_eq_zero_or_one (w / 2 ^ i) with h | h <;> rw [h]
 ·simp; omega
 ·simp
theorem Da0 (w:Nat):hasN w 1=decide (w % 2=1):=by have:=Az4 w 0; simpa using this
theorem Cz9 (w:Nat):hasN w 2=decide (w / 2 % 2=1):=Az4 w 1
theorem Cz8 (w:Nat):hasN w 4=decide (w / 4 % 2=1):=Az4 w 2
theorem Bi1 (t l:Nat):rigN t l=2 * ((t / 2 % 2) * (l / 2 % 2))+4 * (if t / 4 % 2=1\/l / 4 % 2=1 then 1 else 0)+16 * (l / 16 % 2):=by
 have a1:t &&& l &&& 2=2 * ((t &&& l).testBit 1).toNat:=by rw [Nat.toNat_testBit]; exact Aq3 _ 1
 have a2:(t ||| l) &&& 4=4 * ((t ||| l).testBit 2).toNat:=by rw [Nat.toNat_testBit]; exact Aq3 _ 2
 have a3:l &&& 16=16 * (l.testBit 4).toNat:=by rw [Nat.toNat_testBit]; exact Aq3 _ 4
 have b1:t / 2 % 2=(t.testBit 1).toNat:=(Nat.toNat_testBit t 1).symm
 have b2:l / 2 % 2=(l.testBit 1).toNat:=(Nat.toNat_testBit l 1).symm
 have b3:t / 4 % 2=(t.testBit 2).toNat:=(Nat.toNat_testBit t 2).symm
 have b4:l / 4 % 2=(l.testBit 2).toNat:=(Nat.toNat_testBit l 2).symm
 have b5:l / 16 % 2=(l.testBit 4).toNat:=(Nat.toNat_testBit l 4).symm
 unfold rigN
 rw [a1,a2,a3,b1,b2,b3,b4,b5,Nat.testBit_and,Nat.testBit_or]
 cases t.testBit 1 <;> cases l.testBit 1 <;> cases t.testBit 2 <;> cases l.testBit 2 <;> cases l.testBit 4 <;> decide
def An2 (r w:Int):Int:=if w / 4 % 2=1/\(if w / 2 % 2=0 then r / 4 * 4 else r) % 8<4 then (if w / 2 % 2=0 then r / 4 * 4 else r)+4 else (if w / 2 % 2=0 then r / 4 * 4 else r)
theorem Cd8 (t l:Nat):((rigN t l:Nat):Int)=An2 (An2 2 (t:Int)) (l:Int)+(if (l:Int) / 16 % 2=1 then 16 else 0):=by
 rw [Bi1]
 have c1:(t:Int) / 2 % 2=((t / 2 % 2:Nat):Int):=by omega
 have c2:(l:Int) / 2 % 2=((l / 2 % 2:Nat):Int):=by omega
 have c3:(t:Int) / 4 % 2=((t / 4 % 2:Nat):Int):=by omega
 have c4:(l:Int) / 4 % 2=((l / 4 % 2:Nat):Int):=by omega
 have c5:(l:Int) / 16 % 2=((l / 16 % 2:Nat):Int):=by omega
 unfold An2
 rw [c1,c2,c3,c4,c5]
 rcases Nat.mod_two_eq_zero_or_one (t / 2) with h1 | h1 <;> rcases Nat.mod_two_eq_zero_or_one (l / 2) with h2 | h2 <;> rcases Nat.mod_two_eq_zero_or_one (t / 4) with h3 | h3 <;> rcases Nat.mod_two_eq_zero_or_one (l / 4) with h4 | h4 <;> rcases Nat.mod_two_eq_zero_or_one (l / 16) with h5 | h5 <;> rw [h1,h2,h3,h4,h5] <;> decide
theorem Ck4 (t l:Nat):rigN t l ||| 16=if rigN t l<16 then rigN t l+16 else rigN t l:=by
 rw [or16,Bi1]
 rcases Nat.mod_two_eq_zero_or_one (t / 2) with h1 | h1 <;> rcases Nat.mod_two_eq_zero_or_one (l / 2) with h2 | h2 <;> rcases Nat.mod_two_eq_zero_or_one (t / 4) with h3 | h3 <;> rcases Nat.mod_two_eq_zero_or_one (l / 4) with h4 | h4 <;> rcases Nat.mod_two_eq_zero_or_one (l / 16) with h5 | h5 <;> rw [h1,h2,h3,h4,h5] <;> decide
end K28
end
section
namespace L2
open PySem PySem.Spec PyProof.Rows
def Aq1 (H:Hp):V->Bool
 | .ref a=>match H a with | some (.tup _)=>true | _=>false
 | _=>false
section
variable {K : PySem.W.Frag}
theorem Bj1:PySem.W.kitOne K (.type "NoneType") (.type "tuple")=some false:=by kernel_rfl
theorem Br1:PySem.W.kitOne K (.type "bool") (.type "tuple")=some false:=by kernel_rfl
theorem Bj0:PySem.W.kitOne K (.type "str") (.type "tuple")=some false:=by kernel_rfl
theorem Au4:PySem.W.kitOne K (.type "list") (.type "tuple")=some false:=by kernel_rfl
theorem Bj3:PySem.W.kitOne K (.type "dict") (.type "tuple")=some false:=by kernel_rfl
end
section
variable {X : Cx}
theorem Al0:Aq4 X (.builtin "isinstance") (λxs H Q=>∃ x,xs=[x,.ty "tuple"]/\Th H x/\Q (.bl (Aq1 H x)) H):=by
 intro pins s σ H xs us Q I r h
 obtain ⟨x,rfl,th,q⟩:=h
 obtain ⟨u,v,rfl,rx,rt⟩:=r.two
 obtain rfl:v=PySem.Value.type "tuple":=rt
 cases th with
 | non=>exact Ac6 I rx .non Bj1 λtk=>⟨.bl _,H,I.tok tk,rfl,q⟩
 | bl b=>exact Ac6 I rx (.bl b) Br1 λtk=>⟨.bl _,H,I.tok tk,rfl,q⟩
 | int i=>exact Ac6 I rx (.int i) Bj2 λtk=>⟨.bl _,H,I.tok tk,rfl,q⟩
 | str z=>exact Ac6 I rx (.str z) Bj0 λtk=>⟨.bl _,H,I.tok tk,rfl,q⟩
 | lst e=>exact Ac6 I rx (.lst e) Au4 λtk=>⟨.bl _,H,I.tok tk,rfl,by simp only [Aq1,e] at q; exact q⟩
 | frz e=>exact Ac6 I rx (.frz e) Au4 λtk=>⟨.bl _,H,I.tok tk,rfl,by simp only [Aq1,e] at q; exact q⟩
 | tup e=>exact Ac6 I rx (.tup e) Bi9 λtk=>⟨.bl _,H,I.tok tk,rfl,by simp only [Aq1,e] at q; exact q⟩
 | dic e=>exact Ac6 I rx (.dK e) Bj3 λtk=>⟨.bl _,H,I.tok tk,rfl,by simp only [Aq1,e] at q; exact q⟩
end
end L2
end
section
namespace K28
open PySem L2
abbrev At4:Stmt:=top 56
abbrev sIsS:Stmt:=top 62
abbrev At8:Stmt:=top 60
abbrev As9:Stmt:=top 64
abbrev sMkd:Stmt:=top 65
theorem eqvT (ns:List Int):PyData.eqv (.tuple (ns.map PyData.int)) (.tuple (ns.map PyData.int))=true:=eqvI ns
def dT (x:Int×Int×Int):PyData:=.tuple [.int x.1,.int x.2.1,.int x.2.2]
theorem Bo3:∀ rs:Rs,PyData.canLayAll0 (rs.map dT)=true/\PyData.depthAll (rs.map dT)<=1/\PyData.eqvAll (rs.map dT) (rs.map dT)=true
 | []=>⟨rfl,Nat.zero_le _,rfl⟩
 | x::r=>by
  obtain ⟨h1,h2,h3⟩:=Bo3 r
  obtain ⟨a,b,c⟩:=x
  have e:=eqvT [a,b,c]
  refine ⟨?_,?_,?_⟩
  ·simp only [List.map_cons,dT,PyData.canLayAll0,PyData.canLay0,h1]
   rfl
  ·simp only [List.map_cons,dT,PyData.depthAll,PyData.depth]
   omega
  ·show (PyData.eqv (dT (a,b,c)) (dT (a,b,c)) && PyData.eqvAll (r.map dT) (r.map dT))=true
   rw [h3,show PyData.eqv (dT (a,b,c)) (dT (a,b,c))=true from e]
   rfl
theorem Ay0 (rs:Rs):SeqAt.shaped (.list (rs.map dT))=true:=by
 obtain ⟨h1,h2,_⟩:=Bo3 rs
 simp only [SeqAt.shaped,PyData.canLay0,PyData.depth,h1,Bool.true_and]
 exact decide_eq_true (by omega)
theorem Trs.dat {K:PySem.W.Frag} {H:Hp} {ys:List V} {rs:Rs} (h:Trs H ys rs):DatsR K H ys (rs.map dT):=by
 induction h with
 | nil=>exact .nil
 | cons e _ ih=>exact .cons (.tup (SqT.of e) (.cons (.int _) (.cons (.int _) (.cons (.int _) .nil)))) ih
def Bf2:Sp:=λvs H Q _=>∃ c:Int,vs=[.int c]/\∀ (pl:Nat) (H':Hp),Same H H'->Q (.int (pl:Int)) H'
def Cm9:Sp:=λvs H Q _=>∃ (p r:Addr) (rs:Rs),vs=[.ref p,.ref r]/\TL H p rs/\TL H r rs/\rs.length<=13/\Q (.bl true) H
inductive Alk (H:Hp):V->V->Prop
 | non:Alk H .non .non
 | int (i:Int):Alk H (.int i) (.int i)
 | bl (b:Bool):Alk H (.bl b) (.bl b)
 | flt {a b:Addr} {z:Str} {pl lv:Int}:PyData.strOk z=true->H a=some (.tup [.str "fault",.str z,.int pl,.int lv])->H b=some (.tup [.str "fault",.str z,.int pl,.int lv])->Alk H (.ref a) (.ref b)
theorem shF {z:Str} (hz:PyData.strOk z=true) (pl lv:Int):SeqAt.shaped (.tuple [.str "fault",.str z,.int pl,.int lv])=true:=by
 simp [SeqAt.shaped,PyData.canLay0,PyData.canLayAll0,PyData.depth,PyData.depthAll,hz]
 decide +kernel
def Bf9:Sp:=λvs H Q _=>∃ x y,vs=[x,y]/\Alk H x y/\Q (.bl true) H
def celN (pl:Nat):Nat->Nat
 | 0=>pl / 8 / 8
 | _=>pl / 8 % 8
def pagN (qs:Pgs) (rt pl:Nat):Nat->Nat
 | 0=>rt
 | i+1=>Ad8 qs (pagN qs rt pl i) (celN pl i) / 256
def rwN (qs:Pgs) (rt pl i:Nat):Nat:=Ad8 qs (pagN qs rt pl i) (celN pl i)
def rgN (qs:Pgs) (rt pl:Nat):Nat->Int
 | 0=>2
 | i+1=>An2 (rgN qs rt pl i) (rwN qs rt pl i:Nat)+(if i=1/\((rwN qs rt pl i:Nat):Int) / 16 % 2=1 then 16 else 0)
theorem Af7 {qs:Pgs} (i:Nat):hasP qs (.int (i:Int))=Af4 qs[i]?:=by
 simp only [hasP,Int.toNat_natCast]
 by_cases h:i<qs.length
 ·have h1:(0:Int)<=i:=by omega
  have h2:(i:Int)<qs.length:=by omega
  simp [h1,h2]
 ·rw [List.getElem?_eq_none (by omega)]
  simp [Af4]
theorem By1 (qs:Pgs) (w:Nat) (wr k:Bool):Ag2 qs w wr k=if w % 2=0 then some ("absent":Str) else if hasP qs (.int ((w / 256:Nat):Int))=false then some ("beyond":Str) else if w / 4 % 2=1/\k=false then some ("kernel":Str) else if wr=true/\w / 2 % 2=0 then some ("fixed":Str) else none:=by
 unfold Ag2
 rw [Da0,Cz9,Cz8]
 generalize hasP qs (.int ((w / 256:Nat):Int))=hp
 rcases Nat.mod_two_eq_zero_or_one w with h1 | h1 <;> rcases Nat.mod_two_eq_zero_or_one (w / 2) with h2 | h2 <;> rcases Nat.mod_two_eq_zero_or_one (w / 4) with h4 | h4 <;> cases wr <;> cases k <;> cases hp <;> simp [h1,h2,h4]
theorem Ci7 {qs:Pgs} {rt pl:Nat} {wr k:Bool} (h:511<pl):Ag9 qs rt pl wr k=.fault "far" 0:=by unfold Ag9; rw [if_pos (by omega)]
theorem Bx8 {qs:Pgs} {rt pl:Nat} {wr k:Bool} (h:¬ 511<pl) (h2:hasP qs (.int (rt:Int))=false):Ag9 qs rt pl wr k=.fault "beyond" 0:=by unfold Ag9; rw [if_neg (by omega),if_pos h2]
theorem By0 {qs:Pgs} {w:Nat} {wr k:Bool} {z:Str} (h:Ag2 qs w wr k=some z):PyData.strOk z=true:=by
 rw [By1] at h
 repeat' split at h
 all_goals first | (cases h; decide +kernel) | cases h
theorem Ct1 {qs:Pgs} {rt pl lv:Nat} {wr k:Bool} {z:Str} (h:Ag9 qs rt pl wr k=.fault z lv):PyData.strOk z=true:=by
 unfold Ag9 at h
 split at h
 ·cases h; decide +kernel
 ·split at h
  ·cases h; decide +kernel
  ·split at h
   ·rename_i e; cases h; exact By0 e
   ·split at h
    ·rename_i e; cases h; exact By0 e
    ·cases h
theorem Bx9 {qs:Pgs} {rt pl:Nat} {wr k:Bool} {i:Nat} {z:Str} (h:¬ 511<pl) (h2:hasP qs (.int (rt:Int))=true) (hi:i<2) (hl:∀ j,j<i->Ag2 qs (rwN qs rt pl j) wr k=none) (hz:Ag2 qs (rwN qs rt pl i) wr k=some z):Ag9 qs rt pl wr k=.fault z (i+1):=by
 have h2':¬ hasP qs (.int (rt:Int))=false:=by rw [h2]; decide
 unfold Ag9
 rw [if_neg (by omega),if_neg h2']
 match i,hi with
 | 0,_ =>
  have:Ag2 qs (Ad8 qs rt (pl / 8 / 8)) wr k=some z:=hz
  rw [this]
 | 1,_ =>
  have e0:Ag2 qs (Ad8 qs rt (pl / 8 / 8)) wr k=none:=hl 0 (by omega)
  have:Ag2 qs (Ad8 qs (Ad8 qs rt (pl / 8 / 8) / 256) (pl / 8 % 8)) wr k=some z:=hz
  rw [e0]
  dsimp only
  rw [this]
theorem Ci8 {qs:Pgs} {rt pl:Nat} {wr k:Bool} (h:¬ 511<pl) (h2:hasP qs (.int (rt:Int))=true) (hl:∀ j,j<2->Ag2 qs (rwN qs rt pl j) wr k=none):Ag9 qs rt pl wr k=.trail (pagN qs rt pl 1) (pagN qs rt pl 2) (rwN qs rt pl 0) (rwN qs rt pl 1)/\rgN qs rt pl 2=((rigN (rwN qs rt pl 0) (rwN qs rt pl 1):Nat):Int):=by
 have h2':¬ hasP qs (.int (rt:Int))=false:=by rw [h2]; decide
 constructor
 ·unfold Ag9
  rw [if_neg (by omega),if_neg h2']
  have e0:Ag2 qs (Ad8 qs rt (pl / 8 / 8)) wr k=none:=hl 0 (by omega)
  have e1:Ag2 qs (Ad8 qs (Ad8 qs rt (pl / 8 / 8) / 256) (pl / 8 % 8)) wr k=none:=hl 1 (by omega)
  rw [e0]
  dsimp only
  rw [e1]
  rfl
 ·rw [Cd8]
  show An2 (An2 2 _+(if (0:Nat)=1/\_ then 16 else 0)) _+(if (1:Nat)=1/\_ then 16 else 0)=_
  rw [if_neg (by simp),Int.add_zero]
  simp only [true_and]
def Be4:Sp:=λvs H Q _=>∃ (D:Addr) (qs:Pgs) (rt pl:Nat) (wr k:Bool),vs=[.int (rt:Int),.ref D,.int (pl:Int),.bl wr,.bl k]/\Pg H D qs/\Good qs /\
 (∀ z lv,Ag9 qs rt pl wr k=.fault z lv->∀ t H',Same H H'->H t=none->H' t=some (.tup [.str "fault",.str z,.int (pl:Int),.int (lv:Int)])->Q (.ref t) H') /\
 ∀ p1 pg t l,Ag9 qs rt pl wr k=.trail p1 pg t l->∀ tt t1 t2 H',Same H H'->H' tt=some (.tup [.ref t1,.ref t2,.int (pg:Int),.int ((rigN t l:Nat):Int)])->H' t1=some (.tup [.int (rt:Int),.int ((pl / 8 / 8:Nat):Int)])->H' t2=some (.tup [.int (p1:Int),.int ((pl / 8 % 8:Nat):Int)])->Q (.ref tt) H'
def Cm7:Sp:=λvs H Q _=>∃ (D tt t1 t2:Addr) (qs:Pgs) (i j i1 j1 pg t l:Nat) (wr:Bool),vs=[.ref D,.ref tt,.bl wr]/\Pg H D qs/\Good qs/\H tt=some (.tup [.ref t1,.ref t2,.int (pg:Int),.int ((rigN t l:Nat):Int)])/\H t1=some (.tup [.int (i:Int),.int (j:Int)])/\H t2=some (.tup [.int (i1:Int),.int (j1:Int)])/\hasP qs (.int (i:Int))=true/\hasP qs (.int (i1:Int))=true/\j<8/\j1<8 /\
 ∀ H',Pg H' D (mkN (mkN qs i j 8) i1 j1 (if wr then 24 else 8))->Kpt D qs H H'->Q (.int ((if wr then rigN t l ||| 16 else rigN t l:Nat):Int)) H'
section
variable {P : Program} {w : World} {K : PySem.W.Frag} {mg : Str → Option Value} {base : Heap} {C NP NL NW NI SC PL WC FA : Addr}
theorem scPlc:Ab5 ["_law_cell","_law_pick"] ["_law_cell"] (Aa1 At4):=FSc
theorem Ch0 {f f1:Addr} {fd fd1:FuncData} (F:Fun K "_law_place" "_law_place" At4 f fd) (D1:Dn K mg "_law_own" sOwn ["_law_cell","_law_k"] f1 fd1) (G1:FnOk P w K mg base CX0 1 f1 fd1 ["_law_cell","_law_k"] Cc9) (T:Txt K mg):FnOk P w K mg base CX0 2 f fd ["_law_cell"] Bf2:=by
 refine F.ok scPlc (λvs H Q E h=>?_) (λcdv A outer s H vs Q E hr h=>?_)
 ·obtain ⟨c,rfl,_⟩:=h
  rfl
 ·obtain ⟨c,rfl,q⟩:=h
  refine ⟨_,(Aa2 (Ac5 (i:=1) scPlc.nd rfl (Or.inl rfl) (Ab3 G1 hr (by rfl) D1.m D1.F.kp D1.b .nil Ac1 (Aa0 (pv 0) (Aa0 Aa5 Aa3)))) (Aa2 (Ac8 (Ab6 Ae4 (Ab9 Ad0 (pv 1) Aa5) Aa5 (Ac0 _)) (Aa4 (Ab2 (Ab9 Ad0 (Ab9 Ad9 (pv 1) Aa5) Aa5))) Ab0) (Aa2 (Ac8 (Ab6 Ae4 (Ab9 Ad0 (pv 1) Aa5) Aa5 (Ac0 _)) (Aa4 (Ab2 (Ad3 Ae2 (Ag1 (Aa8 Aa5 (Aa8 (Ab9 Av6 (Ab9 Am9 Aa5 Aa5) Aa5) (Aa8 Aa5 (Aa8 Aa5 Aa3))))) (Ab9 Ad0 (Ab9 Ad9 (pv 1) Aa5) Aa5) (λ_ _=>rfl)))) Ab0) (Aa2 (Ac8 (Ab6 Bb5 (Ab9 Ad0 (pv 1) Aa5) Aa5 (Ac0 _)) (Aa4 (Ab2 (Ab9 Ad0 (Ab9 Ad9 (pv 1) Aa5) Aa5))) Ab0) (Aa4 (Ab2 (Ab9 Ag8 (Ab9 Aj8 (Ab9 Ad0 (Ab9 Ad9 (pv 1) Aa5) Aa5) Aa5) (Ab9 Ad0 (Ab9 Ad9 (pv 1) Aa5) Aa5)))))))),?_⟩
  refine ⟨_,rfl,c,2,rfl,by decide,λr H1 r0 _ s1=>?_⟩
  have e48:(2:Int) ^ (48:Int).toNat=281474976710656:=by decide
  have fin:∀ (v:Int) (H':Hp),0<=v->Same H1 H'->Q (.int v) H':=λv H' v0 s2=>by
   obtain ⟨n,rfl⟩:∃ n:Nat,v=(n:Int):=⟨v.toNat,by omega⟩
   exact q n H' (s1.trans s2)
  refine ⟨_,rfl,r,8,rfl,rfl,(by show (0:Int)<8; decide),rfl,_,rfl,ite2 (λ_=>?_) (λ_=>⟨_,rfl,r,8,rfl,rfl,(by show (0:Int)<8; decide),rfl,_,rfl,ite2 (λ_=>?_) (λ_=>⟨_,rfl,r,8,rfl,rfl,(by show (0:Int)<8; decide),_,_,rfl,rfl,_,rfl,ite2 (λ_=>?_) (λ_=>?_)⟩)⟩)⟩
  ·exact ⟨_,rfl,r,8,rfl,rfl,⟨by decide,by decide⟩,_,512,rfl,rfl,(by show (0:Int)<512; decide),fin _ _ (Int.emod_nonneg _ (by decide)) (Same.refl _)⟩
  ·refine ⟨2,48,rfl,rfl,⟨by decide,by decide,by decide⟩,_,1,rfl,rfl,(by show 4<=sizeLine; decide),λp hp=>?_⟩
   refine ⟨_,rfl,r,8,rfl,rfl,⟨by decide,by decide⟩,_,4,rfl,rfl,(by show (0:Int)<4; decide),?_⟩
   dsimp only
   obtain ⟨k,hk,hk4⟩:∃ k:Nat,r / 8 % 4=(k:Int)/\k<4:=⟨(r / 8 % 4).toNat,by omega,by omega⟩
   rw [hk,e48]
   have h4:k=0\/k=1\/k=2\/k=3:=by omega
   rcases h4 with rfl | rfl | rfl | rfl
   ·exact ⟨p,_,_,.int 512,rfl,rfl,SqL.of upd_same,rfl,fin _ _ (by decide) (Aa6 hp)⟩
   ·exact ⟨p,_,_,.int (281474976710656 - 1),rfl,rfl,SqL.of upd_same,rfl,fin _ _ (by decide) (Aa6 hp)⟩
   ·exact ⟨p,_,_,.int 511,rfl,rfl,SqL.of upd_same,rfl,fin _ _ (by decide) (Aa6 hp)⟩
   ·exact ⟨p,_,_,.int 1000000,rfl,rfl,SqL.of upd_same,rfl,fin _ _ (by decide) (Aa6 hp)⟩
  ·exact ⟨_,rfl,r,8,rfl,rfl,⟨by decide,by decide⟩,_,24,rfl,rfl,(by show (0:Int)<24; decide),fin _ _ (Int.emod_nonneg _ (by decide)) (Same.refl _)⟩
  ·refine ⟨_,rfl,r,8,rfl,rfl,⟨by decide,by decide⟩,_,4,rfl,rfl,(by show (0:Int)<4; decide),_,64,rfl,rfl,.inr ⟨by decide,by decide⟩,_,rfl,r,32,rfl,rfl,⟨by decide,by decide⟩,_,16,rfl,rfl,(by show (0:Int)<16; decide),_,_,rfl,rfl,fin _ _ ?_ (Same.refl _)⟩
   show 0<=r / 8 % 4 * 64+r / 32 % 16
   omega
theorem scIS:Ab5 ["_law_found","_law_due_here","_law_row","_law_part"] ["_law_found","_law_due_here"] (Aa1 sIsS):=FSc
theorem Cy5 {f f1:Addr} {fd fd1:FuncData} (F:Fun K "_law_is_shelf" "_law_is_shelf" sIsS f fd) (D1:Dn K mg "_law_whole" Ak6 ["_law_found"] f1 fd1) (G1:FnOk P w K mg base CX0 1 f1 fd1 ["_law_found"] Ak3) (T:Txt K mg) (TU:mg "tuple"=none):FnOk P w K mg base CX0 2 f fd ["_law_found","_law_due_here"] Cm9:=by
 refine F.ok scIS (λvs H Q E h=>?_) (λcdv A outer s H vs Q E hr h=>?_)
 ·obtain ⟨p,r,rs,rfl,_⟩:=h
  rfl
 ·obtain ⟨p,r,rs,rfl,tp,tr,hl,q⟩:=h
  obtain ⟨ys,ep,ty⟩:=tp.ls
  obtain ⟨zs,er,tz⟩:=tr.ls
  have ly:=ty.len
  have lz:=tz.len
  refine ⟨_,(Aa2 (Ac8 (PW.pt (Al7 (Ae0 (Ad1 (Ac9 Ah2 (by rfl) T.isi PyProof.Rows.boot_isinstance (Aa0 (pv 0) (Aa0 (Ag0 (by rfl) T.lst PyProof.Rows.boot_list (show RelV (.ty "list") (.type "list") from rfl)) Aa3))))) (Ai5 (Ab6 Bq1 (Ac9 Ad2 (by rfl) T.len PySem.boot_len (Aa0 (pv 0) Aa3)) (Ac9 Ad2 (by rfl) T.len PySem.boot_len (Aa0 (pv 1) Aa3)) (Ac0 _))))) (Aa4 (Ab2 Ah7)) Ab0) (Aa2 (Ah9 PassesOwn.never rfl (Af9 (pv 0)) (Ad5 (i:=2) scIS.nd rfl (Or.inl rfl)) (Aa2 (Ac8 (PW.pt (Al7 (Ae0 (Ad1 (Ac9 Al0 (by rfl) T.isi PyProof.Rows.boot_isinstance (Aa0 (pv 2) (Aa0 (Ag0 (by rfl) TU PyProof.Rows.boot_tuple (show RelV (.ty "tuple") (.type "tuple") from rfl)) Aa3))))) (Ai5 (Ab6 Bq1 (Ac9 Ad2 (by rfl) T.len PySem.boot_len (Aa0 (pv 2) Aa3)) Aa5 (Ac0 _))))) (Aa4 (Ab2 Ah7)) Ab0) (Aa4 (Ah9 PassesOwn.never rfl (Cx0 (pv 2)) (Ad5 (i:=3) scIS.nd rfl (Or.inl rfl)) (Aa4 (Ac8 (Ae0 (Ad1 (Ab3 G1 hr (by rfl) D1.m D1.F.kp D1.b .nil Ac1 (Aa0 (pv 3) Aa3)))) (Aa4 (Ab2 Ah7)) Ab0)))))) (Aa4 (Ab2 (Af6 (Bm5 hr.units) (pv 0) (pv 1) (Ac0 _)))))),?_⟩
  refine ⟨_,rfl,_,rfl,.lst ep,_,rfl,Ac3 (by show (!Ar3 H (.ref p))=false; rw [Ak9 ep]; rfl) ?_⟩
  refine ⟨_,rfl,p,_,rfl,.inl (SqL.of ep),_,rfl,r,_,rfl,.inl (SqL.of er),rfl,_,rfl,Ac3 (by show (!decide (V.int (ys.length:Int)=V.int (zs.length:Int)))=false; rw [ly,lz,decide_eq_true rfl]; rfl) ?_⟩
  refine ⟨_,rfl,p,rfl,⟨_,SqL.of ep⟩,Ah0 (K:=K) (a:=p) (xs:=ys) (λi σ H'=>H'=H/\∃ v1 v2,σ=[some (.ref p),some (.ref r),v1,v2]) ?_ ?_ ?_ ?_⟩
  ·exact ⟨rfl,_,_,rfl⟩
  ·rintro i σ H' _ ⟨rfl,_⟩
   exact SqL.of ep
  ·rintro i x σ H' hi ⟨rfl,v1,v2,rfl⟩
   have hil:i<rs.length:=by rw [<- ly]; exact (List.getElem?_eq_some_iff.mp hi).1
   obtain ⟨t,e1,e2⟩:=ty.get i rs[i] (List.getElem?_eq_getElem hil)
   rw [hi] at e1
   cases e1
   refine ⟨_,rfl,_,rfl,.tup e2,_,rfl,Ac3 (by show (!Aq1 H' (.ref t))=false; simp only [Aq1,e2]; rfl) ?_⟩
   refine ⟨_,rfl,t,_,rfl,.inr (SqT.of e2),rfl,_,rfl,Ac3 rfl ?_⟩
   refine ⟨_,rfl,t,rfl,⟨_,SqT.of e2⟩,Ct7 (K:=K) (a:=t) (xs:=[.int rs[i].1,.int rs[i].2.1,.int rs[i].2.2]) (λi2 σ H2=>H2=H'/\∃ v2,σ=[some (.ref p),some (.ref r),some (.ref t),v2]) ?_ ?_ ?_ ?_⟩
   ·exact ⟨rfl,_,rfl⟩
   ·rintro i2 σ H2 _ ⟨rfl,_⟩
    exact SqT.of e2
   ·rintro i2 y σ H2 hi2 ⟨rfl,v2,rfl⟩
    obtain ⟨z,rfl⟩:∃ z:Int,y=.int z:=by
     match i2,hi2 with
     | 0,h=>exact ⟨_,(Option.some.inj h).symm⟩
     | 1,h=>exact ⟨_,(Option.some.inj h).symm⟩
     | 2,h=>exact ⟨_,(Option.some.inj h).symm⟩
     | n+3,h=>simp at h
    exact ⟨_,rfl,_,rfl,.int z,_,rfl,iteF ⟨rfl,_,rfl⟩⟩
   ·rintro σ H2 ⟨rfl,v2,rfl⟩
    exact ⟨rfl,_,_,rfl⟩
  ·rintro σ H' ⟨rfl,v1,v2,rfl⟩
   refine ⟨_,rfl,_,rfl,_,_,.lst (SqL.of ep) ty.dat,.lst (SqL.of er) tz.dat,Ay0 _,Ay0 _,?_⟩
   rw [show PyData.eqv (.list (rs.map dT)) (.list (rs.map dT))=true from (Bo3 _).2.2]
   exact q
theorem scAl:Ab5 ["_law_found","_law_due_here"] ["_law_found","_law_due_here"] (Aa1 At8):=FSc
theorem Ci1 {f f1:Addr} {fd fd1:FuncData} (F:Fun K "_law_alike" "_law_alike" At8 f fd) (D1:Dn K mg "_law_whole" Ak6 ["_law_found"] f1 fd1) (G1:FnOk P w K mg base CX0 1 f1 fd1 ["_law_found"] Ak3) (T:Txt K mg) (TU:mg "tuple"=none):FnOk P w K mg base CX0 2 f fd ["_law_found","_law_due_here"] Bf9:=by
 refine F.ok scAl (λvs H Q E h=>?_) (λcdv A outer s H vs Q E hr h=>?_)
 ·obtain ⟨x,y,rfl,_⟩:=h
  rfl
 ·obtain ⟨x,y,rfl,al,q⟩:=h
  refine ⟨_,(Aa2 (Ac8 (Ab6 Au3 (pv 1) Ae8 (Ac0 _)) (Aa4 (Ab2 (Af6 Au3 (pv 0) Ae8 (Ac0 _)))) Ab0) (Aa2 (Ac8 (Ad1 (Ac9 Al1 (by rfl) T.isi PyProof.Rows.boot_isinstance (Aa0 (pv 1) (Aa0 (Ag0 (by rfl) T.boo PyProof.Rows.boot_bool (show RelV (.ty "bool") (.type "bool") from rfl)) Aa3)))) (Aa4 (Ab2 (Aj7 (Ac9 Al1 (by rfl) T.isi PyProof.Rows.boot_isinstance (Aa0 (pv 0) (Aa0 (Ag0 (by rfl) T.boo PyProof.Rows.boot_bool (show RelV (.ty "bool") (.type "bool") from rfl)) Aa3))) (Al9 (Af6 Ae4 (pv 0) (pv 1) (Ac0 _)))))) Ab0) (Aa2 (Ac8 (Ad1 (Ac9 Al0 (by rfl) T.isi PyProof.Rows.boot_isinstance (Aa0 (pv 1) (Aa0 (Ag0 (by rfl) TU PyProof.Rows.boot_tuple (show RelV (.ty "tuple") (.type "tuple") from rfl)) Aa3)))) (Aa4 (Ab2 (Aj7 (Ac9 Al0 (by rfl) T.isi PyProof.Rows.boot_isinstance (Aa0 (pv 0) (Aa0 (Ag0 (by rfl) TU PyProof.Rows.boot_tuple (show RelV (.ty "tuple") (.type "tuple") from rfl)) Aa3))) (Aj7 (Ab3 G1 hr (by rfl) D1.m D1.F.kp D1.b .nil Ac1 (Aa0 (Ad3 Ad4 (pv 0) Aa5 (λ_ _=>rfl)) Aa3)) (Aj7 (Ab3 G1 hr (by rfl) D1.m D1.F.kp D1.b .nil Ac1 (Aa0 (Ad3 Ad4 (pv 0) Aa5 (λ_ _=>rfl)) Aa3)) (Al9 (Af6 (Bm5 hr.units) (pv 0) (pv 1) (Ac0 _)))))))) Ab0) (Aa4 (Ab2 (Aj7 (Ab3 G1 hr (by rfl) D1.m D1.F.kp D1.b .nil Ac1 (Aa0 (pv 0) Aa3)) (Al9 (Af6 Ae4 (pv 0) (pv 1) (Ac0 _))))))))),?_⟩
  cases al with
  | non=>exact ⟨_,rfl,rfl,_,rfl,Ae7 rfl ⟨_,rfl,rfl,q⟩⟩
  | int i =>
   refine ⟨_,rfl,rfl,_,rfl,Ac3 rfl ⟨_,rfl,_,rfl,.int i,_,rfl,Ac3 rfl ⟨_,rfl,_,rfl,.int i,_,rfl,Ac3 rfl ⟨_,rfl,_,rfl,.int i,_,rfl,iteT ⟨_,rfl,_,rfl,rfl,?_⟩⟩⟩⟩⟩
   rw [decide_eq_true rfl]
   exact q
  | bl b =>
   refine ⟨_,rfl,rfl,_,rfl,Ac3 rfl ⟨_,rfl,_,rfl,.bl b,_,rfl,Ae7 rfl ⟨_,rfl,_,rfl,.bl b,_,rfl,iteT ⟨_,rfl,_,rfl,rfl,?_⟩⟩⟩⟩
   rw [decide_eq_true rfl]
   exact q
  | @flt a b z pl lv zk ea eb =>
   refine ⟨_,rfl,rfl,_,rfl,Ac3 (by show decide (V.ref b=V.non)=false; exact decide_eq_false nofun) ⟨_,rfl,_,rfl,.tup eb,_,rfl,Ac3 rfl ⟨_,rfl,_,rfl,.tup eb,_,rfl,Ae7 (by show Aq1 H (.ref b)=true; simp only [Aq1,eb]) ?_⟩⟩⟩
   refine ⟨_,rfl,_,rfl,.tup ea,_,rfl,?_⟩
   rw [show Aq1 H (.ref a)=true by simp only [Aq1,ea]]
   refine iteT ⟨_,rfl,a,_,_,.int pl,rfl,rfl,SqT.of ea,rfl,_,rfl,.int _,_,rfl,iteT ⟨_,rfl,a,_,_,.int lv,rfl,rfl,SqT.of ea,rfl,_,rfl,.int _,_,rfl,iteT ⟨_,rfl,_,rfl,_,_,.tup (SqT.of ea) (.cons (.str _) (.cons (.str _) (.cons (.int _) (.cons (.int _) .nil)))),.tup (SqT.of eb) (.cons (.str _) (.cons (.str _) (.cons (.int _) (.cons (.int _) .nil)))),shF zk pl lv,shF zk pl lv,?_⟩⟩⟩
   rw [show PyData.eqv (.tuple [.str "fault",.str z,.int pl,.int lv]) (.tuple [.str "fault",.str z,.int pl,.int lv])=true by simp [PyData.eqv,PyData.eqvAll]]
   exact q
end
end K28
end
section
namespace K28
open PySem L2
theorem Ct0 {qs:Pgs} {i j m:Nat} {p:Addr} {ws:List Int} (e:qs[i]?=some (some (p,ws))) (hj:j<ws.length):(mkN qs i j m)[i]?=some (some (p,ws.set j ((Ad8 qs i j ||| m:Nat):Int)))/\Ad8 (mkN qs i j m) i j=Ad8 qs i j ||| m:=by
 have hi:i<qs.length:=(List.getElem?_eq_some_iff.mp e).1
 have e1:(mkN qs i j m)[i]?=some (some (p,ws.set j ((Ad8 qs i j ||| m:Nat):Int))):=by
  unfold mkN
  rw [Ak4 e,List.getElem?_set_self hi]
 refine ⟨e1,?_⟩
 generalize Ad8 qs i j ||| m=v at *
 unfold Ad8
 rw [e1]
 simp [hj]
theorem Cs9 {qs:Pgs} {i j:Nat} {p:Addr} {ws:List Int} (e:qs[i]?=some (some (p,ws))) (hj:j<ws.length):mkN (mkN qs i j 8) i j 16=mkN qs i j 24:=by
 obtain ⟨e1,e2⟩:=Ct0 (m:=8) e hj
 have hi:i<qs.length:=(List.getElem?_eq_some_iff.mp e).1
 show setW (mkN qs i j 8) i j ((Ad8 (mkN qs i j 8) i j ||| 16:Nat):Int)=_
 rw [Ak4 e1,e2,<- or24]
 unfold mkN
 rw [Ak4 e,Ak4 e]
 simp
theorem Ci4 {qs:Pgs} {i j m:Nat} {p:Addr} {ws:List Int} (e:qs[i]?=some (some (p,ws))) (hj:j<ws.length) (h0:0<=ws.getD j 0) (h:Ad8 qs i j ||| m=Ad8 qs i j):mkN qs i j m=qs:=by
 have hi:i<qs.length:=(List.getElem?_eq_some_iff.mp e).1
 unfold mkN
 rw [h,<- Ah4 e h0,Ak4 e]
 have e3:ws.getD j 0=ws[j]:=by rw [List.getD_eq_getElem?_getD,List.getElem?_eq_getElem hj]; rfl
 rw [e3,List.set_getElem_self]
 have e2:qs[i]=some (p,ws):=by
  rw [List.getElem?_eq_getElem hi] at e
  exact Option.some.inj e
 rw [<- e2,List.set_getElem_self]
theorem Cp5 {w m:Nat} (h:w<281474976710656) (hm:m<256):w ||| m<281474976710656:=Nat.or_lt_two_pow (n:=48) h (by omega)
theorem Good.word {qs:Pgs} (g:Good qs) {i j:Nat} {p:Addr} {ws:List Int} (e:qs[i]?=some (some (p,ws))) (hj:j<8):0<=ws.getD j 0/\ws.getD j 0<281474976710656/\ws.length=8:=by
 obtain ⟨l,b⟩:=g i p ws e
 have:=b (ws.getD j 0) (by rw [List.getD_eq_getElem?_getD,List.getElem?_eq_getElem (by omega)]; exact List.getElem_mem _)
 exact ⟨this.1,this.2,l⟩
theorem Good.mkN {qs:Pgs} (g:Good qs) {i j m:Nat} {p:Addr} {ws:List Int} (e:qs[i]?=some (some (p,ws))) (hj:j<8) (hm:m<256):Good (mkN qs i j m):=by
 obtain ⟨a,b,c⟩:=Good.word g e hj
 have:=Ah4 e a
 exact L2.Good.setW g e (by omega) (by have:=Cp5 (w:=Ad8 qs i j) (m:=m) (by omega) hm; omega)
theorem and3 {c:Prop} [Decidable c] {d:Bool} {F G U:Prop} (mk:(if d=true then F else G)->U) (hf:c->d=true->F) (hg:¬ (c/\d=true)->G):if c then U else (if false=true then F else G):=by
 by_cases h:c
 ·rw [if_pos h]
  refine mk ?_
  by_cases h2:d=true
  ·rw [if_pos h2]; exact hf h h2
  ·rw [if_neg h2]; exact hg λz=>h2 z.2
 ·rw [if_neg h]
  exact iteF (hg λz=>h z.1)
section
variable {P : Program} {w : World} {K : PySem.W.Frag} {mg : Str → Option Value} {base : Heap} {C NP NL NW NI SC PL WC FA : Addr}
theorem scWl:Ab5 ["_law_root","_law_pages_here","_law_place_here","_law_write","_law_kernel","_law_spots","_law_page","_law_rights","_law_level","_law_cell","_law_row"] ["_law_root","_law_pages_here","_law_place_here","_law_write","_law_kernel"] (Aa1 As9):=FSc
theorem Cg2 {f f1:Addr} {fd fd1:FuncData} (F:Fun K "_law_walk" "_law_walk" As9 f fd) (D1:Dn K mg "_law_there" Ao1 ["_law_pages_here","_law_page"] f1 fd1) (G1:FnOk P w K mg base CX0 1 f1 fd1 ["_law_pages_here","_law_page"] As4) (T:Txt K mg):FnOk P w K mg base CX0 2 f fd ["_law_root","_law_pages_here","_law_place_here","_law_write","_law_kernel"] Be4:=by
 refine F.ok scWl (λvs H Q E h=>?_) (λcdv A outer s H vs Q E hr h=>?_)
 ·obtain ⟨D,qs,rt,pl,wr,k,rfl,_⟩:=h
  rfl
 ·obtain ⟨D,qs,rt,pl,wr,k,rfl,g,gd,kf,kt⟩:=h
  refine ⟨_,(Aa2 (Ac8 (Ab6 Bi6 (pv 2) Aa5 (Ac0 _)) (Aa4 (Ab2 (Af5 (Aa8 Ab8 (Aa8 Ab8 (Aa8 (pv 2) (Aa8 Aa5 Aa3))))))) Ab0) (Aa2 (Ac8 (Ae0 (Ad1 (Ab3 G1 hr (by rfl) D1.m D1.F.kp D1.b .nil Ac1 (Aa0 (pv 1) (Aa0 (pv 0) Aa3))))) (Aa4 (Ab2 (Af5 (Aa8 Ab8 (Aa8 Ab8 (Aa8 (pv 2) (Aa8 Aa5 Aa3))))))) Ab0) (Aa2 (Ac5 (i:=5) scWl.nd rfl (Or.inl rfl) (Ag1 Aa3)) (Aa2 (Ac5 (i:=6) scWl.nd rfl (Or.inl rfl) (pv 0)) (Aa2 (Ac5 (i:=7) scWl.nd rfl (Or.inl rfl) Aa5) (Aa2 (Ah9 PassesOwn.never rfl (Af9 (Ag1 (Aa0 (Af5 (Aa0 Aa5 (Aa0 (Ab9 Ad9 (pv 2) Aa5) Aa3))) (Aa0 (Af5 (Aa0 Aa5 (Aa0 (Ab9 Ad0 (Ab9 Ad9 (pv 2) Aa5) Aa5) Aa3))) Aa3)))) (Aq9 rfl (Ae1 (Ad5 (i:=8) scWl.nd rfl (Or.inl rfl)) (Ae1 (Ad5 (i:=9) scWl.nd rfl (Or.inl rfl)) Al8))) (Aa2 (Ac5 (i:=10) scWl.nd rfl (Or.inl rfl) (Ad3 Ae2 (Ad3 Ae2 (pv 1) (pv 6) (λ_ _=>rfl)) (pv 9) (λ_ _=>rfl))) (Aa2 (Ad7 (Bb2 PySem.F.plainAttrs_list PySem.F.slot_list_append PySem.F.type_list_append Ah6 (pv 5) (Aa0 (Af5 (Aa0 (pv 6) (Aa0 (pv 9) Aa3))) Aa3))) (Aa2 (Ac5 (i:=6) scWl.nd rfl (Or.inl rfl) (Ab9 Ad9 (pv 10) Aa5)) (Aa2 (Ac8 (Ab6 Ae4 (Ab9 Ad0 (pv 10) Aa5) Aa5 (Ac0 _)) (Aa4 (Ab2 (Af5 (Aa8 Ab8 (Aa8 Ab8 (Aa8 (pv 2) (Aa8 (pv 8) Aa3))))))) Ab0) (Aa2 (Ac8 (Ae0 (Ad1 (Ab3 G1 hr (by rfl) D1.m D1.F.kp D1.b .nil Ac1 (Aa0 (pv 1) (Aa0 (pv 6) Aa3))))) (Aa4 (Ab2 (Af5 (Aa8 Ab8 (Aa8 Ab8 (Aa8 (pv 2) (Aa8 (pv 8) Aa3))))))) Ab0) (Aa2 (Ac8 (PW.pt (Ah1 (Ab6 Ae4 (Ab9 Ad0 (Ab9 Ad9 (pv 10) Aa5) Aa5) Aa5 (Ac0 _)) (Af8 (Ae0 (Ad1 (pv 4)))))) (Aa4 (Ab2 (Af5 (Aa8 Ab8 (Aa8 Ab8 (Aa8 (pv 2) (Aa8 (pv 8) Aa3))))))) Ab0) (Aa2 (Ac8 (PW.pt (Ah1 (Ad1 (pv 3)) (Af8 (Ab6 Ae4 (Ab9 Ad0 (Ab9 Ad9 (pv 10) Aa5) Aa5) Aa5 (Ac0 _))))) (Aa4 (Ab2 (Af5 (Aa8 Ab8 (Aa8 Ab8 (Aa8 (pv 2) (Aa8 (pv 8) Aa3))))))) Ab0) (Aa2 (Ac8 (Ab6 Ae4 (Ab9 Ad0 (Ab9 Ad9 (pv 10) Aa5) Aa5) Aa5 (Ac0 _)) (Aa4 (Ac5 (i:=7) scWl.nd rfl (Or.inl rfl) (Ab9 Aj8 (Ab9 Ad9 (pv 7) Aa5) Aa5))) Ab0) (Aa2 (Ac8 (PW.pt (Ah1 (Ab6 Ae4 (Ab9 Ad0 (Ab9 Ad9 (pv 10) Aa5) Aa5) Aa5 (Ac0 _)) (Af8 (Ab6 Bb5 (Ab9 Ad0 (pv 7) Aa5) Aa5 (Ac0 _))))) (Aa4 (Ac5 (i:=7) scWl.nd rfl (Or.inl rfl) (Ab9 Ag8 (pv 7) Aa5))) Ab0) (Aa4 (Ac8 (PW.pt (Ah1 (Ab6 Ae4 (pv 8) Aa5 (Ac0 _)) (Af8 (Ab6 Ae4 (Ab9 Ad0 (Ab9 Ad9 (pv 10) Aa5) Aa5) Aa5 (Ac0 _))))) (Aa4 (Ac5 (i:=7) scWl.nd rfl (Or.inl rfl) (Ab9 Ag8 (pv 7) Aa5))) Ab0)))))))))))) (Aa4 (Ab2 (Af5 (Aa8 (Ad3 Ae2 (pv 5) Aa5 (λ_ _=>rfl)) (Aa8 (Ad3 Ae2 (pv 5) Aa5 (λ_ _=>rfl)) (Aa8 (pv 6) (Aa8 (pv 7) Aa3))))))))))))),?_⟩
  refine ⟨_,rfl,_,511,rfl,rfl,_,rfl,ite2 (λc=>?_) (λc=>?_)⟩
  ·have c:511<pl:=by have:=of_decide_eq_true c; omega
   exact ⟨_,rfl,by show 4<=sizeLine; decide,λt ht=>kf _ 0 (Ci7 c) t _ (Aa6 ht) ht upd_same⟩
  have c:¬ 511<pl:=λz=>c (decide_eq_true (by omega))
  refine ⟨_,rfl,_,rfl,D,qs,rt,rfl,g,_,rfl,?_⟩
  cases hrt:Af4 qs[rt]? with
  | false=>exact iteT ⟨_,rfl,by show 4<=sizeLine; decide,λt ht=>kf _ 0 (Bx8 c (by rw [Af7]; exact hrt)) t _ (Aa6 ht) ht upd_same⟩
  | true =>
  have hrt':hasP qs (.int (rt:Int))=true:=by rw [Af7]; exact hrt
  refine iteF ⟨by show 0<=sizeLine; decide,λS hS=>?_⟩
  have sS:=Aa6 (o:=.lst []) hS
  have zS:upd H S (.lst []) S=some (.lst []):=upd_same
  generalize upd H S (.lst [])=H1 at *
  refine ⟨_,rfl,_,rfl,_,64,rfl,rfl,⟨by decide,by decide⟩,by show 2<=sizeLine; decide,λta hta=>?_⟩
  have sa:=Aa6 (o:=.tup [.int 1,.int ((pl:Int) / 64)]) hta
  have za:upd H1 ta (.tup [.int 1,.int ((pl:Int) / 64)]) ta=some (.tup [.int 1,.int ((pl:Int) / 64)]):=upd_same
  generalize upd H1 ta (.tup [.int 1,.int ((pl:Int) / 64)])=H2 at *
  refine ⟨_,rfl,_,8,rfl,rfl,⟨by decide,by decide⟩,_,8,rfl,rfl,(by show (0:Int)<8; decide),by show 2<=sizeLine; decide,λtb htb=>?_⟩
  have sb:=Aa6 (o:=.tup [.int 2,.int ((pl:Int) / 8 % 8)]) htb
  have zb:upd H2 tb (.tup [.int 2,.int ((pl:Int) / 8 % 8)]) tb=some (.tup [.int 2,.int ((pl:Int) / 8 % 8)]):=upd_same
  generalize upd H2 tb (.tup [.int 2,.int ((pl:Int) / 8 % 8)])=H3 at *
  refine ⟨by show 2<=sizeLine; decide,λlo hlo=>?_⟩
  have sl:=Aa6 (o:=.lst [.ref ta,.ref tb]) hlo
  have zl:upd H3 lo (.lst [.ref ta,.ref tb]) lo=some (.lst [.ref ta,.ref tb]):=upd_same
  generalize upd H3 lo (.lst [.ref ta,.ref tb])=H4 at *
  have s14:=(sa.trans sb).trans sl
  have sH4:=sS.trans s14
  have tis:∀ i x,([V.ref ta,V.ref tb])[i]?=some x->i<2/\∃ ti,x=.ref ti/\H4 ti=some (.tup [.int ((i+1:Nat):Int),.int ((celN pl i:Nat):Int)]):=λi x e=>by
   match i,e with
   | 0,e=>exact ⟨by omega,ta,(Option.some.inj e).symm,(by rw [sl _ _ (sb _ _ za)]; congr 3; simp [celN]; omega)⟩
   | 1,e=>exact ⟨by omega,tb,(Option.some.inj e).symm,(by rw [sl _ _ zb]; congr 3)⟩
   | n+2,e=>simp at e
  have nlS:lo≠S:=(Ac7 ((sa.trans sb) _ _ zS) hlo).symm
  have nS:∀ (b:Addr) (xs:List V),H4 b=some (.tup xs)->b≠S:=λb xs e=>Af1 e (s14 _ _ zS) nofun
  refine ⟨lo,rfl,⟨_,SqL.of zl⟩,Ah0 (K:=K) (a:=lo) (xs:=[.ref ta,.ref tb]) (λi σ H'=>∃ (v8 v9 v10:Option V) (ss:List V),σ=[some (.int (rt:Int)),some (.ref D),some (.int (pl:Int)),some (.bl wr),some (.bl k),some (.ref S),some (.int (((pagN qs rt pl i:Nat):Int))),some (.int (rgN qs rt pl i)),v8,v9,v10]/\Same H H'/\(∀ b o,b≠S->H4 b=some o->H' b=some o)/\H' S=some (.lst ss)/\ss.length=i/\(∀ j,j<i->∃ s,ss[j]?=some (.ref s)/\H' s=some (.tup [.int ((pagN qs rt pl j:Nat):Int),.int ((celN pl j:Nat):Int)]))/\hasP qs (.int ((pagN qs rt pl i:Nat):Int))=true/\∀ j,j<i->Ag2 qs (rwN qs rt pl j) wr k=none) ?_ ?_ ?_ ?_⟩
  ·exact ⟨_,_,_,[],rfl,sH4,λ_ _ _ e=>e,s14 _ _ zS,rfl,λj hj=>absurd hj (by omega),hrt',λj hj=>absurd hj (by omega)⟩
  ·rintro i σ H' _ ⟨_,_,_,_,_,_,kp,_⟩
   exact SqL.of (kp _ _ nlS zl)
  ·rintro i x σ H' hx ⟨v8,v9,v10,ss,rfl,ss1,kp,zS',sl',sp',hp,hlk⟩
   obtain ⟨hi,ti,rfl,eti⟩:=tis i x hx
   have g':=g.same ss1
   have eti':=kp _ _ (nS _ _ eti) eti
   have c8:celN pl i<8:=by
    match i with
    | 0=>show pl / 8 / 8<8; omega
    | n+1=>show pl / 8 % 8<8; omega
   obtain ⟨n,p,ws,en,e1⟩:=Ag4 hp
   obtain rfl:n=pagN qs rt pl i:=by have:=V.int.inj en; omega
   obtain ⟨w0,_,w8⟩:=Good.word gd e1 c8
   have hw:ws.getD (celN pl i) 0=((rwN qs rt pl i:Nat):Int):=Ah4 e1 w0
   refine ⟨ti,_,rfl,SqT.of eti',rfl,_,_,rfl,_,_,rfl,rfl,?_⟩
   refine ⟨_,rfl,_,rfl,D,_,_,.ref p,rfl,rfl,SqL.of g'.top,Aj1 (by rw [List.getElem?_map,e1]; rfl),_,rfl,p,_,_,_,rfl,rfl,SqL.of (g'.each _ _ _ e1).1,Al2 (by omega),?_⟩
   dsimp only
   rw [hw]
   have hpg:pagN qs rt pl (i+1)=rwN qs rt pl i / 256:=rfl
   have hrg:rgN qs rt pl (i+1)=An2 (rgN qs rt pl i) (rwN qs rt pl i:Nat)+(if i=1/\((rwN qs rt pl i:Nat):Int) / 16 % 2=1 then 16 else 0):=rfl
   have hlk1:=By1 qs (rwN qs rt pl i) wr k
   have kf1:∀ z,Ag2 qs (rwN qs rt pl i) wr k=some z->∀ t H',Same H H'->H t=none->H' t=some (.tup [.str "fault",.str z,.int (pl:Int),.int ((i+1:Nat):Int)])->Q (.ref t) H':=λz hz=>kf z (i+1) (Bx9 c hrt' hi hlk hz)
   generalize hwd:rwN qs rt pl i=w at *
   refine ⟨_,rfl,.inl ⟨rfl,_,SqL.of zS'⟩,_,rfl,_,rfl,by show 2<=sizeLine; decide,λs hs=>?_⟩
   have ss2:=Aa6 (o:=.tup [.int ((pagN qs rt pl i:Nat):Int),.int ((celN pl i:Nat):Int)]) hs
   have zs:upd H' s (.tup [.int ((pagN qs rt pl i:Nat):Int),.int ((celN pl i:Nat):Int)]) s=some (.tup [.int ((pagN qs rt pl i:Nat):Int),.int ((celN pl i:Nat):Int)]):=upd_same
   generalize upd H' s (.tup [.int ((pagN qs rt pl i:Nat):Int),.int ((celN pl i:Nat):Int)])=H5 at *
   refine ⟨S,_,_,rfl,rfl,ss2 _ _ zS',by rw [sl']; exact Nat.lt_of_lt_of_le (show i<3 by omega) (by decide),?_⟩
   have ss3:Same H (upd H5 S (.lst (ss++[.ref s]))):=(ss1.trans ss2).set hS
   have zS3:upd H5 S (.lst (ss++[.ref s])) S=some (.lst (ss++[.ref s])):=upd_same
   have kp3:∀ b o,b≠S->H4 b=some o->upd H5 S (.lst (ss++[.ref s])) b=some o:=λb o nb e=>by rw [Aa7 nb]; exact ss2 _ _ (kp b o nb e)
   have sp3:∀ j,j<i+1->∃ s',(ss++[V.ref s])[j]?=some (.ref s')/\upd H5 S (.lst (ss++[.ref s])) s'=some (.tup [.int ((pagN qs rt pl j:Nat):Int),.int ((celN pl j:Nat):Int)]):=λj hj=>by
    have nn:∀ (b:Addr) (xs:List V),H5 b=some (.tup xs)->b≠S:=λb xs e=>Af1 e (ss2 _ _ zS') nofun
    by_cases hji:j<i
    ·obtain ⟨s',e1,e2⟩:=sp' j hji
     have e3:=ss2 _ _ e2
     exact ⟨s',by rw [List.getElem?_append_left (by omega)]; exact e1,by rw [Aa7 (nn _ _ e3)]; exact e3⟩
    ·obtain rfl:j=i:=by omega
     exact ⟨s,by rw [List.getElem?_append_right (by omega),sl',Nat.sub_self]; rfl,by rw [Aa7 (nn _ _ zs)]; exact zs⟩
   have sl3:(ss++[V.ref s]).length=i+1:=by rw [List.length_append,sl']; rfl
   generalize upd H5 S (.lst (ss++[.ref s]))=H6 at *
   have g6:=g.same ss3
   have lv:(w:Int) / 256=((w / 256:Nat):Int):=rfl
   refine ⟨_,rfl,_,256,rfl,rfl,⟨by decide,by decide⟩,?_⟩
   refine ⟨_,rfl,_,2,rfl,rfl,(by show (0:Int)<2; decide),rfl,_,rfl,ite2 (λc1=>?_) (λc1=>?_)⟩
   ·have c1:=V.int.inj (of_decide_eq_true c1)
    exact ⟨_,rfl,_,rfl,by show 4<=sizeLine; decide,λt ht=>kf1 _ (by rw [hlk1,if_pos (by omega)]) t _ (ss3.trans (Aa6 ht)) (ss3.free ht) upd_same⟩
   have c1:¬ w % 2=0:=λz=>c1 (decide_eq_true (congrArg V.int (by omega)))
   refine ⟨_,rfl,_,rfl,D,qs,w / 256,rfl,g6,_,rfl,?_⟩
   cases hth:Af4 qs[w / 256]? with
   | false=>exact iteT ⟨_,rfl,_,rfl,by show 4<=sizeLine; decide,λt ht=>kf1 _ (by rw [hlk1,if_neg c1,if_pos (by rw [Af7]; exact hth)]) t _ (ss3.trans (Aa6 ht)) (ss3.free ht) upd_same⟩
   | true =>
   have hth':hasP qs (.int ((w / 256:Nat):Int))=true:=by rw [Af7]; exact hth
   have hth2:¬ hasP qs (.int ((w / 256:Nat):Int))=false:=by rw [hth']; decide
   refine iteF ⟨_,rfl,_,4,rfl,rfl,⟨by decide,by decide⟩,_,2,rfl,rfl,(by show (0:Int)<2; decide),rfl,_,rfl,and3 (d:=!k) (λz=>⟨_,rfl,_,rfl,z⟩) (λc4 ck=>?_) (λc4=>?_)⟩
   ·have c4:=V.int.inj (of_decide_eq_true c4)
    have ck:k=false:=by simpa using ck
    exact ⟨_,rfl,_,rfl,by show 4<=sizeLine; decide,λt ht=>kf1 _ (by rw [hlk1,if_neg c1,if_neg hth2,if_pos ⟨by omega,ck⟩]) t _ (ss3.trans (Aa6 ht)) (ss3.free ht) upd_same⟩
   have c4:¬ (w / 4 % 2=1/\k=false):=λz=>c4 ⟨decide_eq_true (congrArg V.int (by omega)),by rw [z.2]; rfl⟩
   refine ⟨_,rfl,_,rfl,and3 (d:=decide (V.int ((w:Int) / 2 % 2)=V.int 0)) (λz=>⟨_,rfl,_,2,rfl,rfl,⟨by decide,by decide⟩,_,2,rfl,rfl,(by show (0:Int)<2; decide),rfl,_,rfl,z⟩) (λc2 cw=>?_) (λc2=>?_)⟩
   ·have cw:=V.int.inj (of_decide_eq_true cw)
    exact ⟨_,rfl,_,rfl,by show 4<=sizeLine; decide,λt ht=>kf1 _ (by rw [hlk1,if_neg c1,if_neg hth2,if_neg c4,if_pos ⟨c2,by omega⟩]) t _ (ss3.trans (Aa6 ht)) (ss3.free ht) upd_same⟩
   have c2:¬ (wr=true/\w / 2 % 2=0):=λz=>c2 ⟨z.1,decide_eq_true (congrArg V.int (by omega))⟩
   have hnone:Ag2 qs w wr k=none:=by rw [hlk1,if_neg c1,if_neg hth2,if_neg c4,if_neg c2]
   have hall:∀ j,j<i+1->Ag2 qs (rwN qs rt pl j) wr k=none:=λj hj=>by
    by_cases hji:j<i
    ·exact hlk j hji
    ·obtain rfl:j=i:=by omega
     rw [hwd]; exact hnone
   have fin:∀ (r:Int) (v8 v9 v10:Option V),r=rgN qs rt pl (i+1)->∃ (v8' v9' v10':Option V) (ss:List V),[some (.int (rt:Int)),some (.ref D),some (.int (pl:Int)),some (.bl wr),some (.bl k),some (.ref S),some (.int (((w / 256:Nat):Int))),some (.int (r)),v8,v9,v10]=[some (.int (rt:Int)),some (.ref D),some (.int (pl:Int)),some (.bl wr),some (.bl k),some (.ref S),some (.int (((pagN qs rt pl (i+1):Nat):Int))),some (.int (rgN qs rt pl (i+1))),v8',v9',v10']/\Same H H6/\(∀ b o,b≠S->H4 b=some o->H6 b=some o)/\H6 S=some (.lst ss)/\ss.length=i+1/\(∀ j,j<i+1->∃ s,ss[j]?=some (.ref s)/\H6 s=some (.tup [.int ((pagN qs rt pl j:Nat):Int),.int ((celN pl j:Nat):Int)]))/\hasP qs (.int ((pagN qs rt pl (i+1):Nat):Int))=true/\∀ j,j<i+1->Ag2 qs (rwN qs rt pl j) wr k=none:=λr v8 v9 v10 e=>by
    subst e
    exact ⟨v8,v9,v10,_,by rw [hpg],ss3,kp3,zS3,sl3,sp3,by rw [hpg]; exact hth',hall⟩
   refine ⟨_,rfl,_,2,rfl,rfl,⟨by decide,by decide⟩,_,2,rfl,rfl,(by show (0:Int)<2; decide),rfl,_,rfl,ite2 (λd2=>?_) (λd2=>?_)⟩
   ·have d2:=V.int.inj (of_decide_eq_true d2)
    refine ⟨_,rfl,_,4,rfl,rfl,⟨by decide,by decide⟩,_,4,rfl,rfl,.inr ⟨by decide,by decide⟩,?_⟩
    refine ⟨_,rfl,_,4,rfl,rfl,⟨by decide,by decide⟩,_,2,rfl,rfl,(by show (0:Int)<2; decide),rfl,_,rfl,and3 (d:=decide ((rgN qs rt pl i / 4 * 4) % 8<4)) (λz=>⟨_,rfl,_,8,rfl,rfl,(by show (0:Int)<8; decide),_,4,rfl,rfl,_,rfl,z⟩) (λd4 d5=>⟨_,rfl,_,_,rfl,rfl,?_⟩) (λd4=>?_)⟩
    ·have d4:=V.int.inj (of_decide_eq_true d4)
     have d5:=of_decide_eq_true d5
     refine ⟨_,rfl,rfl,_,rfl,and3 (d:=decide (V.int ((w:Int) / 16 % 2)=V.int 1)) (λz=>⟨_,rfl,_,16,rfl,rfl,⟨by decide,by decide⟩,_,2,rfl,rfl,(by show (0:Int)<2; decide),rfl,_,rfl,z⟩) (λd6 d7=>⟨_,rfl,_,_,rfl,rfl,?_⟩) (λd6=>?_)⟩
     ·have d6:=V.int.inj (of_decide_eq_true d6)
      have d7:=V.int.inj (of_decide_eq_true d7)
      exact fin _ _ _ _ (by rw [hrg]; unfold An2; rw [if_pos d2,if_pos ⟨d4,d5⟩,if_pos ⟨by omega,d7⟩])
     ·have d6:¬ (i=1/\(w:Int) / 16 % 2=1):=λz=>d6 ⟨decide_eq_true (congrArg V.int (by omega)),decide_eq_true (congrArg V.int z.2)⟩
      exact fin _ _ _ _ (by rw [hrg]; unfold An2; rw [if_pos d2,if_pos ⟨d4,d5⟩,if_neg d6,Int.add_zero])
    ·have d4:¬ ((w:Int) / 4 % 2=1/\(rgN qs rt pl i / 4 * 4) % 8<4):=λz=>d4 ⟨decide_eq_true (congrArg V.int z.1),decide_eq_true z.2⟩
     refine ⟨_,rfl,rfl,_,rfl,and3 (d:=decide (V.int ((w:Int) / 16 % 2)=V.int 1)) (λz=>⟨_,rfl,_,16,rfl,rfl,⟨by decide,by decide⟩,_,2,rfl,rfl,(by show (0:Int)<2; decide),rfl,_,rfl,z⟩) (λd6 d7=>⟨_,rfl,_,_,rfl,rfl,?_⟩) (λd6=>?_)⟩
     ·have d6:=V.int.inj (of_decide_eq_true d6)
      have d7:=V.int.inj (of_decide_eq_true d7)
      exact fin _ _ _ _ (by rw [hrg]; unfold An2; rw [if_pos d2,if_neg d4,if_pos ⟨by omega,d7⟩])
     ·have d6:¬ (i=1/\(w:Int) / 16 % 2=1):=λz=>d6 ⟨decide_eq_true (congrArg V.int (by omega)),decide_eq_true (congrArg V.int z.2)⟩
      exact fin _ _ _ _ (by rw [hrg]; unfold An2; rw [if_pos d2,if_neg d4,if_neg d6,Int.add_zero])
   ·have d2:¬ (w:Int) / 2 % 2=0:=λz=>d2 (decide_eq_true (congrArg V.int z))
    refine ⟨_,rfl,_,4,rfl,rfl,⟨by decide,by decide⟩,_,2,rfl,rfl,(by show (0:Int)<2; decide),rfl,_,rfl,and3 (d:=decide ((rgN qs rt pl i) % 8<4)) (λz=>⟨_,rfl,_,8,rfl,rfl,(by show (0:Int)<8; decide),_,4,rfl,rfl,_,rfl,z⟩) (λd4 d5=>⟨_,rfl,_,_,rfl,rfl,?_⟩) (λd4=>?_)⟩
    ·have d4:=V.int.inj (of_decide_eq_true d4)
     have d5:=of_decide_eq_true d5
     refine ⟨_,rfl,rfl,_,rfl,and3 (d:=decide (V.int ((w:Int) / 16 % 2)=V.int 1)) (λz=>⟨_,rfl,_,16,rfl,rfl,⟨by decide,by decide⟩,_,2,rfl,rfl,(by show (0:Int)<2; decide),rfl,_,rfl,z⟩) (λd6 d7=>⟨_,rfl,_,_,rfl,rfl,?_⟩) (λd6=>?_)⟩
     ·have d6:=V.int.inj (of_decide_eq_true d6)
      have d7:=V.int.inj (of_decide_eq_true d7)
      exact fin _ _ _ _ (by rw [hrg]; unfold An2; rw [if_neg d2,if_pos ⟨d4,d5⟩,if_pos ⟨by omega,d7⟩])
     ·have d6:¬ (i=1/\(w:Int) / 16 % 2=1):=λz=>d6 ⟨decide_eq_true (congrArg V.int (by omega)),decide_eq_true (congrArg V.int z.2)⟩
      exact fin _ _ _ _ (by rw [hrg]; unfold An2; rw [if_neg d2,if_pos ⟨d4,d5⟩,if_neg d6,Int.add_zero])
    ·have d4:¬ ((w:Int) / 4 % 2=1/\(rgN qs rt pl i) % 8<4):=λz=>d4 ⟨decide_eq_true (congrArg V.int z.1),decide_eq_true z.2⟩
     refine ⟨_,rfl,rfl,_,rfl,and3 (d:=decide (V.int ((w:Int) / 16 % 2)=V.int 1)) (λz=>⟨_,rfl,_,16,rfl,rfl,⟨by decide,by decide⟩,_,2,rfl,rfl,(by show (0:Int)<2; decide),rfl,_,rfl,z⟩) (λd6 d7=>⟨_,rfl,_,_,rfl,rfl,?_⟩) (λd6=>?_)⟩
     ·have d6:=V.int.inj (of_decide_eq_true d6)
      have d7:=V.int.inj (of_decide_eq_true d7)
      exact fin _ _ _ _ (by rw [hrg]; unfold An2; rw [if_neg d2,if_neg d4,if_pos ⟨by omega,d7⟩])
     ·have d6:¬ (i=1/\(w:Int) / 16 % 2=1):=λz=>d6 ⟨decide_eq_true (congrArg V.int (by omega)),decide_eq_true (congrArg V.int z.2)⟩
      exact fin _ _ _ _ (by rw [hrg]; unfold An2; rw [if_neg d2,if_neg d4,if_neg d6,Int.add_zero])
  ·rintro σ H' ⟨v8,v9,v10,ss,rfl,ss1,kp,zS',sl',sp',hp,hlk⟩
   obtain ⟨s0,e0,z0⟩:=sp' 0 (show 0<2 by decide)
   obtain ⟨s1,e1,z1⟩:=sp' 1 (show 1<2 by decide)
   obtain ⟨look,rig⟩:=Ci8 c hrt' hlk
   refine ⟨_,rfl,S,_,_,.ref s0,rfl,rfl,SqL.of zS',Aj1 e0,_,rfl,S,_,_,.ref s1,rfl,rfl,SqL.of zS',Aj1 e1,_,rfl,_,rfl,by show 4<=sizeLine; decide,λtt htt=>?_⟩
   have st:=Aa6 (o:=.tup [.ref s0,.ref s1,.int ((pagN qs rt pl 2:Nat):Int),.int (rgN qs rt pl 2)]) htt
   refine kt _ _ _ _ look tt s0 s1 _ (ss1.trans st) ?_ (st _ _ z0) (st _ _ z1)
   rw [<- rig]
   exact upd_same
theorem scMk:Ab5 ["_law_pages_here","_law_trail","_law_write","_law_spot","_law_bits","_law_bit"] ["_law_pages_here","_law_trail","_law_write"] (Aa1 sMkd):=FSc
theorem Cy2 {f:Addr} {fd:FuncData} (F:Fun K "_law_marked" "_law_marked" sMkd f fd) (T:Txt K mg):FnOk P w K mg base CX0 1 f fd ["_law_pages_here","_law_trail","_law_write"] Cm7:=by
 refine F.ok scMk (λvs H Q E h=>?_) (λcdv A outer s H vs Q E hr h=>?_)
 ·obtain ⟨D,tt,t1,t2,qs,i,j,i1,j1,pg,t,l,wr,rfl,_⟩:=h
  rfl
 ·obtain ⟨D,tt,t1,t2,qs,i,j,i1,j1,pg,t,l,wr,rfl,g,gd,ett,et1,et2,hp0,hp1,j8,j18,q⟩:=h
  refine ⟨_,(Aa2 (Ah9 PassesOwn.never rfl (Af9 (Ag1 (Aa0 (Af5 (Aa0 (Ad3 Ad4 (pv 1) Aa5 (λ_ _=>rfl)) (Aa0 (Ag1 (Aa0 Aa5 Aa3)) Aa3))) (Aa0 (Af5 (Aa0 (Ad3 Ad4 (pv 1) Aa5 (λ_ _=>rfl)) (Aa0 (Am6 Ap8 (Ag1 (Aa0 Aa5 (Aa0 Aa5 Aa3))) Au1 (An6 (Ab9 Ag8 Aa5 (Ah5 Cb1 (by rfl) T.int PyProof.Rows.boot_int (Aa0 (pv 2) Aa3))))) Aa3))) Aa3)))) (Aq9 rfl (Ae1 (Ad5 (i:=3) scMk.nd rfl (Or.inl rfl)) (Ae1 (Ad5 (i:=4) scMk.nd rfl (Or.inl rfl)) Al8))) (Aa4 (Ah9 PassesOwn.never rfl (Af9 (pv 4)) (Ad5 (i:=5) scMk.nd rfl (Or.inl rfl)) (Aa4 (Ac8 (Ab6 Ae4 (Ab9 Ad0 (Ab9 Ad9 (Ad3 Ae2 (Ad3 Ae2 (pv 0) (Ad3 Ad4 (pv 3) Aa5 (λ_ _=>rfl)) (λ_ _=>rfl)) (Ad3 Ad4 (pv 3) Aa5 (λ_ _=>rfl)) (λ_ _=>rfl)) (pv 5)) Aa5) Aa5 (Ac0 _)) (Aa4 (Al3 (Ab9 Ag8 (Ad3 Ae2 (Ad3 Ae2 (pv 0) (Ad3 Ad4 (pv 3) Aa5 (λ_ _=>rfl)) (λ_ _=>rfl)) (Ad3 Ad4 (pv 3) Aa5 (λ_ _=>rfl)) (λ_ _=>rfl)) (pv 5)) (Ap2 (Ad3 Ae2 (pv 0) (Ad3 Ad4 (pv 3) Aa5 (λ_ _=>rfl)) (λ_ _=>rfl)) (Ad3 Ad4 (pv 3) Aa5 (λ_ _=>rfl)) Ai0))) Ab0))))) (Aa2 (Ac8 (PW.pt (Ah1 (Ad1 (pv 2)) (Af8 (Ab6 Bb5 (Ad3 Ad4 (pv 1) Aa5 (λ_ _=>rfl)) Aa5 (Ac0 _))))) (Aa4 (Ab2 (Ab9 Ag8 (Ad3 Ad4 (pv 1) Aa5 (λ_ _=>rfl)) Aa5))) Ab0) (Aa4 (Ab2 (Ad3 Ad4 (pv 1) Aa5 (λ_ _=>rfl)))))),?_⟩
  refine ⟨_,rfl,tt,_,_,.ref t1,rfl,rfl,SqT.of ett,rfl,by show 1<=sizeLine; decide,λb1 hb1=>?_⟩
  have s1:=Aa6 (o:=.lst [.int 8]) hb1
  have zb1:upd H b1 (.lst [.int 8]) b1=some (.lst [.int 8]):=upd_same
  generalize upd H b1 (.lst [.int 8])=H1 at *
  refine ⟨by show 2<=sizeLine; decide,λu1 hu1=>?_⟩
  have s2:=Aa6 (o:=.tup [.ref t1,.ref b1]) hu1
  have zu1:upd H1 u1 (.tup [.ref t1,.ref b1]) u1=some (.tup [.ref t1,.ref b1]):=upd_same
  generalize upd H1 u1 (.tup [.ref t1,.ref b1])=H2 at *
  refine ⟨_,rfl,tt,_,_,.ref t2,rfl,rfl,SqT.of (s2 _ _ (s1 _ _ ett)),rfl,by show 2<=sizeLine; decide,λb0 hb0=>?_⟩
  have s3:=Aa6 (o:=.lst [.int 8,.int 16]) hb0
  have zb0:upd H2 b0 (.lst [.int 8,.int 16]) b0=some (.lst [.int 8,.int 16]):=upd_same
  generalize upd H2 b0 (.lst [.int 8,.int 16])=H3 at *
  refine ⟨_,rfl,.inr ⟨wr,rfl,_,_,rfl,rfl,_,rfl,b0,_,rfl,SqL.of zb0,λb2 hb2=>?_⟩⟩
  have hcut:cutV [V.int 8,V.int 16] none (some (1+if wr=true then 1 else 0))=(if wr then [8,16] else [8]:List Nat).map (λ(z:Nat)=>V.int (z:Int)):=by cases wr <;> rfl
  rw [hcut]
  have hbl:∀ z ∈ (if wr then [8,16] else [8]:List Nat),z=8\/z=16:=by cases wr <;> decide
  have hbf:∀ q:Pgs,∀ (p:Addr) (ws:List Int),q[i1]?=some (some (p,ws))->j1<ws.length->(if wr then [8,16] else [8]:List Nat).foldl (λq b=>mkN q i1 j1 b) q=mkN q i1 j1 (if wr then 24 else 8):=λq p ws e hj=>by
   cases wr
   ·rfl
   ·exact Cs9 e hj
  generalize (if wr then [8,16] else [8]:List Nat)=bl at *
  have s4:=Aa6 (o:=.lst (bl.map λ(z:Nat)=>V.int (z:Int))) hb2
  have zb2:upd H3 b2 (.lst (bl.map λ(z:Nat)=>V.int (z:Int))) b2=some (.lst (bl.map λ(z:Nat)=>V.int (z:Int))):=upd_same
  generalize upd H3 b2 (.lst (bl.map λ(z:Nat)=>V.int (z:Int)))=H4 at *
  refine ⟨by show 2<=sizeLine; decide,λu2 hu2=>?_⟩
  have s5:=Aa6 (o:=.tup [.ref t2,.ref b2]) hu2
  have zu2:upd H4 u2 (.tup [.ref t2,.ref b2]) u2=some (.tup [.ref t2,.ref b2]):=upd_same
  generalize upd H4 u2 (.tup [.ref t2,.ref b2])=H5 at *
  refine ⟨by show 2<=sizeLine; decide,λlo hlo=>?_⟩
  have s6:=Aa6 (o:=.lst [.ref u1,.ref u2]) hlo
  have zlo:upd H5 lo (.lst [.ref u1,.ref u2]) lo=some (.lst [.ref u1,.ref u2]):=upd_same
  generalize upd H5 lo (.lst [.ref u1,.ref u2])=H6 at *
  have s16:=((s1.trans s2).trans s3).trans ((s4.trans s5).trans s6)
  have nAt:∀ b,H b=none->¬ At D qs b:=λb hb z=>by obtain ⟨o,e⟩:=g.at z; rw [hb] at e; cases e
  have nTu:∀ (b:Addr) (xs:List V),H6 b=some (.tup xs)->¬ At D qs b:=λb xs e z=>by
   rcases z with z | ⟨n,ws,z⟩
   ·have y:=s16 _ _ g.top; rw [<- z,e] at y; cases y
   ·have y:=s16 _ _ (g.each n b ws z).1; rw [e] at y; cases y
  have nlo:¬ At D qs lo:=nAt _ ((((s1.trans s2).trans s3).trans (s4.trans s5)).free hlo)
  let mq:Nat->Pgs:=λn=>if n=0 then qs else if n=1 then mkN qs i j 8 else mkN (mkN qs i j 8) i1 j1 (if wr then 24 else 8)
  have tis:∀ n v,([V.ref u1,V.ref u2])[n]?=some v->∃ (u ti bi:Addr) (x y:Nat) (bs:List Nat),v=.ref u/\H6 u=some (.tup [.ref ti,.ref bi])/\H6 ti=some (.tup [.int (x:Int),.int (y:Int)])/\H6 bi=some (.lst (bs.map λ(z:Nat)=>V.int (z:Int)))/\¬ At D qs bi/\hasP qs (.int (x:Int))=true/\y<8/\(∀ z ∈ bs,z=8\/z=16)/\∀ (p:Addr) (ws:List Int),(mq n)[x]?=some (some (p,ws))->y<ws.length->bs.foldl (λq b=>mkN q x y b) (mq n)=mq (n+1):=λn v e=>by
   match n,e with
   | 0,e=>exact ⟨u1,t1,b1,i,j,[8],(Option.some.inj e).symm,s6 _ _ (s5 _ _ (s4 _ _ (s3 _ _ zu1))),s16 _ _ et1,s6 _ _ (s5 _ _ (s4 _ _ (s3 _ _ (s2 _ _ zb1)))),nAt _ hb1,hp0,j8,λz hz=>.inl (List.mem_singleton.mp hz),λp ws _ _=>rfl⟩
   | 1,e=>exact ⟨u2,t2,b2,i1,j1,bl,(Option.some.inj e).symm,s6 _ _ zu2,s16 _ _ et2,s6 _ _ (s5 _ _ zb2),nAt _ (((s1.trans s2).trans s3).free hb2),hp1,j18,hbl,λp ws e2 hy=>hbf _ p ws e2 hy⟩
   | n+2,e=>simp at e
  have mqAt:∀ n b,At D (mq n) b->At D qs b:=λn b z=>by
   match n,z with
   | 0,z=>exact z
   | 1,z=>exact At.setW z
   | n+2,z=>exact At.setW (At.setW (show At D (mkN (mkN qs i j 8) i1 j1 (if wr then 24 else 8)) b from z))
  refine ⟨lo,rfl,⟨_,SqL.of zlo⟩,Ah0 (K:=K) (a:=lo) (xs:=[.ref u1,.ref u2]) (λn σ H'=>∃ (v3 v4 v5:Option V),σ=[some (.ref D),some (.ref tt),some (.bl wr),v3,v4,v5]/\Pg H' D (mq n)/\Good (mq n)/\(∀ x:Nat,hasP (mq n) (.int (x:Int))=hasP qs (.int (x:Int)))/\Kpt D qs H6 H') ?_ ?_ ?_ ?_⟩
  ·exact ⟨_,_,_,rfl,g.same s16,gd,λ_=>rfl,λ_ _ _ z=>z⟩
  ·rintro n σ H' _ ⟨_,_,_,_,_,_,_,kp⟩
   exact SqL.of (kp _ _ nlo zlo)
  ·rintro n v σ H' hv ⟨v3,v4,v5,rfl,g',gd',hh,kp⟩
   obtain ⟨u,ti,bi,x,y,bs,rfl,eu,eti,ebi,nbi,hpx,y8,hb8,hfo⟩:=tis n v hv
   refine ⟨u,_,rfl,SqT.of (kp _ _ (nTu _ _ eu) eu),rfl,_,_,rfl,_,_,rfl,rfl,?_⟩
   have mAt:=mqAt n
   generalize mq n=q0 at *
   obtain ⟨n0,p0,w0,en,e0⟩:=Ag4 ((hh x).trans hpx)
   obtain rfl:n0=x:=by have:=V.int.inj en; omega
   have hfin:=hfo p0 w0 e0 (by have:=(Good.word gd' e0 y8).2.2; omega)
   refine ⟨_,rfl,bi,rfl,⟨_,SqL.of (kp _ _ nbi ebi)⟩,Ah0 (K:=K) (a:=bi) (xs:=bs.map λ(z:Nat)=>V.int (z:Int)) (λm σ H2=>∃ (v5:Option V),σ=[some (.ref D),some (.ref tt),some (.bl wr),some (.ref ti),some (.ref bi),v5]/\Pg H2 D ((bs.take m).foldl (λq b=>mkN q n0 y b) q0)/\Good ((bs.take m).foldl (λq b=>mkN q n0 y b) q0)/\(∀ x:Nat,hasP ((bs.take m).foldl (λq b=>mkN q n0 y b) q0) (.int (x:Int))=hasP qs (.int (x:Int)))/\(∀ b,At D ((bs.take m).foldl (λq b=>mkN q n0 y b) q0) b->At D qs b)/\Kpt D qs H6 H2) ?_ ?_ ?_ ?_⟩
   ·exact ⟨_,rfl,g',gd',hh,mAt,kp⟩
   ·rintro m σ H2 _ ⟨_,_,_,_,_,_,kp2⟩
    exact SqL.of (kp2 _ _ nbi ebi)
   ·rintro m v σ H2 hv2 ⟨v5',rfl,g2,gd2,hh2,at2,kp2⟩
    rw [List.getElem?_map] at hv2
    cases eb:bs[m]? with
    | none=>rw [eb] at hv2; cases hv2
    | some bt =>
    rw [eb] at hv2
    cases hv2
    have h816:=hb8 bt (List.mem_of_getElem? eb)
    have hst:(bs.take (m+1)).foldl (λq b=>mkN q n0 y b) q0=mkN ((bs.take m).foldl (λq b=>mkN q n0 y b) q0) n0 y bt:=by
     rw [List.take_succ,eb,List.foldl_append]; rfl
    rw [hst]
    generalize (bs.take m).foldl (λq b=>mkN q n0 y b) q0=q2 at *
    obtain ⟨n1,p,ws,en1,e1⟩:=Ag4 ((hh2 n0).trans hpx)
    obtain rfl:n1=n0:=by have:=V.int.inj en1; omega
    obtain ⟨w0',w1',w8⟩:=Good.word gd2 e1 y8
    have hw:=Ah4 e1 w0'
    have eti2:=kp2 _ _ (nTu _ _ eti) eti
    refine ⟨_,rfl,_,rfl,ti,_,_,.int (n1:Int),rfl,rfl,SqT.of eti2,rfl,D,_,_,.ref p,rfl,rfl,SqL.of g2.top,Aj1 (by rw [List.getElem?_map,e1]; rfl),_,rfl,ti,_,_,.int (y:Int),rfl,rfl,SqT.of eti2,rfl,p,_,_,_,rfl,rfl,SqL.of (g2.each _ _ _ e1).1,Al2 (by omega),  _,rfl,_,_,rfl,rfl,⟨by omega,by omega⟩,_,2,rfl,rfl,(by show (0:Int)<2; decide),rfl,_,rfl,ite2 (λc=>?_) (λc=>?_)⟩
    ·have c:=V.int.inj (of_decide_eq_true c)
     have hor:Ad8 q2 n1 y ||| bt=Ad8 q2 n1 y+bt:=by
      rw [hw] at c
      rcases h816 with rfl | rfl
      ·rw [or8,if_pos (by omega)]
      ·rw [or16,if_pos (by omega)]
     refine ⟨_,rfl,_,rfl,ti,_,_,.int (n1:Int),rfl,rfl,SqT.of eti2,rfl,D,_,_,.ref p,rfl,rfl,SqL.of g2.top,Aj1 (by rw [List.getElem?_map,e1]; rfl),_,rfl,ti,_,_,.int (y:Int),rfl,rfl,SqT.of eti2,rfl,p,_,_,_,rfl,rfl,SqL.of (g2.each _ _ _ e1).1,Al2 (by omega),  _,rfl,_,_,rfl,rfl,_,rfl,_,rfl,ti,_,_,.int (n1:Int),rfl,rfl,SqT.of eti2,rfl,D,_,_,.ref p,rfl,rfl,SqL.of g2.top,Aj1 (by rw [List.getElem?_map,e1]; rfl),_,rfl,ti,_,_,.int (y:Int),rfl,rfl,SqT.of eti2,rfl,  p,_,_,y,rfl,rfl,(g2.each _ _ _ e1).1,Am2 (by rw [List.length_map]; omega),?_⟩
     have em:mkN q2 n1 y bt=setW q2 n1 y (ws.getD y 0+(bt:Int)):=by unfold mkN; rw [hor,hw]; rfl
     refine ⟨_,rfl,by rw [em]; exact g2.setW e1,Good.mkN gd2 e1 y8 (by omega),λz=>(Ai2 z).trans (hh2 z),λb z=>at2 b (At.setW z),λb o nb z=>?_⟩
     show upd H2 p _ b=some o
     rw [Aa7 (show b≠p from λy=>nb (at2 b (by rw [y]; exact .inr ⟨_,ws,e1⟩)))]
     exact kp2 b o nb z
    ·have c:¬ ws.getD y 0 / (bt:Int) % 2=0:=λz=>c (decide_eq_true (congrArg V.int z))
     have hor:Ad8 q2 n1 y ||| bt=Ad8 q2 n1 y:=by
      rw [hw] at c
      rcases h816 with rfl | rfl
      ·rw [or8,if_neg (by omega)]
      ·rw [or16,if_neg (by omega)]
     rw [Ci4 e1 (by omega) w0' hor]
     exact ⟨_,rfl,g2,gd2,hh2,at2,kp2⟩
   ·rintro σ H2 ⟨v5',rfl,g2,gd2,hh2,at2,kp2⟩
    rw [List.length_map,List.take_length,hfin] at *
    exact ⟨_,_,_,rfl,g2,gd2,hh2,kp2⟩
  ·rintro σ H' ⟨v3,v4,v5,rfl,g',gd',hh,kp⟩
   have kq:Kpt D qs H H':=λb o nb e=>kp b o nb (s16 _ _ e)
   have ett':=kp _ _ (nTu _ _ (s16 _ _ ett)) (s16 _ _ ett)
   have q:=q H' g' kq
   refine ⟨_,rfl,_,rfl,and3 (d:=decide (((rigN t l:Nat):Int)<16)) (λz=>⟨_,rfl,tt,_,_,.int ((rigN t l:Nat):Int),rfl,rfl,SqT.of ett',rfl,_,16,rfl,rfl,_,rfl,z⟩) (λcw c=>?_) (λc=>?_)⟩
   ·have c:=of_decide_eq_true c
    refine ⟨_,rfl,tt,_,_,.int ((rigN t l:Nat):Int),rfl,rfl,SqT.of ett',rfl,_,16,rfl,rfl,?_⟩
    rw [cw,if_pos rfl,Ck4,if_pos (by omega)] at q
    exact q
   ·refine ⟨_,rfl,tt,_,_,.int ((rigN t l:Nat):Int),rfl,rfl,SqT.of ett',rfl,?_⟩
    cases wr with
    | false=>exact q
    | true =>
     have c:¬ rigN t l<16:=λz=>c ⟨rfl,decide_eq_true (by omega)⟩
     rw [if_pos rfl,Ck4,if_neg c] at q
     exact q
end
end K28
end
section
namespace K28
open PySem L2
theorem As0:∀ {rs:Rs} {k p r:Int},Aj2 rs k=some (p,r)->(k,p,r) ∈ rs
 | [],_,_,_,h=>by cases h
 | x::rs,k,p,r,h=>by
  unfold Aj2 at h
  split at h
  ·rename_i z
   have:=Option.some.inj h
   rw [show x=(k,p,r) from Prod.ext z this]
   exact List.mem_cons_self
  ·exact List.mem_cons_of_mem _ (As0 h)
theorem Bi4:∀ {rs:Rs} {x y:Int×Int×Int},y ∈ putR rs x->y ∈ rs\/y=x
 | [],x,y,h=>.inr (List.mem_singleton.mp h)
 | z::rs,x,y,h=>by
  unfold putR at h
  split at h
  ·rcases List.mem_cons.mp h with e | e
   ·exact .inr e
   ·exact .inl (List.mem_cons_of_mem _ e)
  ·rcases List.mem_cons.mp h with e | e
   ·rw [e]; exact .inl List.mem_cons_self
   ·rcases Bi4 e with e | e
    ·exact .inl (List.mem_cons_of_mem _ e)
    ·exact .inr e
theorem Cj3 {n:Int} {rs:Rs} {x y:Int×Int×Int} (h:y ∈ (Ai1 n rs x).1):y ∈ rs\/y=x:=by
 unfold Ai1 at h
 split at h
 ·exact Bi4 h
 ·exact Bi4 (List.mem_of_mem_tail h)
theorem Am4 {ps qs:Pgs} (h:cont ps=cont qs) (i j:Nat):Ad8 ps i j=Ad8 qs i j:=by
 have e:=Bl2 h i
 unfold Ad8
 cases h1:ps[i]? with
 | none =>
  cases h2:qs[i]? with
  | none=>rfl
  | some o=>rw [h1,h2] at e; cases e
 | some o1 =>
  cases h2:qs[i]? with
  | none=>rw [h1,h2] at e; cases e
  | some o2 =>
   rw [h1,h2] at e
   have e':Option.map (λ(q:Addr×List Int)=>q.2) o1=Option.map (λ(q:Addr×List Int)=>q.2) o2:=Option.some.inj e
   show (((Option.map (λ(q:Addr×List Int)=>q.2) o1).getD []).getD j 0).toNat=(((Option.map (λ(q:Addr×List Int)=>q.2) o2).getD []).getD j 0).toNat
   rw [e']
theorem Br0 {ps qs:Pgs} (h:cont ps=cont qs) (w:Nat) (wr k:Bool):Ag2 ps w wr k=Ag2 qs w wr k:=by
 unfold Ag2
 rw [Ai7 h]
theorem Bq9 {ps qs:Pgs} (h:cont ps=cont qs) (rt pl:Nat) (wr k:Bool):Ag9 ps rt pl wr k=Ag9 qs rt pl wr k:=by
 unfold Ag9
 rw [Ai7 h]
 simp only [Am4 h,Br0 h]
theorem Bo6 {ps qs:Pgs} (h:cont ps=cont qs) (i j m:Nat):cont (mkN ps i j m)=cont (mkN qs i j m):=by
 unfold mkN
 rw [Am4 h]
 exact Au9 h i j _
inductive Wd | load | save | peek | poke | drop | give | want | root
def wS:Wd->Str
 | .load=>"load"
 | .save=>"save"
 | .peek=>"peek"
 | .poke=>"poke"
 | .drop=>"drop"
 | .give=>"give"
 | .want=>"want"
 | .root=>"root"
inductive Ot | non | int (i:Int) | bl (b:Bool) | flt (z:Str) (pl lv:Int)
inductive Rc | page (p:Nat) (ps:Pgs) (rs:Rs) | flt (z:Str) (lv:Nat)
def newR (n:Int) (rs:Rs) (pl pg t l:Nat) (wr:Bool):Rs:=(Ai1 n rs (((pl / 8:Nat):Int),(pg:Int),((if wr then rigN t l ||| 16 else rigN t l:Nat):Int))).1
def mkT (ps:Pgs) (rt pl p1:Nat) (wr:Bool):Pgs:=mkN (mkN ps rt (pl / 8 / 8) 8) p1 (pl / 8 % 8) (if wr then 24 else 8)
def rchN (n:Int) (ps:Pgs) (rs:Rs) (rt pl:Nat) (wr k:Bool):Rc :=
 match remN ps rs pl wr k with
 | some p=>.page p ps rs
 | none=>match Ag9 ps rt pl wr k with
  | .fault z lv=>.flt z lv
  | .trail p1 pg t l=>.page pg (mkT ps rt pl p1 wr) (newR n rs pl pg t l wr)
structure Rz where
 o:Ot
 ps:Pgs
 rs:Rs
 rt:Nat
 bs:List Bool
def z8:List Int:=[0,0,0,0,0,0,0,0]
def doN (n:Int) (w:Wd) (x:Nat) (v:Int) (k:Bool) (ps:Pgs) (rs:Rs) (rt:Nat) (bs:List Bool):Rz :=
 match w with
 | .load=>match rchN n ps rs rt x false k with
  | .page p ps' rs'=>⟨.int ((Ad8 ps' p (x % 8):Nat):Int),ps',rs',rt,bs⟩
  | .flt z lv=>⟨.flt z x lv,ps,rs,rt,bs⟩
 | .save=>match rchN n ps rs rt x true k with
  | .page p ps' rs'=>⟨.non,setW ps' p (x % 8) v,rs',rt,bs⟩
  | .flt z lv=>⟨.flt z x lv,ps,rs,rt,bs⟩
 | .peek=>if hasP ps (.int ((x / 8:Nat):Int))=true then ⟨.int ((Ad8 ps (x / 8) (x % 8):Nat):Int),ps,rs,rt,bs⟩ else ⟨.flt "beyond" x 0,ps,rs,rt,bs⟩
 | .poke=>if hasP ps (.int ((x / 8:Nat):Int))=true then ⟨.non,setW ps (x / 8) (x % 8) v,rs,rt,bs⟩ else ⟨.flt "beyond" x 0,ps,rs,rt,bs⟩
 | .drop=>⟨.non,ps,delR rs ((x / 8:Nat):Int),rt,bs⟩
 | .root=>⟨.non,ps,[],x,bs⟩
 | .give=>if hasP ps (.int (x:Int))=true then ⟨.bl true,ps.set x none,rs,rt,bs⟩ else ⟨.bl false,ps,rs,rt,bs⟩
 | .want=>if x<ps.length/\hasP ps (.int (x:Int))=false then (match bs with
  | []=>⟨.bl false,ps,rs,rt,[]⟩
  | false::br=>⟨.bl false,ps,rs,rt,br⟩
  | true::br=>⟨.bl true,ps.set x (some (0,z8)),rs,rt,br⟩) else ⟨.bl false,ps,rs,rt,bs⟩
theorem Ce0 {ps qs:Pgs} (h:cont ps=cont qs) (rs:Rs) (pl:Nat) (wr k:Bool):remN ps rs pl wr k=remN qs rs pl wr k:=by
 unfold remN
 split
 ·split
  ·rfl
  ·rw [Ai7 h]
 ·rfl
def RcE:Rc->Rc->Prop
 | .page p ps rs,.page p' ps' rs'=>p=p'/\cont ps=cont ps'/\rs=rs'
 | .flt z lv,.flt z' lv'=>z=z'/\lv=lv'
 | _,_=>False
theorem Ao8 {ps qs:Pgs} (h:cont ps=cont qs) (n:Int) (rs:Rs) (rt pl:Nat) (wr k:Bool):RcE (rchN n ps rs rt pl wr k) (rchN n qs rs rt pl wr k):=by
 unfold rchN
 rw [Ce0 h,Bq9 h]
 cases remN qs rs pl wr k with
 | some p=>exact ⟨rfl,h,rfl⟩
 | none =>
  dsimp only
  cases Ag9 qs rt pl wr k with
  | fault z lv=>exact ⟨rfl,rfl⟩
  | trail p1 pg t l=>exact ⟨rfl,Bo6 (Bo6 h _ _ _) _ _ _,rfl⟩
structure RzE (x y:Rz):Prop where
 o:x.o=y.o
 ps:cont x.ps=cont y.ps
 rs:x.rs=y.rs
 rt:x.rt=y.rt
 bs:x.bs=y.bs
theorem Ct8 {ps qs:Pgs} (h:cont ps=cont qs) (n:Int) (w:Wd) (x:Nat) (v:Int) (k:Bool) (rs:Rs) (rt:Nat) (bs:List Bool):RzE (doN n w x v k ps rs rt bs) (doN n w x v k qs rs rt bs):=by
 cases w with
 | load =>
  have e:=Ao8 h n rs rt x false k
  unfold doN
  dsimp only
  revert e
  cases rchN n ps rs rt x false k <;> cases rchN n qs rs rt x false k <;> intro e
  ·obtain ⟨rfl,e2,rfl⟩:=e
   exact ⟨by dsimp only; rw [Am4 e2],e2,rfl,rfl,rfl⟩
  ·cases e
  ·cases e
  ·obtain ⟨rfl,rfl⟩:=e
   exact ⟨rfl,h,rfl,rfl,rfl⟩
 | save =>
  have e:=Ao8 h n rs rt x true k
  unfold doN
  dsimp only
  revert e
  cases rchN n ps rs rt x true k <;> cases rchN n qs rs rt x true k <;> intro e
  ·obtain ⟨rfl,e2,rfl⟩:=e
   exact ⟨rfl,Au9 e2 _ _ _,rfl,rfl,rfl⟩
  ·cases e
  ·cases e
  ·obtain ⟨rfl,rfl⟩:=e
   exact ⟨rfl,h,rfl,rfl,rfl⟩
 | peek =>
  unfold doN
  dsimp only
  rw [Ai7 h,Am4 h]
  split
  ·exact ⟨rfl,h,rfl,rfl,rfl⟩
  ·exact ⟨rfl,h,rfl,rfl,rfl⟩
 | poke =>
  unfold doN
  dsimp only
  rw [Ai7 h]
  split
  ·exact ⟨rfl,Au9 h _ _ _,rfl,rfl,rfl⟩
  ·exact ⟨rfl,h,rfl,rfl,rfl⟩
 | drop=>exact ⟨rfl,h,rfl,rfl,rfl⟩
 | root=>exact ⟨rfl,h,rfl,rfl,rfl⟩
 | give =>
  unfold doN
  dsimp only
  rw [Ai7 h]
  split
  ·exact ⟨rfl,As2 h rfl,rfl,rfl,rfl⟩
  ·exact ⟨rfl,h,rfl,rfl,rfl⟩
 | want =>
  unfold doN
  dsimp only
  rw [Ai7 h,Am7 h]
  split
  ·match bs with
   | []=>exact ⟨rfl,h,rfl,rfl,rfl⟩
   | false::br=>exact ⟨rfl,h,rfl,rfl,rfl⟩
   | true::br=>exact ⟨rfl,As2 h rfl,rfl,rfl,rfl⟩
  ·exact ⟨rfl,h,rfl,rfl,rfl⟩
def Rg (g:Nat):Prop:=g % 2=0/\g % 16<8/\g<24
structure Rk (n:Int) (rs:Rs):Prop where
 ok:∀ x ∈ rs,∃ i p g:Nat,x=((i:Int),(p:Int),(g:Int))/\i<64/\Rg g
 nd:(rs.map (·.1)).Nodup
 ln:(rs.length:Int)<=n
theorem Rk.nil {n:Int} (h:1<=n):Rk n []:=⟨(λx hx=>by cases hx),List.nodup_nil,by show (0:Int)<=n; omega⟩
theorem Rk.rn {n:Int} {rs:Rs} (h:Rk n rs):RsN rs:=λk p r e=>by
 obtain ⟨i,p',g,z,_⟩:=h.ok _ (As0 e)
 cases z
 exact ⟨Int.natCast_nonneg _,Int.natCast_nonneg _⟩
theorem Rk.del {n:Int} {rs:Rs} (h:Rk n rs) (k:Int):Rk n (delR rs k):=⟨λx hx=>h.ok x (List.mem_filter.mp hx).1,Ca0 h.nd,by have:=Bo2 rs k; have:=h.ln; omega⟩
theorem Rk.keep {n:Int} {rs:Rs} {i p g:Nat} (h:Rk n rs) (hi:i<64) (hg:Rg g):Rk n (Ai1 n rs ((i:Int),(p:Int),(g:Int))).1:=⟨λx hx=>by
 rcases Cj3 hx with z | z
 ·exact h.ok x z
 ·exact ⟨i,p,g,z,hi,hg⟩,Cj2 h.nd,By5 h.ln⟩
theorem Rk.far {n:Int} {rs:Rs} {k:Nat} (h:Rk n rs) (hk:64<=k):delR rs (k:Int)=rs:=by
 refine Bz9 ?_
 cases e:Aj2 rs (k:Int) with
 | none=>rfl
 | some x =>
  obtain ⟨i,p',g,z,hi,_⟩:=h.ok _ (As0 e)
  have:=(Prod.ext_iff.mp z).1
  dsimp only at this
  omega
theorem Ck5 (t l:Nat):Rg (rigN t l)/\Rg (rigN t l ||| 16):=by
 rw [Bi1]
 unfold Rg
 rcases Nat.mod_two_eq_zero_or_one (t / 2) with h1 | h1 <;> rcases Nat.mod_two_eq_zero_or_one (l / 2) with h2 | h2 <;> rcases Nat.mod_two_eq_zero_or_one (t / 4) with h3 | h3 <;> rcases Nat.mod_two_eq_zero_or_one (l / 4) with h4 | h4 <;> rcases Nat.mod_two_eq_zero_or_one (l / 16) with h5 | h5 <;> rw [h1,h2,h3,h4,h5] <;> decide
theorem Rk.new {n:Int} {rs:Rs} {pl pg t l:Nat} {wr:Bool} (h:Rk n rs) (hp:pl<512):Rk n (newR n rs pl pg t l wr):=by
 unfold newR
 cases wr with
 | true=>exact h.keep (by omega) (Ck5 t l).2
 | false=>exact h.keep (by omega) (Ck5 t l).1
theorem Rk.rch {n:Int} {ps:Pgs} {rs:Rs} {rt pl p:Nat} {wr k:Bool} {ps':Pgs} {rs':Rs} (h:Rk n rs) (e:rchN n ps rs rt pl wr k=.page p ps' rs'):Rk n rs':=by
 unfold rchN at e
 split at e
 ·cases e; exact h
 ·split at e
  ·cases e
  ·rename_i e2
   cases e
   exact h.new (Ai4 e2).1
theorem Rk.do {n:Int} {w:Wd} {x:Nat} {v:Int} {k:Bool} {ps:Pgs} {rs:Rs} {rt:Nat} {bs:List Bool} (n1:1<=n) (h:Rk n rs):Rk n (doN n w x v k ps rs rt bs).rs:=by
 cases w with
 | load =>
  unfold doN
  dsimp only
  cases e:rchN n ps rs rt x false k with
  | page p ps' rs'=>exact h.rch e
  | flt z lv=>exact h
 | save =>
  unfold doN
  dsimp only
  cases e:rchN n ps rs rt x true k with
  | page p ps' rs'=>exact h.rch e
  | flt z lv=>exact h
 | peek=>unfold doN; dsimp only; split <;> exact h
 | poke=>unfold doN; dsimp only; split <;> exact h
 | drop=>exact h.del _
 | root=>exact Rk.nil n1
 | give=>unfold doN; dsimp only; split <;> exact h
 | want =>
  unfold doN
  dsimp only
  split
  ·match bs with
   | []=>exact h
   | false::br=>exact h
   | true::br=>exact h
  ·exact h
def hitN (qs:Pgs) (pl:Nat) (wr k:Bool) (x:Int×Int×Int):Bool:=decide (x.1 * 8=(pl:Int) / 8 * 8) && hasP qs (.int x.2.1) && (k || decide (x.2.2 % 8<4)) && (!wr || (decide (16<=x.2.2) && decide (x.2.2 % 4=2)))
theorem Cl0 {g:Nat} (h:Rg g) (wr k:Bool):letN g wr k=((k || decide ((g:Int) % 8<4)) && (!wr || (decide ((16:Int)<=(g:Int)) && decide ((g:Int) % 4=2)))):=by
 obtain ⟨h1,h2,h3⟩:=h
 have:g=0\/g=2\/g=4\/g=6\/g=16\/g=18\/g=20\/g=22:=by omega
 rcases this with rfl | rfl | rfl | rfl | rfl | rfl | rfl | rfl <;> cases wr <;> cases k <;> decide
theorem Bn0:∀ {rs:Rs} {x:Int×Int×Int},(rs.map (·.1)).Nodup->x ∈ rs->Aj2 rs x.1=some x.2
 | y::r,x,nd,hx=>by
  unfold Aj2
  rw [List.map_cons,List.nodup_cons] at nd
  rcases List.mem_cons.mp hx with e | e
  ·rw [e,if_pos rfl]
  ·rw [if_neg (λz=>nd.1 (by rw [z]; exact List.mem_map.mpr ⟨x,e,rfl⟩))]
   exact Bn0 nd.2 e
theorem Ay6 {n:Int} {qs:Pgs} {rs:Rs} {pl:Nat} {wr k:Bool} {x:Int×Int×Int} (h:Rk n rs) (hx:x ∈ rs) (e:hitN qs pl wr k x=true):∃ p:Nat,x.2.1=(p:Int)/\remN qs rs pl wr k=some p:=by
 obtain ⟨i,p,g,rfl,hi,hg⟩:=h.ok x hx
 refine ⟨p,rfl,?_⟩
 have lk:=Bn0 h.nd hx
 unfold hitN at e
 dsimp only at e lk
 simp only [Bool.and_eq_true] at e
 obtain ⟨⟨⟨e1,e2⟩,e3⟩,e4⟩:=e
 have e1':=of_decide_eq_true e1
 have ei:(i:Int)=((pl / 8:Nat):Int):=by omega
 unfold remN
 rw [if_pos (by omega),<- ei,lk]
 dsimp only
 rw [show ((g:Int)).toNat=g from Int.toNat_natCast g,Cl0 hg,e2,e3,e4]
 simp
theorem Cd9 {n:Int} {qs:Pgs} {rs:Rs} {pl:Nat} {wr k:Bool} (h:Rk n rs) (e:∀ x ∈ rs,hitN qs pl wr k x=false):remN qs rs pl wr k=none:=by
 unfold remN
 split
 ·rename_i hp
  cases lk:Aj2 rs ((pl / 8:Nat):Int) with
  | none=>rfl
  | some y =>
   obtain ⟨p',r'⟩:=y
   dsimp only
   have hm:=As0 lk
   obtain ⟨i,p,g,z,hi,hg⟩:=h.ok _ hm
   have hh:=e _ hm
   cases z
   rw [if_neg]
   intro y
   rw [show ((g:Int)).toNat=g from Int.toNat_natCast g,Cl0 hg] at y
   unfold hitN at hh
   dsimp only at hh
   rw [decide_eq_true (show ((pl / 8:Nat):Int) * 8=(pl:Int) / 8 * 8 by omega),Bool.true_and,Bool.and_assoc] at hh
   rw [hh] at y
   cases y
 ·rfl
end K28
end
section
namespace K28
open PySem L2
def Foot (a h r q aw:Addr) (ps:Pgs) (b:Addr):Prop:=b=a\/b=r\/b=q\/b=aw\/At h ps b
def Ah3 (sd D L:Addr) (qs:Pgs) (b:Addr):Prop:=b=sd\/b=L\/At D qs b
structure WFr (H H':Hp) (X X':Addr->Prop):Prop where
 kp:∀ b o,¬ X b->H b=some o->H' b=some o
 gr:∀ b,X' b->X b\/H b=none
theorem WFr.none {H H':Hp} {X X':Addr->Prop} (f:WFr H H' X X') {b:Addr} (h:H' b=none):X b\/H b=none:=by
 by_cases hx:X b
 ·exact .inl hx
 ·cases e:H b with
  | none=>exact .inr rfl
  | some o=>rw [f.kp b o hx e] at h; cases h
theorem WFr.trans {H H1 H2:Hp} {X X1 X2:Addr->Prop} (f:WFr H H1 X X1) (g:WFr H1 H2 X1 X2):WFr H H2 X X2:=by
 refine ⟨λb o hx e=>g.kp b o (λz=>?_) (f.kp b o hx e),λb hb=>?_⟩
 ·rcases f.gr b z with y | y
  ·exact hx y
  ·rw [e] at y; cases y
 ·rcases g.gr b hb with y | y
  ·exact f.gr b y
  ·exact f.none y
theorem WFr.same {H H':Hp} {X:Addr->Prop} (s:Same H H'):WFr H H' X X:=⟨λb o _ e=>s b o e,λb hb=>.inl hb⟩
theorem WFr.both {H H1 H2:Hp} {X X1 Y Y1:Addr->Prop} (f:WFr H H1 X X1) (g:WFr H1 H2 Y Y1):WFr H H2 (λb=>X b\/Y b) (λb=>X1 b\/Y1 b):=by
 refine ⟨λb o hx e=>g.kp b o (λz=>hx (.inr z)) (f.kp b o (λz=>hx (.inl z)) e),λb hb=>?_⟩
 rcases hb with z | z
 ·rcases f.gr b z with y | y
  ·exact .inl (.inl y)
  ·exact .inr y
 ·rcases g.gr b z with y | y
  ·exact .inl (.inr y)
  ·rcases f.none y with y | y
   ·exact .inl (.inl y)
   ·exact .inr y
theorem Aj0 {H:Hp} {h b:Addr} {ps:Pgs} (g:Pg H h ps) (x:At h ps b):∃ xs,H b=some (.lst xs):=by
 rcases x with rfl | ⟨k,ws,z⟩
 ·exact ⟨_,g.top⟩
 ·exact ⟨_,(g.each k b ws z).1⟩
theorem Cb5 {h p:Addr} {ps:Pgs} {i:Nat} {ws:List Int} (e:ps[i]?=some (some (p,ws))):At h ps p:=.inr ⟨i,ws,e⟩
theorem Way.live {C SC PL:Addr} {H:Hp} {a m h r q aw:Addr} {ps:Pgs} {n:Int} {rs:Rs} {bs:List Bool} {b0:Int} (w:Way C SC PL H a m h r q aw ps n rs bs b0) {b:Addr} (x:Foot a h r q aw ps b):∃ o,H b=some o/\∀ xs,o≠.tup xs:=by
 obtain ⟨dx,fs,e,_⟩:=w.ob
 obtain ⟨dr,fr,er,_⟩:=w.S.ob
 obtain ⟨kvs,eq,_⟩:=w.S.se
 rcases x with rfl | rfl | rfl | rfl | x
 ·exact ⟨_,e,nofun⟩
 ·exact ⟨_,er,nofun⟩
 ·exact ⟨_,eq,nofun⟩
 ·exact ⟨_,w.an,nofun⟩
 ·obtain ⟨xs,e⟩:=Aj0 w.M.pg x
  exact ⟨_,e,nofun⟩
theorem Way.frame {C SC PL:Addr} {H H':Hp} {a m h r q aw:Addr} {ps:Pgs} {n:Int} {rs:Rs} {bs:List Bool} {b0:Int} {X:Addr->Prop} (w:Way C SC PL H a m h r q aw ps n rs bs b0) (kp:∀ b o,¬ X b->H b=some o->H' b=some o) (hx:∀ b,X b->¬ Foot a h r q aw ps b) (ht:∀ b,X b->(∃ xs,H b=some (.lst xs))\/∃ kvs,H b=some (.dK kvs)):Way C SC PL H' a m h r q aw ps n rs bs b0:=by
 obtain ⟨dx,fs,e,f⟩:=w.ob
 obtain ⟨dm,em⟩:=w.M.ob
 obtain ⟨dr,fr,er,f2⟩:=w.S.ob
 obtain ⟨kvs,eq,rw'⟩:=w.S.se
 have nt:∀ b xs,H b=some (.tup xs)->H' b=some (.tup xs):=λb xs z=>kp b _ (λy=>by
  rcases ht b y with ⟨u,v⟩ | ⟨u,v⟩ <;> rw [z] at v <;> cases v) z
 have ni:∀ b C d fs,H b=some (.ins C d fs)->H' b=some (.ins C d fs):=λb C d fs z=>kp b _ (λy=>by
  rcases ht b y with ⟨u,v⟩ | ⟨u,v⟩ <;> rw [z] at v <;> cases v) z
 refine ⟨⟨dx,fs,ni _ _ _ _ e,f⟩,⟨⟨dm,ni _ _ _ _ em⟩,w.M.pg.keep λb hb=>?_,w.M.good,w.M.len⟩,⟨⟨dr,fr,ni _ _ _ _ er,f2⟩,⟨kvs,kp _ _ (λy=>hx _ y (.inr (.inr (.inl rfl)))) eq,rw'.imp nt⟩,w.S.nd,w.S.ln,w.S.n1,w.S.n2⟩,kp _ _ (λy=>hx _ y (.inr (.inr (.inr (.inl rfl))))) w.an,w.nd⟩
 obtain ⟨xs,e⟩:=Aj0 w.M.pg hb
 rw [e]
 exact kp b _ (λy=>hx _ y (.inr (.inr (.inr (.inr hb))))) e
def stD (D R:Addr) (rt:Nat) (n:Int) (L:Addr):List (Key×V):=[(Sum.inr "pages",.ref D),(Sum.inr "rows",.ref R),(Sum.inr "root",.int (rt:Int)),(Sum.inr "most",.int n),(Sum.inr "rest",.ref L)]
structure Lw (H:Hp) (sd D R L:Addr) (qs:Pgs) (n:Int) (rs:Rs) (bs:List Bool) (rt:Nat):Prop where
 d:H sd=some (.dK (stD D R rt n L))
 g:Pg H D qs
 gd:Good qs
 t:TL H R rs
 l:H L=some (.lst (bs.map V.bl))
 nL:¬ At D qs L
 nR:¬ At D qs R/\R≠L
theorem Lw.same {H H':Hp} {sd D R L:Addr} {qs:Pgs} {n:Int} {rs:Rs} {bs:List Bool} {rt:Nat} (w:Lw H sd D R L qs n rs bs rt) (s:Same H H'):Lw H' sd D R L qs n rs bs rt:=⟨s _ _ w.d,w.g.same s,w.gd,w.t.same s,s _ _ w.l,w.nL,w.nR⟩
theorem Lw.foot {H:Hp} {sd D R L:Addr} {qs:Pgs} {n:Int} {rs:Rs} {bs:List Bool} {rt:Nat} (w:Lw H sd D R L qs n rs bs rt) {b:Addr} (x:Ah3 sd D L qs b):(∃ xs,H b=some (.lst xs))\/∃ kvs,H b=some (.dK kvs):=by
 rcases x with rfl | rfl | x
 ·exact .inr ⟨_,w.d⟩
 ·exact .inl ⟨_,w.l⟩
 ·exact .inl (Aj0 w.g x)
def Apt (a h r q aw:Addr) (ps:Pgs) (sd D R L:Addr) (qs:Pgs):Prop:=∀ b,Foot a h r q aw ps b->¬ Ah3 sd D L qs b/\b≠R
theorem Lw.way {C SC PL:Addr} {H H':Hp} {a m h r q aw q':Addr} {ps ps':Pgs} {n:Int} {rs:Rs} {bs:List Bool} {rt:Nat} {b0:Int} {sd D R L:Addr} {qs:Pgs} (w:Lw H sd D R L qs n rs bs rt) (W:Way C SC PL H a m h r q aw ps n rs bs b0) (ap:Apt a h r q aw ps sd D R L qs) (f:WFr H H' (Foot a h r q aw ps) (Foot a h r q' aw ps')) :
  Lw H' sd D R L qs n rs bs rt/\Apt a h r q' aw ps' sd D R L qs:=by
 obtain ⟨ys,er,tr⟩:=w.t.ls
 refine ⟨⟨f.kp _ _ (λz=>(ap _ z).1 (.inl rfl)) w.d,w.g.keep λb hb=>?_,w.gd,⟨ys,f.kp _ _ (λz=>(ap _ z).2 rfl) er,tr.imp λt xs z=>f.kp _ _ (λy=>?_) z⟩,f.kp _ _ (λz=>(ap _ z).1 (.inr (.inl rfl))) w.l,w.nL,w.nR⟩,λb hb=>⟨λz=>?_,λz=>?_⟩⟩
 ·obtain ⟨xs,e⟩:=Aj0 w.g hb
  rw [e]
  exact f.kp b _ (λz=>(ap _ z).1 (.inr (.inr hb))) e
 ·obtain ⟨o,e,ne⟩:=W.live y
  rw [z] at e
  exact ne xs (Option.some.inj e).symm
 ·rcases f.gr b hb with y | y
  ·exact (ap _ y).1 z
  ·rcases w.foot z with ⟨u,v⟩ | ⟨u,v⟩ <;> rw [y] at v <;> cases v
 ·subst z
  rcases f.gr _ hb with y | y
  ·exact (ap _ y).2 rfl
  ·rw [er] at y; cases y
theorem Way.law {C SC PL:Addr} {H H':Hp} {a m h r q aw:Addr} {ps:Pgs} {n:Int} {rs rs0:Rs} {bs bs0:List Bool} {rt:Nat} {b0:Int} {sd D R L R':Addr} {qs qs':Pgs} (W:Way C SC PL H a m h r q aw ps n rs0 bs0 b0) (w:Lw H sd D R L qs n rs bs rt) (ap:Apt a h r q aw ps sd D R L qs) (f:WFr H H' (Ah3 sd D L qs) (Ah3 sd D L qs')) (hR:R'=R\/H R'=none) :
  Way C SC PL H' a m h r q aw ps n rs0 bs0 b0/\Apt a h r q aw ps sd D R' L qs':=by
 refine ⟨W.frame f.kp (λb hb z=>(ap b z).1 hb) (λb hb=>w.foot hb),λb hb=>⟨λz=>?_,λz=>?_⟩⟩
 ·obtain ⟨o,e,_⟩:=W.live hb
  rcases f.gr b z with y | y
  ·exact (ap b hb).1 y
  ·rw [e] at y; cases y
 ·subst z
  rcases hR with y | y
  ·exact (ap _ hb).2 y
  ·obtain ⟨o,e,_⟩:=W.live hb
   rw [e] at y; cases y
def WStp (C SC PL:Addr) (H:Hp) (a m h r q aw:Addr) (ps:Pgs) (n:Int) (z:Rz) (H':Hp):Prop:=∃ q' ps',Way C SC PL H' a m h r q' aw ps' n z.rs z.bs (z.rt:Int)/\cont ps'=cont z.ps/\WFr H H' (Foot a h r q aw ps) (Foot a h r q' aw ps')
def LStp (H:Hp) (sd D R L:Addr) (qs:Pgs) (n:Int) (z:Rz) (H':Hp):Prop:=∃ R' qs',Lw H' sd D R' L qs' n z.rs z.bs z.rt/\cont qs'=cont z.ps/\WFr H H' (Ah3 sd D L qs) (Ah3 sd D L qs')/\(R'=R\/H R'=none)
def OtV (H:Hp) (v:V):Ot->Prop
 | .non=>v=.non
 | .int i=>v=.int i
 | .bl b=>v=.bl b
 | .flt z pl lv=>∃ t,v=.ref t/\H t=some (.tup [.str "fault",.str z,.int pl,.int lv])
theorem OtV.same {H H':Hp} {v:V} {o:Ot} (h:OtV H v o) (s:∀ t xs,H t=some (.tup xs)->H' t=some (.tup xs)):OtV H' v o:=by
 cases o with
 | flt z pl lv =>
  obtain ⟨t,e,e2⟩:=h
  exact ⟨t,e,s _ _ e2⟩
 | _=>exact h
theorem Bv7 {n:Int} {ps:Pgs} {rs:Rs} {rt pl lv:Nat} {wr k:Bool} {z:Str} (e:rchN n ps rs rt pl wr k=.flt z lv):PyData.strOk z=true/\remN ps rs pl wr k=none/\Ag9 ps rt pl wr k=.fault z lv:=by
 unfold rchN at e
 split at e
 ·cases e
 ·rename_i e1
  split at e
  ·rename_i e2
   cases e
   exact ⟨Ct1 e2,e1,e2⟩
  ·cases e
theorem Cl6 {n:Int} {w:Wd} {x:Nat} {v:Int} {k:Bool} {ps:Pgs} {rs:Rs} {rt:Nat} {bs:List Bool} {z:Str} {pl lv:Int} (e:(doN n w x v k ps rs rt bs).o=.flt z pl lv):PyData.strOk z=true/\doN n w x v k ps rs rt bs=⟨.flt z pl lv,ps,rs,rt,bs⟩:=by
 cases w with
 | load =>
  unfold doN at e ⊢
  dsimp only at e ⊢
  cases e1:rchN n ps rs rt x false k with
  | page p ps' rs'=>rw [e1] at e; cases e
  | flt z' lv'=>rw [e1] at e; cases e; exact ⟨(Bv7 e1).1,rfl⟩
 | save =>
  unfold doN at e ⊢
  dsimp only at e ⊢
  cases e1:rchN n ps rs rt x true k with
  | page p ps' rs'=>rw [e1] at e; cases e
  | flt z' lv'=>rw [e1] at e; cases e; exact ⟨(Bv7 e1).1,rfl⟩
 | peek =>
  unfold doN at e ⊢
  dsimp only at e ⊢
  split at e
  ·cases e
  ·rename_i h
   rw [if_neg h]
   cases e
   exact ⟨by decide +kernel,rfl⟩
 | poke =>
  unfold doN at e ⊢
  dsimp only at e ⊢
  split at e
  ·cases e
  ·rename_i h
   rw [if_neg h]
   cases e
   exact ⟨by decide +kernel,rfl⟩
 | drop=>cases e
 | root=>cases e
 | give =>
  unfold doN at e
  dsimp only at e
  split at e <;> cases e
 | want =>
  unfold doN at e
  dsimp only at e
  split at e
  ·match bs,e with
   | [],e=>cases e
   | false::br,e=>cases e
   | true::br,e=>cases e
  ·cases e
theorem OtV.alk {H:Hp} {u v:V} {o:Ot} (h1:OtV H u o) (h2:OtV H v o) (hz:∀ z pl lv,o=.flt z pl lv->PyData.strOk z=true):Alk H u v:=by
 cases o with
 | non=>rw [show u=.non from h1,show v=.non from h2]; exact .non
 | int i=>rw [show u=.int i from h1,show v=.int i from h2]; exact .int i
 | bl b=>rw [show u=.bl b from h1,show v=.bl b from h2]; exact .bl b
 | flt z pl lv =>
  obtain ⟨t,rfl,e⟩:=h1
  obtain ⟨t2,rfl,e2⟩:=h2
  exact .flt (hz z pl lv rfl) e e2
end K28
end
section
namespace L2
open PySem PySem.Spec PyProof.Rows
section
variable {X : Cx} {e : Expr} {te : TEX} {pos : Pos}
def Db6 (i:Nat) (te:TEX):TSX:=λD E σ H=>te σ H (λv H1=>D.nx (σ.set i (some v)) H1) (E σ)
theorem Bw0 {i:Nat} {x:Str} {pos':Pos} (hN:X.N.Nodup) (hi:X.N[i]?=some x) (hx:Loc X.env.scope x) (he:PEX X e te) (hs:swapsWith e (some (.Name x pos')) pos.line X.env=pure false:=by rfl) (hf:X.fn x=true\/X.env.scope.names.lookup x=some .local:=by first | exact .inl rfl | exact .inr rfl | assumption):PSX X [.Assign [.Name x pos'] e pos] (Db6 i te):=by
 intro pins s σ H D E I h
 refine wpAny_execs_cons ?_
 refine wpAny_Assign_Name (wpAny_mono (he pins s σ H _ (E σ) I h) (λv s1 q=>?_) λx s1 q=>⟨σ,q⟩) hs
 obtain ⟨y,H1,I1,r1,q1⟩:=q
 exact An8 I1 hN hi hx r1 (λs2 I2=>wpAny_execs_nil (show SP X pins D .next s2 from ⟨_,H1,I2,q1⟩)) hf
end
end L2
end
section
namespace K28
open PySem L2
theorem Aw4 {ps:Pgs} {i j:Nat} {p:Addr} {ws:List Int} (g:Good ps) (e:ps[i]?=some (some (p,ws))) (hj:j<8):ws.getD j 0=((Ad8 ps i j:Nat):Int):=by
 obtain ⟨g1,g2⟩:=g i p ws e
 refine Ah4 e ?_
 have hl:j<ws.length:=by omega
 rw [List.getD,List.getElem?_eq_getElem hl]
 exact (g2 _ (List.getElem_mem hl)).1
theorem Ak7 {n:Int} {ps:Pgs} {rs:Rs} {rt pl p:Nat} {wr k:Bool} (e:remN ps rs pl wr k=some p):rchN n ps rs rt pl wr k=.page p ps rs:=by
 unfold rchN; rw [e]
theorem Ay7 {n:Int} {ps:Pgs} {rs:Rs} {rt pl lv:Nat} {wr k:Bool} {z:Str} (e:remN ps rs pl wr k=none) (e2:Ag9 ps rt pl wr k=.fault z lv):rchN n ps rs rt pl wr k=.flt z lv:=by
 unfold rchN; rw [e,e2]
theorem Ao7 {n:Int} {ps:Pgs} {rs:Rs} {rt pl p1 pg t l:Nat} {wr k:Bool} (e:remN ps rs pl wr k=none) (e2:Ag9 ps rt pl wr k=.trail p1 pg t l):rchN n ps rs rt pl wr k=.page pg (mkT ps rt pl p1 wr) (newR n rs pl pg t l wr):=by
 unfold rchN; rw [e,e2]
theorem Bk8 {n:Int} {x p:Nat} {v:Int} {k:Bool} {ps ps':Pgs} {rs rs':Rs} {rt:Nat} {bs:List Bool} (e:rchN n ps rs rt x false k=.page p ps' rs'):doN n .load x v k ps rs rt bs=⟨.int ((Ad8 ps' p (x % 8):Nat):Int),ps',rs',rt,bs⟩:=by
 unfold doN; dsimp only; rw [e]
theorem Bn9 {n:Int} {x lv:Nat} {v:Int} {k:Bool} {ps:Pgs} {rs:Rs} {rt:Nat} {bs:List Bool} {z:Str} (e:rchN n ps rs rt x false k=.flt z lv):doN n .load x v k ps rs rt bs=⟨.flt z x lv,ps,rs,rt,bs⟩:=by
 unfold doN; dsimp only; rw [e]
theorem Bk7 {n:Int} {x p:Nat} {v:Int} {k:Bool} {ps ps':Pgs} {rs rs':Rs} {rt:Nat} {bs:List Bool} (e:rchN n ps rs rt x true k=.page p ps' rs'):doN n .save x v k ps rs rt bs=⟨.non,setW ps' p (x % 8) v,rs',rt,bs⟩:=by
 unfold doN; dsimp only; rw [e]
theorem Bn6 {n:Int} {x lv:Nat} {v:Int} {k:Bool} {ps:Pgs} {rs:Rs} {rt:Nat} {bs:List Bool} {z:Str} (e:rchN n ps rs rt x true k=.flt z lv):doN n .save x v k ps rs rt bs=⟨.flt z x lv,ps,rs,rt,bs⟩:=by
 unfold doN; dsimp only; rw [e]
theorem Bz6 {n:Int} {x:Nat} {v:Int} {k:Bool} {ps:Pgs} {rs:Rs} {rt:Nat} {bs:List Bool} (e:hasP ps (.int ((x / 8:Nat):Int))=true):doN n .peek x v k ps rs rt bs=⟨.int ((Ad8 ps (x / 8) (x % 8):Nat):Int),ps,rs,rt,bs⟩:=by
 unfold doN; dsimp only; rw [if_pos e]
theorem Bn8 {n:Int} {x:Nat} {v:Int} {k:Bool} {ps:Pgs} {rs:Rs} {rt:Nat} {bs:List Bool} (e:hasP ps (.int ((x / 8:Nat):Int))=false):doN n .peek x v k ps rs rt bs=⟨.flt "beyond" x 0,ps,rs,rt,bs⟩:=by
 unfold doN; dsimp only; rw [if_neg (by rw [e]; decide)]
theorem Bz5 {n:Int} {x:Nat} {v:Int} {k:Bool} {ps:Pgs} {rs:Rs} {rt:Nat} {bs:List Bool} (e:hasP ps (.int ((x / 8:Nat):Int))=true):doN n .poke x v k ps rs rt bs=⟨.non,setW ps (x / 8) (x % 8) v,rs,rt,bs⟩:=by
 unfold doN; dsimp only; rw [if_pos e]
theorem Bn7 {n:Int} {x:Nat} {v:Int} {k:Bool} {ps:Pgs} {rs:Rs} {rt:Nat} {bs:List Bool} (e:hasP ps (.int ((x / 8:Nat):Int))=false):doN n .poke x v k ps rs rt bs=⟨.flt "beyond" x 0,ps,rs,rt,bs⟩:=by
 unfold doN; dsimp only; rw [if_neg (by rw [e]; decide)]
theorem Bz7 {n:Int} {x:Nat} {v:Int} {k:Bool} {ps:Pgs} {rs:Rs} {rt:Nat} {bs:List Bool} (e:hasP ps (.int (x:Int))=true):doN n .give x v k ps rs rt bs=⟨.bl true,ps.set x none,rs,rt,bs⟩:=by
 unfold doN; dsimp only; rw [if_pos e]
theorem Bo0 {n:Int} {x:Nat} {v:Int} {k:Bool} {ps:Pgs} {rs:Rs} {rt:Nat} {bs:List Bool} (e:hasP ps (.int (x:Int))=false):doN n .give x v k ps rs rt bs=⟨.bl false,ps,rs,rt,bs⟩:=by
 unfold doN; dsimp only; rw [if_neg (by rw [e]; decide)]
theorem As1 {n:Int} {x:Nat} {v:Int} {k:Bool} {ps:Pgs} {rs:Rs} {rt:Nat} {bs:List Bool} (e:¬ x<ps.length\/hasP ps (.int (x:Int))=true\/bs=[]):doN n .want x v k ps rs rt bs=⟨.bl false,ps,rs,rt,bs⟩:=by
 unfold doN
 dsimp only
 rcases e with e | e | e
 ·rw [if_neg (λz=>e z.1)]
 ·rw [if_neg (λz=>by rw [e] at z; cases z.2)]
 ·subst e
  split <;> rfl
theorem Bn5 {n:Int} {x:Nat} {v:Int} {k:Bool} {ps:Pgs} {rs:Rs} {rt:Nat} {br:List Bool} (e1:x<ps.length) (e2:hasP ps (.int (x:Int))=false):doN n .want x v k ps rs rt (false::br)=⟨.bl false,ps,rs,rt,br⟩:=by
 unfold doN; dsimp only; rw [if_pos ⟨e1,e2⟩]
theorem Bn4 {n:Int} {x:Nat} {v:Int} {k:Bool} {ps:Pgs} {rs:Rs} {rt:Nat} {br:List Bool} (e1:x<ps.length) (e2:hasP ps (.int (x:Int))=false):doN n .want x v k ps rs rt (true::br)=⟨.bl true,ps.set x (some (0,z8)),rs,rt,br⟩:=by
 unfold doN; dsimp only; rw [if_pos ⟨e1,e2⟩]
theorem Kpw.fr {H H':Hp} {a h r q aw:Addr} {ps ps':Pgs} (k:Kpw h q ps H H') (s:∀ b,At h ps' b->At h ps b):WFr H H' (Foot a h r q aw ps) (Foot a h r q aw ps'):=by
 refine ⟨λb o hb e=>k b o (λz=>hb (.inr (.inr (.inr (.inr z))))) (λz=>hb (.inr (.inr (.inl z)))) e,λb hb=>.inl ?_⟩
 rcases hb with z | z | z | z | z
 ·exact .inl z
 ·exact .inr (.inl z)
 ·exact .inr (.inr (.inl z))
 ·exact .inr (.inr (.inr (.inl z)))
 ·exact .inr (.inr (.inr (.inr (s b z))))
theorem Be2 {h b:Addr} {ps:Pgs} {rt pl p1:Nat} {wr:Bool} (x:At h (mkT ps rt pl p1 wr) b):At h ps b:=At.setW (At.setW x)
theorem Foot.put {a h r q aw b:Addr} {ps:Pgs} {o:Option (Addr×List Int)} {i:Nat} (x:Foot a h r q aw (ps.set i o) b):Foot a h r q aw ps b\/∃ ws,o=some (b,ws):=by
 rcases x with z | z | z | z | z
 ·exact .inl (.inl z)
 ·exact .inl (.inr (.inl z))
 ·exact .inl (.inr (.inr (.inl z)))
 ·exact .inl (.inr (.inr (.inr (.inl z))))
 ·rcases At.put z with y | y
  ·exact .inl (.inr (.inr (.inr (.inr y))))
  ·exact .inr y
def Bf7 (C SC PL FA:Addr):Sp:=λvs H Q E=>∃ (a m h r q aw:Addr) (ps:Pgs) (n:Int) (rs:Rs) (bs:List Bool) (rt:Nat) (t:Addr) (w:Wd) (x:Nat) (v:Int) (k:Bool),vs=[.ref a,.ref t]/\H t=some (.tup [.str (wS w),.int (x:Int),.int v,.bl k])/\Way C SC PL H a m h r q aw ps n rs bs (rt:Int)/\Rk n rs/\0<=v/\v<281474976710656 /\
 (∀ H' u,WStp C SC PL H a m h r q aw ps n (doN n w x v k ps rs rt bs) H'->OtV H' u (doN n w x v k ps rs rt bs).o->(∀ z pl lv,(doN n w x v k ps rs rt bs).o≠.flt z pl lv)->Q u H') /\
 (∀ z pl lv,(doN n w x v k ps rs rt bs).o=.flt z pl lv->∀ H',Same H H'->ExF FA E H' z pl lv)
def Cn1 (C SC PL:Addr):Sp:=λvs H Q _=>∃ (a m h r q aw:Addr) (ps:Pgs) (n:Int) (rs:Rs) (bs:List Bool) (rt:Nat) (t:Addr) (w:Wd) (x:Nat) (v:Int) (k:Bool),vs=[.ref a,.ref t]/\H t=some (.tup [.str (wS w),.int (x:Int),.int v,.bl k])/\Way C SC PL H a m h r q aw ps n rs bs (rt:Int)/\Rk n rs/\0<=v/\v<281474976710656 /\
 (∀ H' u,WStp C SC PL H a m h r q aw ps n (doN n w x v k ps rs rt bs) H'->OtV H' u (doN n w x v k ps rs rt bs).o->Q u H')
section
variable {P : Program} {w : World} {K : PySem.W.Frag} {mg : Str → Option Value} {base : Heap} {C NP NL NW NI SC PL WC FA : Addr}
theorem scCa:Ab5 ["_law_way","_law_deed_here","_law_word","_law_first","_law_second","_law_kernel"] ["_law_way","_law_deed_here"] (Aa1 At7):=FSc
theorem Ch9 {f f1 f2 f3 f4 f5 f6 f7 f8:Addr} {fd fd1 fd2 fd3 fd4 fd5 fd6 fd7 fd8:FuncData} (F:Fun K "_law_call" "_law_call" At7 f fd) (M1:Me K PL "load" "Ways.load" Bh2 ["self","place","kernel"] f1 fd1) (GM1:FnOk P w K mg base (CXr P w) 12 f1 fd1 ["self","place","kernel"] (Bu0 C SC PL FA)) (M2:Me K PL "save" "Ways.save" Bg4 ["self","place","word","kernel"] f2 fd2) (GM2:FnOk P w K mg base (CXr P w) 12 f2 fd2 ["self","place","word","kernel"] (Bt2 C SC PL FA)) (M3:Me K PL "peek" "Ways.peek" Bg8 ["self","spot"] f3 fd3) (GM3:FnOk P w K mg base (CXr P w) 8 f3 fd3 ["self","spot"] (Bt6 C SC PL FA)) (M4:Me K PL "poke" "Ways.poke" Bg7 ["self","spot","word"] f4 fd4) (GM4:FnOk P w K mg base (CXr P w) 8 f4 fd4 ["self","spot","word"] (Bt5 C SC PL FA)) (M5:Me K PL "turn_root" "Ways.turn_root" Bg2 ["self","root"] f5 fd5) (GM5:FnOk P w K mg base CX0 2 f5 fd5 ["self","root"] (Bt0 C SC PL)) (M6:Me K PL "drop" "Ways.drop" At1 ["self","place"] f6 fd6) (GM6:FnOk P w K mg base CX0 4 f6 fd6 ["self","place"] (Be7 C SC PL)) (M7:Me K PL "give" "Ways.give" At0 ["self","page"] f7 fd7) (GM7:FnOk P w K mg base CX0 7 f7 fd7 ["self","page"] (Be6 C SC PL)) (M8:Me K PL "want" "Ways.want" Bg0 ["self","page"] f8 fd8) (GM8:FnOk P w K mg base CX0 7 f8 fd8 ["self","page"] (Bs8 C SC PL)) (PC:Plc K PL):FnOk P w K mg base (CXr P w) 13 f fd ["_law_way","_law_deed_here"] (Bf7 C SC PL FA):=by
 refine F.okR scCa (λvs H Q E h'=>?_) (λcdv A outer s H vs Q E hr h'=>?_)
 ·obtain ⟨a,m,h,r,q,aw,ps,n,rs,bs,rt,t,w,x,v,k,rfl,_⟩:=h'
  rfl
 ·obtain ⟨a,m,h,r,q,aw,ps,n,rs,bs,rt,t,w,x,v,k,rfl,ht,W,rk,v0,v1,kq,kf⟩:=h'
  obtain ⟨dx,fs,ha,wf⟩:=W.ob
  have rn:=rk.rn
  have hl:rs.length<=12:=by have:=rk.ln; have:=W.S.n2; omega
  have hr8:Room 8 _:=hr.mono (by decide)
  have hr7:Room 7 _:=hr.mono (by decide)
  have hr4:Room 4 _:=hr.mono (by decide)
  have hr2:Room 2 _:=hr.mono (by decide)
  refine ⟨_,(Aa2 (Al3 (pv 1) (Aq9 rfl (Ae1 (Ad5 (i:=2) scCa.nd rfl (Or.inl rfl)) (Ae1 (Ad5 (i:=3) scCa.nd rfl (Or.inl rfl)) (Ae1 (Ad5 (i:=4) scCa.nd rfl (Or.inl rfl)) (Ae1 (Ad5 (i:=5) scCa.nd rfl (Or.inl rfl)) Al8)))))) (Aa2 (Ac8 (Ab6 Ae4 (pv 2) Ab8 (Ac0 _)) (Aa4 (Ab2 (Ac4 (pv 0) PC.cl M1.m GM1 hr M1.b .nil Ah8 (Aa0 (pv 3) (Aa0 (pv 5) Aa3))))) Ab0) (Aa2 (Ac8 (Ab6 Ae4 (pv 2) Ab8 (Ac0 _)) (Aa4 (Ab2 (Ac4 (pv 0) PC.cl M2.m GM2 hr M2.b .nil Ah8 (Aa0 (pv 3) (Aa0 (pv 4) (Aa0 (pv 5) Aa3)))))) Ab0) (Aa2 (Ac8 (Ab6 Ae4 (pv 2) Ab8 (Ac0 _)) (Aa4 (Ab2 (Ac4 (pv 0) PC.cl M3.m GM3 hr8 M3.b .nil Ah8 (Aa0 (pv 3) Aa3)))) Ab0) (Aa2 (Ac8 (Ab6 Ae4 (pv 2) Ab8 (Ac0 _)) (Aa4 (Ab2 (Ac4 (pv 0) PC.cl M4.m GM4 hr8 M4.b .nil Ah8 (Aa0 (pv 3) (Aa0 (pv 4) Aa3))))) Ab0) (Aa2 (Ac8 (Ab6 Ae4 (pv 2) Ab8 (Ac0 _)) (Aa4 (Ab2 (Ac4 (pv 0) PC.cl M5.m GM5 hr2 M5.b .nil Ac1 (Aa0 (pv 3) Aa3)))) Ab0) (Aa2 (Ac8 (Ab6 Ae4 (pv 2) Ab8 (Ac0 _)) (Aa4 (Ab2 (Ac4 (pv 0) PC.cl M6.m GM6 hr4 M6.b .nil Ac1 (Aa0 (pv 3) Aa3)))) Ab0) (Aa2 (Ac8 (Ab6 Ae4 (pv 2) Ab8 (Ac0 _)) (Aa4 (Ab2 (Ac4 (pv 0) PC.cl M7.m GM7 hr7 M7.b .nil Ac1 (Aa0 (pv 3) Aa3)))) Ab0) (Aa4 (Ab2 (Ac4 (pv 0) PC.cl M8.m GM8 hr7 M8.b .nil Ac1 (Aa0 (pv 3) Aa3)))))))))))),?_⟩
  refine ⟨_,rfl,t,_,rfl,SqT.of ht,rfl,_,_,rfl,_,_,rfl,_,_,rfl,_,_,rfl,rfl,?_⟩
  cases w with
  | load =>
   refine ⟨_,rfl,rfl,_,rfl,Ae7 (by decide +kernel) ?_⟩
   refine ⟨_,rfl,a,dx,fs,rfl,ha,wf.nq _,_,rfl,_,rfl,a,m,h,r,q,aw,ps,n,rs,bs,rt,x,k,rfl,W,hl,rn,λp hp H' s'=>?_,λhm=>⟨λz lv hz H' s'=>?_,λp1 pg t l hz H1 W1 kp H2 s2=>?_⟩⟩
   ·have e:=Bk8 (v:=v) (bs:=bs) (Ak7 (n:=n) (rt:=rt) hp)
    rw [e] at kq
    exact kq H' _ ⟨q,ps,W.same s',rfl,WFr.same s'⟩ rfl nofun
   ·have e:=Bn9 (v:=v) (bs:=bs) (Ay7 (n:=n) hm hz)
    rw [e] at kf
    exact kf _ _ _ rfl H' s'
   ·have e:=Bk8 (v:=v) (bs:=bs) (Ao7 (n:=n) hm hz)
    rw [e] at kq
    exact kq H2 _ ⟨q,_,W1.same s2,rfl,(kp.fr λb z=>Be2 (wr:=false) z).trans (WFr.same s2)⟩ rfl nofun
  | save =>
   refine ⟨_,rfl,rfl,_,rfl,Ac3 (by decide +kernel) ⟨_,rfl,rfl,_,rfl,Ae7 (by decide +kernel) ?_⟩⟩
   refine ⟨_,rfl,a,dx,fs,rfl,ha,wf.nq _,_,rfl,_,rfl,_,rfl,a,m,h,r,q,aw,ps,n,rs,bs,rt,x,v,k,rfl,W,hl,rn,v0,v1,λp hp H' W' kp=>?_,λhm=>⟨λz lv hz H' s'=>?_,λp1 pg t l hz H1 W1 kp H2 W2 kp2=>?_⟩⟩
   ·have e:=Bk7 (v:=v) (bs:=bs) (Ak7 (n:=n) (rt:=rt) hp)
    rw [e] at kq
    exact kq H' _ ⟨q,_,W',rfl,kp.fr λb z=>At.setW z⟩ rfl nofun
   ·have e:=Bn6 (v:=v) (bs:=bs) (Ay7 (n:=n) hm hz)
    rw [e] at kf
    exact kf _ _ _ rfl H' s'
   ·have e:=Bk7 (v:=v) (bs:=bs) (Ao7 (n:=n) hm hz)
    rw [e] at kq
    exact kq H2 _ ⟨q,_,W2,rfl,(kp.fr λb z=>Be2 (wr:=true) z).trans (kp2.fr λb z=>At.setW z)⟩ rfl nofun
  | peek =>
   refine ⟨_,rfl,rfl,_,rfl,Ac3 (by decide +kernel) ⟨_,rfl,rfl,_,rfl,Ac3 (by decide +kernel) ⟨_,rfl,rfl,_,rfl,Ae7 (by decide +kernel) ?_⟩⟩⟩
   have e8:((x:Int) / 8)=((x / 8:Nat):Int):=by omega
   refine ⟨_,rfl,a,dx,fs,rfl,ha,wf.nq _,_,rfl,a,m,h,r,q,aw,ps,n,rs,bs,(rt:Int),x,rfl,W,λp ws hp=>?_,λhp=>?_⟩
   ·have e:=Bz6 (n:=n) (v:=v) (k:=k) (rs:=rs) (rt:=rt) (bs:=bs) (Au8 hp)
    rw [e,<- Aw4 W.M.good hp (Nat.mod_lt _ (by decide))] at kq
    exact kq H _ ⟨q,ps,W,rfl,WFr.same (Same.refl _)⟩ rfl nofun
   ·rw [e8] at hp
    have e:=Bn8 (n:=n) (v:=v) (k:=k) (rs:=rs) (rt:=rt) (bs:=bs) hp
    rw [e] at kf
    exact kf _ _ _ rfl H (Same.refl _)
  | poke =>
   refine ⟨_,rfl,rfl,_,rfl,Ac3 (by decide +kernel) ⟨_,rfl,rfl,_,rfl,Ac3 (by decide +kernel) ⟨_,rfl,rfl,_,rfl,Ac3 (by decide +kernel) ⟨_,rfl,rfl,_,rfl,Ae7 (by decide +kernel) ?_⟩⟩⟩⟩
   have e8:((x:Int) / 8)=((x / 8:Nat):Int):=by omega
   refine ⟨_,rfl,a,dx,fs,rfl,ha,wf.nq _,_,rfl,_,rfl,a,m,h,r,q,aw,ps,n,rs,bs,(rt:Int),x,v,rfl,W,v0,v1,λp ws hp=>?_,λhp=>?_⟩
   ·have e:=Bz5 (n:=n) (v:=v) (k:=k) (rs:=rs) (rt:=rt) (bs:=bs) (Au8 hp)
    rw [e] at kq
    refine kq _ _ ⟨q,_,W.setW hp v0 v1,rfl,Kpw.fr (λb o n1 _ e=>?_) λb z=>At.setW z⟩ rfl nofun
    rw [Aa7 (λz=>n1 (by rw [z]; exact Cb5 hp))]
    exact e
   ·rw [e8] at hp
    have e:=Bn7 (n:=n) (v:=v) (k:=k) (rs:=rs) (rt:=rt) (bs:=bs) hp
    rw [e] at kf
    exact kf _ _ _ rfl H (Same.refl _)
  | root =>
   refine ⟨_,rfl,rfl,_,rfl,Ac3 (by decide +kernel) ⟨_,rfl,rfl,_,rfl,Ac3 (by decide +kernel) ⟨_,rfl,rfl,_,rfl,Ac3 (by decide +kernel) ⟨_,rfl,rfl,_,rfl,Ac3 (by decide +kernel) ⟨_,rfl,rfl,_,rfl,Ae7 (by decide +kernel) ?_⟩⟩⟩⟩⟩
   refine ⟨_,rfl,a,dx,fs,rfl,ha,wf.nq _,_,rfl,a,m,h,r,q,aw,ps,n,rs,bs,(rt:Int),(x:Int),rfl,W,λH' q' W' kp hq=>kq H' _ ⟨q',ps,W',rfl,⟨λb o nb e=>kp b o (λz=>nb (.inl z)) (λz=>nb (.inr (.inl z))) e,λb hb=>?_⟩⟩ rfl nofun⟩
   rcases hb with z | z | z | z | z
   ·exact .inl (.inl z)
   ·exact .inl (.inr (.inl z))
   ·exact .inr (by rw [z]; exact hq)
   ·exact .inl (.inr (.inr (.inr (.inl z))))
   ·exact .inl (.inr (.inr (.inr (.inr z))))
  | drop =>
   refine ⟨_,rfl,rfl,_,rfl,Ac3 (by decide +kernel) ⟨_,rfl,rfl,_,rfl,Ac3 (by decide +kernel) ⟨_,rfl,rfl,_,rfl,Ac3 (by decide +kernel) ⟨_,rfl,rfl,_,rfl,Ac3 (by decide +kernel) ⟨_,rfl,rfl,_,rfl,Ac3 (by decide +kernel) ⟨_,rfl,rfl,_,rfl,Ae7 (by decide +kernel) ?_⟩⟩⟩⟩⟩⟩
   refine ⟨_,rfl,a,dx,fs,rfl,ha,wf.nq _,_,rfl,a,m,h,r,q,aw,ps,n,rs,bs,(rt:Int),x,rfl,W,λhx=>?_,λH' W' bq hx=>?_⟩
   ·refine kq H _ ⟨q,ps,?_,rfl,WFr.same (Same.refl _)⟩ rfl nofun
    show Way C SC PL H a m h r q aw ps n (delR rs ((x / 8:Nat):Int)) bs (rt:Int)
    rw [rk.far (by omega)]
    exact W
   ·exact kq H' _ ⟨q,ps,W',rfl,Kpw.fr (λb o _ nq e=>bq b o nq e) λb z=>z⟩ rfl nofun
  | give =>
   refine ⟨_,rfl,rfl,_,rfl,Ac3 (by decide +kernel) ⟨_,rfl,rfl,_,rfl,Ac3 (by decide +kernel) ⟨_,rfl,rfl,_,rfl,Ac3 (by decide +kernel) ⟨_,rfl,rfl,_,rfl,Ac3 (by decide +kernel) ⟨_,rfl,rfl,_,rfl,Ac3 (by decide +kernel) ⟨_,rfl,rfl,_,rfl,Ac3 (by decide +kernel) ⟨_,rfl,rfl,_,rfl,Ae7 (by decide +kernel) ?_⟩⟩⟩⟩⟩⟩⟩
   refine ⟨_,rfl,a,dx,fs,rfl,ha,wf.nq _,_,rfl,a,m,h,r,q,aw,ps,n,rs,bs,(rt:Int),_,rfl,W,Th.int _,λhx=>?_,λi e1 hx=>?_⟩
   ·rw [Bo0 hx] at kq
    exact kq H _ ⟨q,ps,W,rfl,WFr.same (Same.refl _)⟩ rfl nofun
   ·cases Int.ofNat.inj (V.int.inj e1)
    rw [Bz7 hx] at kq
    refine kq _ _ ⟨q,_,W.put (o:=none) (Same.refl H) (λp ws e=>by cases e) (λp ws e=>by cases e),rfl,⟨λb o nb e=>?_,λb hb=>?_⟩⟩ rfl nofun
    ·rw [Aa7 (λz=>nb (.inr (.inr (.inr (.inr (.inl z))))))]
     exact e
    ·rcases Foot.put hb with z | ⟨ws,z⟩
     ·exact .inl z
     ·cases z
  | want =>
   refine ⟨_,rfl,rfl,_,rfl,Ac3 (by decide +kernel) ⟨_,rfl,rfl,_,rfl,Ac3 (by decide +kernel) ⟨_,rfl,rfl,_,rfl,Ac3 (by decide +kernel) ⟨_,rfl,rfl,_,rfl,Ac3 (by decide +kernel) ⟨_,rfl,rfl,_,rfl,Ac3 (by decide +kernel) ⟨_,rfl,rfl,_,rfl,Ac3 (by decide +kernel) ⟨_,rfl,rfl,_,rfl,Ac3 (by decide +kernel) ?_⟩⟩⟩⟩⟩⟩⟩
   refine ⟨_,rfl,a,dx,fs,rfl,ha,wf.nq _,_,rfl,a,m,h,r,q,aw,ps,n,rs,bs,(rt:Int),_,rfl,W,Th.int _,λhx=>?_,λhb hx br e=>?_,λi br e1 hi hx e l H1 s1 hl1=>?_⟩
   ·rw [As1 (by
     rcases hx with z | z | z
     ·refine .inl λy=>?_
      rw [Ae3 (by omega) (by omega)] at z
      cases z
     ·exact .inr (.inl z)
     ·exact .inr (.inr z))] at kq
    exact kq H _ ⟨q,ps,W,rfl,WFr.same (Same.refl _)⟩ rfl nofun
   ·subst e
    obtain ⟨i,e1,i0,i1⟩:=Ak2 hb
    cases V.int.inj e1
    rw [Bn5 (by omega) hx] at kq
    refine kq _ _ ⟨q,ps,W.ask br,rfl,⟨λb o nb e=>?_,λb hb=>.inl hb⟩⟩ rfl nofun
    rw [Aa7 (λz=>nb (.inr (.inr (.inr (.inl z)))))]
    exact e
   ·subst e
    cases Int.ofNat.inj (V.int.inj e1)
    rw [Bn4 hi hx] at kq
    have W1:=(W.ask br).put (i:=x) (o:=some (l,z8)) (s1.trans (Aa6 (o:=.lst (z8.map V.int)) hl1)) (λp ws e=>by cases e; exact ⟨upd_same,s1.free hl1⟩) (λp ws e=>by cases e; exact ⟨rfl,by decide⟩)
    have hl0:H l=none\/l=aw:=by
     by_cases z:l=aw
     ·exact .inr z
     ·left
      have:=s1.free hl1
      rw [Aa7 z] at this
      exact this
    refine kq _ _ ⟨q,_,W1,As2 rfl rfl,⟨λb o nb e=>?_,λb hb=>?_⟩⟩ rfl nofun
    ·have ne1:b≠h:=λz=>nb (.inr (.inr (.inr (.inr (.inl z)))))
     have ne2:b≠aw:=λz=>nb (.inr (.inr (.inr (.inl z))))
     rw [Aa7 ne1]
     refine Aa6 hl1 _ _ (s1 _ _ ?_)
     rw [Aa7 ne2]
     exact e
    ·rcases Foot.put hb with z | ⟨ws,z⟩
     ·exact .inl z
     ·cases z
      rcases hl0 with y | y
      ·exact .inr y
      ·exact .inl (.inr (.inr (.inr (.inl y))))
theorem scDo:Ab5 ["_law_way","_law_deed_here","_law_told","_law_fault","e"] ["_law_way","_law_deed_here"] (Aa1 sDoL):=FSc
theorem Cy9 {f f1 fI:Addr} {fd fd1:FuncData} (F:Fun K "_law_do" "_law_do" sDoL f fd) (D1:Dn K mg "_law_call" At7 ["_law_way","_law_deed_here"] f1 fd1) (G1:FnOk P w K mg base (CXr P w) 13 f1 fd1 ["_law_way","_law_deed_here"] (Bf7 C SC PL FA)) (FL:Flt K mg FA fI) (XF:PySem.W.exmOne K (.ref FA) (.ref FA)=some true):FnOk P w K mg base CX0 14 f fd ["_law_way","_law_deed_here"] (Cn1 C SC PL):=by
 refine F.ok scDo (λvs H Q E h'=>?_) (λcdv A outer s H vs Q E hr h'=>?_)
 ·obtain ⟨a,m,h,r,q,aw,ps,n,rs,bs,rt,t,w,x,v,k,rfl,_⟩:=h'
  rfl
 ·obtain ⟨a,m,h,r,q,aw,ps,n,rs,bs,rt,t,w,x,v,k,rfl,ht,W,rk,v0,v1,kq⟩:=h'
  refine ⟨_,(Aa2 (Ac5 (i:=2) scDo.nd rfl (Or.inl rfl) Ae8) (Aa2 (Ac5 (i:=3) scDo.nd rfl (Or.inl rfl) Ae8) (Aa2 (Ck6 (i:=4) scDo.nd rfl rfl rfl rfl FL.m (Bw0 (i:=2) scDo.nd rfl (Or.inl rfl) (Ce6 G1 hr (by rfl) D1.m D1.F.kp D1.b .nil (Aa0 (pv 0) (Aa0 (pv 1) Aa3)))) (λe=>(Aa4 (Ac5 (i:=3) scDo.nd rfl (Or.inl rfl) (Af5 (Aa8 Ab8 (Aa8 (Am5 (K:=K) rfl (pv 4) rfl) (Aa8 (Am5 (K:=K) rfl (pv 4) rfl) (Aa8 (Am5 (K:=K) rfl (pv 4) rfl) Aa3))))))))) (Aa2 (Ac8 (Ab6 Aq0 (pv 3) Ae8 (Ac0 _)) (Aa4 (Ab2 (pv 3))) Ab0) (Aa4 (Ab2 (pv 2))))))),?_⟩
  refine ⟨_,rfl,_,rfl,a,m,h,r,q,aw,ps,n,rs,bs,rt,t,w,x,v,k,rfl,ht,W,rk,v0,v1,λH' u W' ov nf=>?_,λz pl lv hz H1 s1 d hd=>⟨XF,λe he=>?_⟩⟩
  ·exact ⟨_,rfl,rfl,_,rfl,Ac3 rfl ⟨_,rfl,kq H' u W' ov⟩⟩
  ·have hand:∀ (H1:Hp) (z:Str) (lv:Int),Same H H1->∀ d,H1 d=none->∀ e,upd H1 d (xdo d (ffF [.str z,.int pl,.int lv])) e=none->upd (upd H1 d (xdo d (ffF [.str z,.int pl,.int lv]))) e (xob e (.ref FA) (some d)) e=some (xob e (.ref FA) (some d))/\upd (upd H1 d (xdo d (ffF [.str z,.int pl,.int lv]))) e (xob e (.ref FA) (some d)) d=some (xdo d (ffF [.str z,.int pl,.int lv]))/\Same H (upd (upd H1 d (xdo d (ffF [.str z,.int pl,.int lv]))) e (xob e (.ref FA) (some d))):=λH1 z lv s1 d hd e he=>by
    refine ⟨upd_same,?_,s1.trans ((Aa6 hd).trans (Aa6 he))⟩
    rw [Aa7 (Ac7 upd_same he)]
    exact upd_same
   obtain ⟨ze,zd,ss⟩:=hand H1 z lv s1 d hd e he
   exact ⟨_,rfl,e,FA,d,_,_,rfl,ze,zd,FL.x,FL.nk,Bn3 _ _ _,_,rfl,e,FA,d,_,_,rfl,ze,zd,FL.x,FL.np,Bd2 _ _ _,_,rfl,e,FA,d,_,_,rfl,ze,zd,FL.x,FL.nl,Bd3 _ _ _,  by show 4<=sizeLine; decide,λt ht=>⟨_,rfl,rfl,_,rfl,Ae7 (by show (!decide (V.ref t=V.non))=true; rw [decide_eq_false nofun]; rfl) ⟨_,rfl,kq _ _ (by rw [(Cl6 hz).2]; exact ⟨q,ps,W.same (ss.trans (Aa6 ht)),rfl,WFr.same (ss.trans (Aa6 ht))⟩) (by rw [hz]; exact ⟨t,rfl,upd_same⟩)⟩⟩⟩
end
end K28
end
section
namespace K28
open PySem L2
theorem Da9 {xs:List V} {i:Nat} (h:i<=xs.length):cutV xs none (some (i:Int))=xs.take i:=by
 unfold cutV
 rw [HT.sIx_none,HT.sIx_nat,List.drop_zero,Nat.sub_zero,Nat.min_eq_left h]
theorem Bo5 {xs:List V} {i:Nat} (h:i<=xs.length):cutV xs (some (i:Int)) none=xs.drop i:=by
 unfold cutV
 rw [HT.sIx_none,HT.sIx_nat,Nat.min_eq_left h,List.take_of_length_le (by rw [List.length_drop]; exact Nat.le_refl _)]
theorem Trs.take {H:Hp} {ys:List V} {rs:Rs} (h:Trs H ys rs):∀ j,Trs H (ys.take j) (rs.take j):=by
 induction h with
 | nil=>intro j; rw [List.take_nil,List.take_nil]; exact .nil
 | cons e _ ih =>
  intro j
  cases j with
  | zero=>exact .nil
  | succ j=>exact .cons e (ih j)
theorem Trs.drop {H:Hp} {ys:List V} {rs:Rs} (h:Trs H ys rs):∀ j,Trs H (ys.drop j) (rs.drop j):=by
 induction h with
 | nil=>intro j; rw [List.drop_nil,List.drop_nil]; exact .nil
 | cons e r ih =>
  intro j
  cases j with
  | zero=>exact .cons e r
  | succ j=>exact ih j
theorem Trs.both {H:Hp} {ys zs:List V} {rs us:Rs} (h:Trs H ys rs) (k:Trs H zs us):Trs H (ys++zs) (rs++us):=by
 induction h with
 | nil=>exact k
 | cons e _ ih=>exact .cons e ih
theorem Bm2:∀ {rs:Rs} {x y:Int×Int×Int} {j:Nat},rs[j]?=some y->y.1=x.1->(∀ i z,i<j->rs[i]?=some z->z.1≠x.1)->putR rs x=rs.take j++[x]++rs.drop (j+1)
 | [],x,y,j,e,_,_=>by simp at e
 | a::r,x,y,0,e,h,_=>by
  have e':a=y:=Option.some.inj e
  subst e'
  unfold putR
  rw [if_pos h]
  rfl
 | a::r,x,y,j+1,e,h,k=>by
  unfold putR
  rw [if_neg (k 0 a (Nat.zero_lt_succ _) rfl),Bm2 (rs:=r) (j:=j) e h (λi z hi e=>k (i+1) z (Nat.succ_lt_succ hi) e)]
  rfl
theorem Bb0:∀ {rs:Rs} {x:Int×Int×Int},(∀ i z,i<rs.length->rs[i]?=some z->z.1≠x.1)->putR rs x=rs++[x]
 | [],x,_=>rfl
 | a::r,x,k=>by
  unfold putR
  rw [if_neg (k 0 a (Nat.zero_lt_succ _) rfl),Bb0 (rs:=r) (λi z hi e=>k (i+1) z (Nat.succ_lt_succ hi) e)]
  rfl
theorem Cj1 {n:Int} {rs:Rs} {x y:Int×Int×Int} {j:Nat} (ln:(rs.length:Int)<=n) (e:rs[j]?=some y) (h:y.1=x.1) (k:∀ i z,i<j->rs[i]?=some z->z.1≠x.1):(Ai1 n rs x).1=rs.take j++[x]++rs.drop (j+1):=by
 have hj:j<rs.length:=(List.getElem?_eq_some_iff.mp e).1
 unfold Ai1
 rw [Bm2 e h k,if_pos]
 simp only [List.length_append,List.length_take,List.length_drop,List.length_cons,List.length_nil]
 omega
theorem By4 {n:Int} {rs:Rs} {x:Int×Int×Int} (n1:1<=n) (ln:(rs.length:Int)<=n) (k:∀ i z,i<rs.length->rs[i]?=some z->z.1≠x.1):(Ai1 n rs x).1=(rs++[x]).drop ((rs.length:Int)+1 - n).toNat:=by
 unfold Ai1
 rw [Bb0 k]
 have l1:(rs++[x]).length=rs.length+1:=by rw [List.length_append]; rfl
 by_cases h:((rs++[x]).length:Int)<=n
 ·rw [if_pos h,show ((rs.length:Int)+1 - n).toNat=0 by rw [l1] at h; omega]
  rfl
 ·rw [if_neg h,show ((rs.length:Int)+1 - n).toNat=1 by rw [l1] at h; omega]
  exact (List.drop_one (l:=rs++[x])).symm
def Bu2:Sp:=λvs H Q _=>∃ (R t:Addr) (n i p g:Int) (rs:Rs),vs=[.ref R,.int n,.ref t]/\TL H R rs/\H t=some (.tup [.int i,.int p,.int g])/\1<=n/\n<=12/\(rs.length:Int)<=n/\∀ l H',Same H H'->H l=none->TL H' l (Ai1 n rs (i,p,g)).1->Q (.ref l) H'
section
variable {P : Program} {w : World} {K : PySem.W.Frag} {mg : Str → Option Value} {base : Heap} {C NP NL NW NI SC PL WC FA : Addr}
theorem scKp:Ab5 ["_law_rows","_law_most","_law_row","_law_at"] ["_law_rows","_law_most","_law_row"] (Aa1 Bh4):=FSc
theorem Cr8 {f:Addr} {fd:FuncData} (F:Fun K "_law_kept" "_law_kept" Bh4 f fd) (T:Txt K mg) (ZM:mg "max"=none):FnOk P w K mg base CX0 1 f fd ["_law_rows","_law_most","_law_row"] Bu2:=by
 refine F.ok scKp (λvs H Q E h'=>?_) (λcdv A outer s H vs Q E hr h'=>?_)
 ·obtain ⟨R,t,n,i,p,g,rs,rfl,_⟩:=h'
  rfl
 ·obtain ⟨R,t,n,i,p,g,rs,rfl,tr,ht,n1,n2,ln,q⟩:=h'
  obtain ⟨ys,er,ty⟩:=tr.ls
  have ly:=ty.len
  have l12:rs.length<=12:=by omega
  refine ⟨_,(Aa2 (Ah9 PassesOwn.never rfl (Ak1 (by rfl) T.rng (Aa0 (Ac9 Ad2 (by rfl) T.len PySem.boot_len (Aa0 (pv 0) Aa3)) Aa3)) (Ad5 (i:=3) scKp.nd rfl (Or.inl rfl)) (Aa4 (Ac8 (Ab6 Ae4 (Ad3 Ad4 (Ad3 Ae2 (pv 0) (pv 3) (λ_ _=>rfl)) Aa5 (λ_ _=>rfl)) (Ad3 Ad4 (pv 2) Aa5 (λ_ _=>rfl)) (Ac0 _)) (Aa4 (Ab2 (Ab9 Bm6 (Ab9 Bm6 (Am6 Ap8 (pv 0) Au1 (An6 (pv 3))) (Ag1 (Aa0 (pv 2) Aa3))) (Am6 Ap8 (pv 0) (An6 (Ab9 Ag8 (pv 3) Aa5)) Au1)))) Ab0))) (Aa4 (Ab2 (Am6 Ap8 (Ab9 Bm6 (pv 0) (Ag1 (Aa0 (pv 2) Aa3))) (An6 (Ac9 (Ca9 rfl) (by rfl) ZM PyProof.Rows.boot_max (Aa0 Aa5 (Aa0 (Ab9 Av6 (Ab9 Ag8 (Ac9 Ad2 (by rfl) T.len PySem.boot_len (Aa0 (pv 0) Aa3)) Aa5) (pv 1)) Aa3)))) Au1)))),?_⟩
  refine ⟨_,rfl,R,_,rfl,.inl (SqL.of er),_,rfl,by omega,by omega,?_⟩
  rw [show ((ys.length:Int)).toNat=ys.length from Int.toNat_natCast _]
  refine Ap5 (lo:=0) (n:=ys.length) (λj σ H'=>H'=H/\(∃ v:Option V,σ=[some (.ref R),some (.int n),some (.ref t),v])/\∀ i' z,i'<j->rs[i']?=some z->z.1≠i) ⟨rfl,⟨_,rfl⟩,λi' z hi=>absurd hi (Nat.not_lt_zero _)⟩ ?_ ?_
  ·rintro j σ H' hj ⟨rfl,⟨v,rfl⟩,hm⟩
   rw [Int.zero_add]
   obtain ⟨y,hy⟩:∃ y,rs[j]?=some y:=⟨_,List.getElem?_eq_getElem (by omega)⟩
   obtain ⟨u,eu,hu⟩:=ty.get j y hy
   refine ⟨_,rfl,_,rfl,R,_,_,.ref u,rfl,rfl,SqL.of er,Aj1 eu,u,_,_,.int y.1,rfl,rfl,SqT.of hu,rfl,_,rfl,t,_,_,.int i,rfl,rfl,SqT.of ht,rfl,rfl,_,rfl,ite2 (λz=>?_) (λz=>?_)⟩
   ·have e1:y.1=i:=V.int.inj (of_decide_eq_true z)
    refine ⟨_,rfl,_,rfl,(j:Int),rfl,R,_,rfl,SqL.of er,λp1 hp1=>?_⟩
    rw [Da9 (by omega)]
    have s1:=Aa6 (o:=.lst (ys.take j)) hp1
    have z1:upd H' p1 (.lst (ys.take j)) p1=some (.lst (ys.take j)):=upd_same
    generalize upd H' p1 (.lst (ys.take j))=H1 at *
    refine ⟨_,rfl,by show 1<=sizeLine; decide,λp2 hp2=>?_⟩
    have s2:=Aa6 (o:=.lst [.ref t]) hp2
    have z2:upd H1 p2 (.lst [.ref t]) p2=some (.lst [.ref t]):=upd_same
    have z12:=s2 _ _ z1
    generalize upd H1 p2 (.lst [.ref t])=H2 at *
    have sl:sizeLine=sizeLine:=rfl
    refine ⟨p1,p2,_,_,rfl,rfl,z12,z2,by rw [List.length_take]; exact Nat.le_trans (show min j ys.length+1<=25 by omega) (by decide),λp3 hp3=>?_⟩
    have s3:=Aa6 (o:=.lst (ys.take j++[.ref t])) hp3
    have z3:upd H2 p3 (.lst (ys.take j++[.ref t])) p3=some (.lst (ys.take j++[.ref t])):=upd_same
    generalize upd H2 p3 (.lst (ys.take j++[.ref t]))=H3 at *
    refine ⟨_,rfl,_,rfl,_,1,rfl,rfl,_,rfl,R,_,rfl,SqL.of ((s1.trans (s2.trans s3)) _ _ er),λp4 hp4=>?_⟩
    rw [show ((j:Int)+1)=((j+1:Nat):Int) from rfl,Bo5 (by omega)]
    have s4:=Aa6 (o:=.lst (ys.drop (j+1))) hp4
    have z4:upd H3 p4 (.lst (ys.drop (j+1))) p4=some (.lst (ys.drop (j+1))):=upd_same
    have z34:=s4 _ _ z3
    generalize upd H3 p4 (.lst (ys.drop (j+1)))=H4 at *
    refine ⟨p3,p4,_,_,rfl,rfl,z34,z4,by rw [List.length_append,List.length_take,List.length_drop]; exact Nat.le_trans (show min j ys.length+1+(ys.length - (j+1))<=25 by omega) (by decide),λp5 hp5=>?_⟩
    have s14:=s1.trans (s2.trans (s3.trans s4))
    have s5:=Aa6 (o:=.lst (ys.take j++[.ref t]++ys.drop (j+1))) hp5
    have s15:=s14.trans s5
    refine q p5 _ s15 (s14.free hp5) ?_
    rw [Cj1 ln hy e1 hm]
    refine ⟨⟨_,upd_same,?_⟩⟩
    have ty5:=ty.imp λt xs z=>s15 _ _ z
    exact ((ty5.take j).both (.cons (s15 _ _ ht) .nil)).both (ty5.drop (j+1))
   ·refine ⟨rfl,⟨_,rfl⟩,λi' z' hi e=>?_⟩
    by_cases ej:i'=j
    ·subst ej
     rw [hy] at e
     cases e
     exact λy'=>z (decide_eq_true (congrArg V.int y'))
    ·exact hm i' z' (by omega) e
  ·rintro σ H' ⟨rfl,⟨v,rfl⟩,hm⟩
   rw [ly] at hm
   refine ⟨_,rfl,_,rfl,by show 1<=sizeLine; decide,λp2 hp2=>?_⟩
   have s2:=Aa6 (o:=.lst [.ref t]) hp2
   have z2:upd H' p2 (.lst [.ref t]) p2=some (.lst [.ref t]):=upd_same
   have er2:=s2 _ _ er
   generalize upd H' p2 (.lst [.ref t])=H2 at *
   refine ⟨R,p2,_,_,rfl,rfl,er2,z2,Nat.le_trans (show ys.length+1<=25 by omega) (by decide),λp3 hp3=>?_⟩
   have s3:=Aa6 (o:=.lst (ys++[.ref t])) hp3
   have z3:upd H2 p3 (.lst (ys++[.ref t])) p3=some (.lst (ys++[.ref t])):=upd_same
   have er3:=s3 _ _ er2
   generalize upd H2 p3 (.lst (ys++[.ref t]))=H3 at *
   refine ⟨_,rfl,R,_,rfl,.inl (SqL.of er3),_,1,rfl,rfl,_,rfl,_,n,rfl,rfl,0,_,rfl,_,rfl,p3,_,rfl,SqL.of z3,λp4 hp4=>?_⟩
   obtain ⟨d,hd⟩:∃ d:Nat,(if (ys.length:Int)+1 - n > 0 then (ys.length:Int)+1 - n else 0)=(d:Int):=⟨((rs.length:Int)+1 - n).toNat,by rw [ly]; split <;> omega⟩
   have hd2:d=((rs.length:Int)+1 - n).toNat:=by rw [ly] at hd; split at hd <;> omega
   rw [hd,Bo5 (by rw [List.length_append]; show d<=ys.length+1; omega)]
   have s23:=s2.trans s3
   have s4:=Aa6 (o:=.lst ((ys++[V.ref t]).drop d)) hp4
   have s24:=s23.trans s4
   refine q p4 _ s24 (s23.free hp4) ?_
   rw [By4 n1 ln hm,<- hd2]
   refine ⟨⟨_,upd_same,?_⟩⟩
   have ty5:=ty.imp λt xs z=>s24 _ _ z
   exact (ty5.both (.cons (s24 _ _ ht) .nil)).drop d
end
end K28
end
section
namespace K28
open PySem L2
theorem Cl8 {h b:Addr} {ps:Pgs} {i j:Nat} {w:Int} (x:At h ps b):At h (setW ps i j w) b:=by
 rcases x with rfl | ⟨k,ws,e⟩
 ·exact .inl rfl
 ·by_cases hk:i=k
  ·subst hk
   rw [Ak4 e]
   exact .inr ⟨i,_,List.getElem?_set_self (List.getElem?_eq_some_iff.mp e).1⟩
  ·refine .inr ⟨k,ws,?_⟩
   unfold setW
   rw [List.getElem?_set_ne hk]
   exact e
theorem Db1 {h b:Addr} {ps:Pgs} {rt pl p1:Nat} {wr:Bool} (x:At h ps b):At h (mkT ps rt pl p1 wr) b:=Cl8 (Cl8 x)
theorem Bs5 {D R L:Addr} {rt:Nat} {n:Int}:valV (stD D R rt n L) (Sum.inr "pages")=some (.ref D):=rfl
theorem Cc4 {D R L:Addr} {rt:Nat} {n:Int}:valV (stD D R rt n L) (Sum.inr "rows")=some (.ref R):=rfl
theorem Cc5 {D R L:Addr} {rt:Nat} {n:Int}:valV (stD D R rt n L) (Sum.inr "root")=some (.int (rt:Int)):=rfl
theorem Cc7 {D R L:Addr} {rt:Nat} {n:Int}:valV (stD D R rt n L) (Sum.inr "most")=some (.int n):=rfl
theorem Cc6 {D R L:Addr} {rt:Nat} {n:Int}:valV (stD D R rt n L) (Sum.inr "rest")=some (.ref L):=rfl
theorem Bs6 {D R R' L:Addr} {rt:Nat} {n:Int}:putK (stD D R rt n L) (Sum.inr "rows") (.ref R')=stD D R' rt n L:=rfl
theorem Bs7 {D R L:Addr} {rt rt':Nat} {n:Int}:putK (stD D R rt n L) (Sum.inr "root") (.int (rt':Int))=stD D R rt' n L:=rfl
theorem Lw.pages {H:Hp} {sd D R L:Addr} {qs:Pgs} {n:Int} {rs:Rs} {bs:List Bool} {rt:Nat} (w:Lw H sd D R L qs n rs bs rt):DGet H sd (.str "pages") (some (.ref D)):=by
 have:=DGet.k (k:=Sum.inr "pages") w.d
 rw [Bs5] at this
 exact this
theorem Lw.rows {H:Hp} {sd D R L:Addr} {qs:Pgs} {n:Int} {rs:Rs} {bs:List Bool} {rt:Nat} (w:Lw H sd D R L qs n rs bs rt):DGet H sd (.str "rows") (some (.ref R)):=by
 have:=DGet.k (k:=Sum.inr "rows") w.d
 rw [Cc4] at this
 exact this
theorem Lw.root {H:Hp} {sd D R L:Addr} {qs:Pgs} {n:Int} {rs:Rs} {bs:List Bool} {rt:Nat} (w:Lw H sd D R L qs n rs bs rt):DGet H sd (.str "root") (some (.int (rt:Int))):=by
 have:=DGet.k (k:=Sum.inr "root") w.d
 rw [Cc5] at this
 exact this
theorem Lw.most {H:Hp} {sd D R L:Addr} {qs:Pgs} {n:Int} {rs:Rs} {bs:List Bool} {rt:Nat} (w:Lw H sd D R L qs n rs bs rt):DGet H sd (.str "most") (some (.int n)):=by
 have:=DGet.k (k:=Sum.inr "most") w.d
 rw [Cc7] at this
 exact this
theorem Lw.rest {H:Hp} {sd D R L:Addr} {qs:Pgs} {n:Int} {rs:Rs} {bs:List Bool} {rt:Nat} (w:Lw H sd D R L qs n rs bs rt):DGet H sd (.str "rest") (some (.ref L)):=by
 have:=DGet.k (k:=Sum.inr "rest") w.d
 rw [Cc6] at this
 exact this
theorem Lw.putRows {H:Hp} {sd D R R' L:Addr} {qs:Pgs} {n:Int} {rs:Rs} {bs:List Bool} {rt:Nat} (w:Lw H sd D R L qs n rs bs rt):DPut H sd (.str "rows") (.ref R') (upd H sd (.dK (stD D R' rt n L))):=by
 have:=DPut.k (k:=Sum.inr "rows") (v:=.ref R') w.d (by show 5<sizeLine; decide)
 rw [Bs6] at this
 exact this
theorem Lw.putRoot {H:Hp} {sd D R L:Addr} {qs:Pgs} {n:Int} {rs:Rs} {bs:List Bool} {rt rt':Nat} (w:Lw H sd D R L qs n rs bs rt):DPut H sd (.str "root") (.int (rt':Int)) (upd H sd (.dK (stD D R rt' n L))):=by
 have:=DPut.k (k:=Sum.inr "root") (v:=.int (rt':Int)) w.d (by show 5<sizeLine; decide)
 rw [Bs7] at this
 exact this
theorem TL.keep {H H':Hp} {R:Addr} {rs:Rs} (t:TL H R rs) (h1:∀ xs,H R=some (.lst xs)->H' R=some (.lst xs)) (h2:∀ b xs,H b=some (.tup xs)->H' b=some (.tup xs)):TL H' R rs:=by
 obtain ⟨ys,e,y⟩:=t.ls
 exact ⟨ys,h1 _ e,y.imp h2⟩
theorem Lw.dict {H:Hp} {sd D R R' L:Addr} {qs:Pgs} {n:Int} {rs rs':Rs} {bs:List Bool} {rt rt':Nat} (w:Lw H sd D R L qs n rs bs rt) (t:TL H R' rs') (n1:¬ At D qs R') (n2:R'≠L):Lw (upd H sd (.dK (stD D R' rt' n L))) sd D R' L qs n rs' bs rt':=by
 refine ⟨upd_same,w.g.keep λb hb=>Aa7 λz=>?_,w.gd,t.keep (λxs e=>?_) (λb xs e=>?_),?_,w.nL,n1,n2⟩
 ·subst z
  obtain ⟨xs,e⟩:=Aj0 w.g hb
  rw [w.d] at e; cases e
 ·rw [Aa7 (Af1 e w.d (by intro z; cases z))]; exact e
 ·rw [Aa7 (Af1 e w.d (by intro z; cases z))]; exact e
 ·rw [Aa7 (Af1 w.l w.d (by intro z; cases z))]; exact w.l
theorem Lw.dictF {H:Hp} {sd D L:Addr} {qs:Pgs} {o:HO}:WFr H (upd H sd o) (Ah3 sd D L qs) (Ah3 sd D L qs):=⟨λb o nb e=>by rw [Aa7 (λz=>nb (.inl z))]; exact e,λb hb=>.inl hb⟩
theorem Lw.pagesK {H H':Hp} {sd D R L:Addr} {qs qs':Pgs} {n:Int} {rs:Rs} {bs:List Bool} {rt:Nat} (w:Lw H sd D R L qs n rs bs rt) (kp:Kpt D qs H H') (g:Pg H' D qs') (gd:Good qs') (at':∀ b,At D qs' b->At D qs b):Lw H' sd D R L qs' n rs bs rt:=by
 have ns:¬ At D qs sd:=λz=>by
  obtain ⟨xs,e⟩:=Aj0 w.g z
  rw [w.d] at e; cases e
 have nt:∀ b xs,H b=some (.tup xs)->¬ At D qs b:=λb xs e z=>by
  obtain ⟨ys,e2⟩:=Aj0 w.g z
  rw [e] at e2; cases e2
 exact ⟨kp _ _ ns w.d,g,gd,w.t.keep (λxs e=>kp _ _ w.nR.1 e) (λb xs e=>kp _ _ (nt b xs e) e),kp _ _ w.nL w.l,λz=>w.nL (at' _ z),λz=>w.nR.1 (at' _ z),w.nR.2⟩
theorem Kpt.lf {H H':Hp} {sd D L:Addr} {qs qs':Pgs} (kp:Kpt D qs H H') (at':∀ b,At D qs' b->At D qs b):WFr H H' (Ah3 sd D L qs) (Ah3 sd D L qs'):=by
 refine ⟨λb o nb e=>kp b o (λz=>nb (.inr (.inr z))) e,λb hb=>.inl ?_⟩
 rcases hb with z | z | z
 ·exact .inl z
 ·exact .inr (.inl z)
 ·exact .inr (.inr (at' b z))
theorem Lw.mfoot {H:Hp} {sd D L R:Addr} {qs:Pgs} {n:Int} {rs:Rs} {bs:List Bool} {rt:Nat} (w:Lw H sd D R L qs n rs bs rt) {l:Addr} (h:H l=none):¬ At D qs l/\l≠L:=by
 refine ⟨λz=>?_,λz=>?_⟩
 ·obtain ⟨xs,e⟩:=Aj0 w.g z
  rw [h] at e; cases e
 ·rw [z,w.l] at h; cases h
def Bl6:Sp:=λvs H Q _=>∃ (sd D R L:Addr) (qs:Pgs) (n:Int) (rs:Rs) (bs:List Bool) (rt pl:Nat) (wr k:Bool),vs=[.ref sd,.int (pl:Int),.bl wr,.bl k]/\Lw H sd D R L qs n rs bs rt/\Rk n rs/\1<=n/\n<=12 /\
 (∀ p qs' rs',rchN n qs rs rt pl wr k=.page p qs' rs'->∀ H' R',Lw H' sd D R' L qs' n rs' bs rt->WFr H H' (Ah3 sd D L qs) (Ah3 sd D L qs')->(R'=R\/H R'=none)->Q (.int (p:Int)) H') /\
 (∀ z lv,rchN n qs rs rt pl wr k=.flt z lv->∀ H' t,Same H H'->H' t=some (.tup [.str "fault",.str z,.int (pl:Int),.int (lv:Int)])->Q (.ref t) H')
theorem Bx7 {qs:Pgs} {i j m:Nat} (g:Good qs) (h:hasP qs (.int (i:Int))=true) (hm:m<256) (hj:j<8):Good (mkN qs i j m):=by
 obtain ⟨i',p,ws,e1,e⟩:=Ag4 h
 cases Int.ofNat.inj (V.int.inj e1)
 have hw:=Aw4 g e hj
 obtain ⟨g1,g2⟩:=g i p ws e
 have hl:j<ws.length:=by omega
 have lt:Ad8 qs i j<2 ^ 48:=by
  have:=(g2 (ws.getD j 0) (by rw [List.getD,List.getElem?_eq_getElem hl]; exact List.getElem_mem hl)).2
  omega
 have lt2:Ad8 qs i j ||| m<2 ^ 48:=Nat.or_lt_two_pow lt (by omega)
 exact g.setW e (by omega) (by omega)
section
variable {P : Program} {w : World} {K : PySem.W.Frag} {mg : Str → Option Value} {base : Heap} {C NP NL NW NI SC PL WC FA : Addr}
theorem scRe:Ab5 ["_law_state","_law_place_here","_law_write","_law_kernel","_law_pages_here","_law_number","_law_page","_law_rights","_law_trail"] ["_law_state","_law_place_here","_law_write","_law_kernel"] (Aa1 Ba6):=FSc
theorem Cq6 {f f1 f2 f3 f4:Addr} {fd fd1 fd2 fd3 fd4:FuncData} (F:Fun K "_law_reached" "_law_reached" Ba6 f fd) (D1:Dn K mg "_law_there" Ao1 ["_law_pages_here","_law_page"] f1 fd1) (G1:FnOk P w K mg base CX0 1 f1 fd1 ["_law_pages_here","_law_page"] As4) (D2:Dn K mg "_law_walk" As9 ["_law_root","_law_pages_here","_law_place_here","_law_write","_law_kernel"] f2 fd2) (G2:FnOk P w K mg base CX0 2 f2 fd2 ["_law_root","_law_pages_here","_law_place_here","_law_write","_law_kernel"] Be4) (D3:Dn K mg "_law_marked" sMkd ["_law_pages_here","_law_trail","_law_write"] f3 fd3) (G3:FnOk P w K mg base CX0 1 f3 fd3 ["_law_pages_here","_law_trail","_law_write"] Cm7) (D4:Dn K mg "_law_kept" Bh4 ["_law_rows","_law_most","_law_row"] f4 fd4) (G4:FnOk P w K mg base CX0 1 f4 fd4 ["_law_rows","_law_most","_law_row"] Bu2) (T:Txt K mg):FnOk P w K mg base CX0 3 f fd ["_law_state","_law_place_here","_law_write","_law_kernel"] Bl6:=by
 refine F.ok scRe (λvs H Q E h'=>?_) (λcdv A outer s H vs Q E hr h'=>?_)
 ·obtain ⟨sd,D,R,L,qs,n,rs,bs,rt,pl,wr,k,rfl,_⟩:=h'
  rfl
 ·obtain ⟨sd,D,R,L,qs,n,rs,bs,rt,pl,wr,k,rfl,w0,rk,n1,n2,kp,kf⟩:=h'
  obtain ⟨ys,er,ty⟩:=w0.t.ls
  have ly:=ty.len
  have hr1:Room 1 _:=hr.mono (by decide)
  refine ⟨_,(Aa2 (Ac5 (i:=4) scRe.nd rfl (Or.inl rfl) (Ag5 (Aj3 hr) (pv 0) Ab8 (by intro _ _; rfl))) (Aa2 (Ah9 PassesOwn.never rfl (Af9 (Ag5 (Aj3 hr) (pv 0) Ab8 (by intro _ _; rfl))) (Aq9 rfl (Ae1 (Ad5 (i:=5) scRe.nd rfl (Or.inl rfl)) (Ae1 (Ad5 (i:=6) scRe.nd rfl (Or.inl rfl)) (Ae1 (Ad5 (i:=7) scRe.nd rfl (Or.inl rfl)) Al8)))) (Aa4 (Ac8 (PW.pt (Ah1 (Ab6 Ae4 (Ab9 Aj8 (pv 5) Aa5) (Ab9 Aj8 (Ab9 Ad9 (pv 1) Aa5) Aa5) (Ac0 _)) (Ah1 (Ad1 (Ab3 G1 hr1 (by rfl) D1.m D1.F.kp D1.b .nil Ac1 (Aa0 (pv 4) (Aa0 (pv 6) Aa3)))) (Af8 (PW.pt (Al7 (Ad1 (pv 3)) (Ai5 (Ab6 Bb5 (Ab9 Ad0 (pv 7) Aa5) Aa5 (Ac0 _))))))))) (Aa4 (Ac8 (PW.pt (Al7 (Ae0 (Ad1 (pv 2))) (Ai5 (PW.pt (Ah1 (Ab6 Cx5 (pv 7) Aa5 (Ac0 _)) (Af8 (Ab6 Ae4 (Ab9 Ad0 (pv 7) Aa5) Aa5 (Ac0 _)))))))) (Aa4 (Ab2 (pv 6))) Ab0)) Ab0))) (Aa2 (Ac5 (i:=8) scRe.nd rfl (Or.inl rfl) (Ab3 G2 hr (by rfl) D2.m D2.F.kp D2.b .nil Ac1 (Aa0 (Ag5 (Aj3 hr) (pv 0) Ab8 (by intro _ _; rfl)) (Aa0 (pv 4) (Aa0 (pv 1) (Aa0 (pv 2) (Aa0 (pv 3) Aa3))))))) (Aa2 (Ac8 (Ab6 (Bm5 hr.units) (Ad3 Ad4 (pv 8) Aa5 (λ_ _=>rfl)) Ab8 (Ac0 _)) (Aa4 (Ab2 (pv 8))) Ab0) (Aa2 (Ac5 (i:=7) scRe.nd rfl (Or.inl rfl) (Ab3 G3 hr1 (by rfl) D3.m D3.F.kp D3.b .nil Ac1 (Aa0 (pv 4) (Aa0 (pv 8) (Aa0 (pv 2) Aa3))))) (Aa2 (Au0 (Aj3 hr) (pv 0) Ab8 (Ab3 G4 hr1 (by rfl) D4.m D4.F.kp D4.b .nil Ac1 (Aa0 (Ag5 (Aj3 hr) (pv 0) Ab8 (by intro _ _; rfl)) (Aa0 (Ag5 (Aj3 hr) (pv 0) Ab8 (by intro _ _; rfl)) (Aa0 (Af5 (Aa0 (Ab9 Ad9 (pv 1) Aa5) (Aa0 (Ad3 Ad4 (pv 8) Aa5 (λ_ _=>rfl)) (Aa0 (pv 7) Aa3)))) Aa3)))) rfl) (Aa4 (Ab2 (Ad3 Ad4 (pv 8) Aa5 (λ_ _=>rfl)))))))))),?_⟩
  refine ⟨_,rfl,sd,_,rfl,w0.pages,?_⟩
  refine ⟨_,rfl,sd,_,rfl,w0.rows,R,rfl,⟨_,SqL.of er⟩,Ah0 (K:=K) (a:=R) (xs:=ys) (λi σ H'=>H'=H/\(∃ v5 v6 v7:Option V,σ=[some (.ref sd),some (.int (pl:Int)),some (.bl wr),some (.bl k),some (.ref D),v5,v6,v7,none])/\∀ j x,j<i->rs[j]?=some x->hitN qs pl wr k x=false) ?_ ?_ ?_ ?_⟩
  ·exact ⟨rfl,⟨_,_,_,rfl⟩,λj x hj=>absurd hj (Nat.not_lt_zero _)⟩
  ·rintro i σ H' _ ⟨rfl,_⟩
   exact SqL.of er
  ·rintro i y σ H' hi ⟨rfl,⟨v5,v6,v7,rfl⟩,hm⟩
   have hil:i<rs.length:=by rw [<- ly]; exact (List.getElem?_eq_some_iff.mp hi).1
   have ex:rs[i]?=some rs[i]:=List.getElem?_eq_getElem hil
   obtain ⟨t,e1,e2⟩:=ty.get i rs[i] ex
   rw [hi] at e1
   cases e1
   have hx:=List.getElem_mem hil
   generalize rs[i]=x at *
   obtain ⟨i',p,g,rfl,hi64,hg⟩:=rk.ok x hx
   have nxt:hitN qs pl wr k ((i':Int),(p:Int),(g:Int))=false->∀ j x,j<i+1->rs[j]?=some x->hitN qs pl wr k x=false:=λhh j x hj e=>by
    by_cases ej:j=i
    ·subst ej
     rw [ex] at e
     cases e
     exact hh
    ·exact hm j x (by omega) e
   refine ⟨t,_,rfl,SqT.of e2,rfl,_,_,rfl,_,_,rfl,_,_,rfl,rfl,?_⟩
   have there:Af4 qs[p]?=hasP qs (.int (p:Int)):=(Af7 p).symm
   refine ⟨_,rfl,(i':Int),8,rfl,rfl,.inr ⟨by decide,by decide⟩,_,rfl,(pl:Int),8,rfl,rfl,⟨by decide,by decide⟩,_,8,rfl,rfl,.inr ⟨by decide,by decide⟩,rfl,_,rfl,ite2 (λc1=>?_) (λc1=>?_)⟩
   ·have d1:decide ((i':Int) * 8=(pl:Int) / 8 * 8)=true:=decide_eq_true (V.int.inj (of_decide_eq_true c1))
    refine ⟨_,rfl,_,rfl,D,qs,p,rfl,w0.g,_,rfl,ite2 (λc2=>?_) (λc2=>?_)⟩
    ·rw [there] at c2
     have d2:hasP qs (.int (p:Int))=true:=c2
     cases k with
     | true =>
      refine ⟨_,rfl,_,rfl,iteT (iteT ?_)⟩
      cases wr with
      | false=>exact ⟨_,rfl,_,rfl,iteT (iteT ⟨_,rfl,kp p qs rs (Ak7 (by obtain ⟨p2,e5,e6⟩:=Ay6 (qs:=qs) (pl:=pl) (wr:=false) (k:=true) rk hx (by unfold hitN; dsimp only; rw [d1,d2]; rfl); cases Int.ofNat.inj e5; exact e6)) H' R w0 (WFr.same (Same.refl _)) (.inl rfl)⟩)⟩
      | true =>
       refine ⟨_,rfl,_,rfl,iteF ⟨_,rfl,(g:Int),16,rfl,rfl,_,rfl,ite2 (λc4=>?_) (λc4=>?_)⟩⟩
       ·refine ⟨_,rfl,(g:Int),4,rfl,rfl,(by show (0:Int)<4; decide),rfl,_,rfl,ite2 (λc5=>?_) (λc5=>?_)⟩
        ·have d4:decide ((16:Int)<=(g:Int))=true:=c4
         have d5:decide ((g:Int) % 4=2)=true:=decide_eq_true (V.int.inj (of_decide_eq_true c5))
         exact ⟨_,rfl,kp p qs rs (Ak7 (by obtain ⟨p2,e5,e6⟩:=Ay6 (qs:=qs) (pl:=pl) (wr:=true) (k:=true) rk hx (by unfold hitN; dsimp only; rw [d1,d2,d4,d5]; rfl); cases Int.ofNat.inj e5; exact e6)) H' R w0 (WFr.same (Same.refl _)) (.inl rfl)⟩
        ·have d5:decide ((g:Int) % 4=2)=false:=decide_eq_false λz=>c5 (decide_eq_true (congrArg V.int z))
         exact ⟨rfl,⟨_,_,_,rfl⟩,nxt (by unfold hitN; dsimp only; rw [d5]; simp)⟩
       ·have d4:decide ((16:Int)<=(g:Int))=false:=by simpa using c4
        exact ⟨rfl,⟨_,_,_,rfl⟩,nxt (by unfold hitN; dsimp only; rw [d4]; simp)⟩
     | false =>
      refine ⟨_,rfl,_,rfl,iteF ⟨_,rfl,(g:Int),8,rfl,rfl,(by show (0:Int)<8; decide),_,4,rfl,rfl,_,rfl,ite2 (λc3=>?_) (λc3=>?_)⟩⟩
      ·have d3:decide ((g:Int) % 8<4)=true:=c3
       cases wr with
       | false=>exact ⟨_,rfl,_,rfl,iteT (iteT ⟨_,rfl,kp p qs rs (Ak7 (by obtain ⟨p2,e5,e6⟩:=Ay6 (qs:=qs) (pl:=pl) (wr:=false) (k:=false) rk hx (by unfold hitN; dsimp only; rw [d1,d2,d3]; rfl); cases Int.ofNat.inj e5; exact e6)) H' R w0 (WFr.same (Same.refl _)) (.inl rfl)⟩)⟩
       | true =>
        refine ⟨_,rfl,_,rfl,iteF ⟨_,rfl,(g:Int),16,rfl,rfl,_,rfl,ite2 (λc4=>?_) (λc4=>?_)⟩⟩
        ·refine ⟨_,rfl,(g:Int),4,rfl,rfl,(by show (0:Int)<4; decide),rfl,_,rfl,ite2 (λc5=>?_) (λc5=>?_)⟩
         ·have d4:decide ((16:Int)<=(g:Int))=true:=c4
          have d5:decide ((g:Int) % 4=2)=true:=decide_eq_true (V.int.inj (of_decide_eq_true c5))
          exact ⟨_,rfl,kp p qs rs (Ak7 (by obtain ⟨p2,e5,e6⟩:=Ay6 (qs:=qs) (pl:=pl) (wr:=true) (k:=false) rk hx (by unfold hitN; dsimp only; rw [d1,d2,d3,d4,d5]; rfl); cases Int.ofNat.inj e5; exact e6)) H' R w0 (WFr.same (Same.refl _)) (.inl rfl)⟩
         ·have d5:decide ((g:Int) % 4=2)=false:=decide_eq_false λz=>c5 (decide_eq_true (congrArg V.int z))
          exact ⟨rfl,⟨_,_,_,rfl⟩,nxt (by unfold hitN; dsimp only; rw [d5]; simp)⟩
        ·have d4:decide ((16:Int)<=(g:Int))=false:=by simpa using c4
         exact ⟨rfl,⟨_,_,_,rfl⟩,nxt (by unfold hitN; dsimp only; rw [d4]; simp)⟩
      ·have d3:decide ((g:Int) % 8<4)=false:=by simpa using c3
       exact ⟨rfl,⟨_,_,_,rfl⟩,nxt (by unfold hitN; dsimp only; rw [d3]; simp)⟩
    ·rw [there] at c2
     have d2:hasP qs (.int (p:Int))=false:=by simpa using c2
     exact iteF ⟨rfl,⟨_,_,_,rfl⟩,nxt (by unfold hitN; dsimp only; rw [d2]; simp)⟩
   ·have d1:decide ((i':Int) * 8=(pl:Int) / 8 * 8)=false:=decide_eq_false λz=>c1 (decide_eq_true (congrArg V.int z))
    exact iteF ⟨rfl,⟨_,_,_,rfl⟩,nxt (by unfold hitN; dsimp only; rw [d1]; simp)⟩
  ·rintro σ H' ⟨rfl,⟨v5,v6,v7,rfl⟩,hm⟩
   have hr0:remN qs rs pl wr k=none:=Cd9 rk λx hx=>by
    obtain ⟨j,hj⟩:=List.getElem?_of_mem hx
    exact hm j x (by rw [ly]; exact (List.getElem?_eq_some_iff.mp hj).1) hj
   refine ⟨_,rfl,sd,_,rfl,w0.root,_,rfl,_,rfl,_,rfl,_,rfl,D,qs,rt,pl,wr,k,rfl,w0.g,w0.gd,λz lv hz t H1 s1 _ zt=>?_,λp1 pg tw lw hz tt t1 t2 H1 s1 ztt zt1 zt2=>?_⟩
   ·exact ⟨_,rfl,t,_,_,.str "fault",rfl,rfl,SqT.of zt,rfl,_,_,.str _,.str _,(by decide +kernel),(by decide +kernel),_,rfl,Ae7 (by simp [PyData.eqv]) ⟨_,rfl,kf z lv (Ay7 hr0 hz) H1 t s1 zt⟩⟩
   ·obtain ⟨hpl,hr1',hp1,hpg,_,_,_,_,_,_⟩:=Ai4 hz
    have w1:=w0.same s1
    refine ⟨_,rfl,tt,_,_,.ref t1,rfl,rfl,SqT.of ztt,rfl,_,_,.tup (SqT.of zt1) (.cons (.int _) (.cons (.int _) .nil)),.str _,(by simp [SeqAt.shaped,PyData.canLay0,PyData.canLayAll0,PyData.depth,PyData.depthAll]),(by decide +kernel),_,rfl,Ac3 (by simp [PyData.eqv]) ?_⟩
    refine ⟨_,rfl,_,rfl,_,rfl,D,tt,t1,t2,qs,rt,pl / 8 / 8,p1,pl / 8 % 8,pg,tw,lw,wr,rfl,w1.g,w1.gd,ztt,zt1,zt2,hr1',hp1,by omega,by omega,λH2 g2 kp2=>?_⟩
    have gm:Good (mkT qs rt pl p1 wr):=Bx7 (Bx7 w0.gd hr1' (by decide) (by omega)) (by rw [Ai2]; exact hp1) (by cases wr <;> decide) (by omega)
    have w2:Lw H2 sd D R L (mkT qs rt pl p1 wr) n rs bs rt:=w1.pagesK kp2 g2 gm λb z=>Be2 z
    have ztt2:H2 tt=some (.tup [.ref t1,.ref t2,.int (pg:Int),.int ((rigN tw lw:Nat):Int)]):=kp2 _ _ (λz=>by
     obtain ⟨xs,e⟩:=Aj0 w1.g z
     rw [ztt] at e; cases e) ztt
    refine ⟨_,rfl,sd,_,rfl,w2.rows,_,rfl,sd,_,rfl,w2.most,_,rfl,(pl:Int),8,rfl,rfl,⟨by decide,by decide⟩,_,rfl,tt,_,_,.int (pg:Int),rfl,rfl,SqT.of ztt2,rfl,_,rfl,by show 3<=sizeLine; decide,λt3 ht3=>?_⟩
    dsimp only
    rw [show ((pl:Int) / 8)=((pl / 8:Nat):Int) by omega]
    have s3:=Aa6 (o:=.tup [V.int ((pl / 8:Nat):Int),V.int (pg:Int),V.int ((if wr then rigN tw lw ||| 16 else rigN tw lw:Nat):Int)]) ht3
    have z3:upd H2 t3 (.tup [V.int ((pl / 8:Nat):Int),V.int (pg:Int),V.int ((if wr then rigN tw lw ||| 16 else rigN tw lw:Nat):Int)]) t3=some (.tup [V.int ((pl / 8:Nat):Int),V.int (pg:Int),V.int ((if wr then rigN tw lw ||| 16 else rigN tw lw:Nat):Int)]):=upd_same
    generalize upd H2 t3 (.tup [V.int ((pl / 8:Nat):Int),V.int (pg:Int),V.int ((if wr then rigN tw lw ||| 16 else rigN tw lw:Nat):Int)])=H3 at *
    have w3:=w2.same s3
    refine ⟨R,t3,n,_,_,_,rs,rfl,w3.t,z3,n1,n2,rk.ln,λl H4 s4 hl tl=>?_⟩
    have w4:=w3.same s4
    have ml:=w3.mfoot hl
    refine ⟨_,rfl,sd,_,rfl,w4.putRows,?_⟩
    have w5:=w4.dict (rt':=rt) tl ml.1 ml.2
    refine ⟨_,rfl,tt,_,_,.int (pg:Int),rfl,rfl,SqT.of (by rw [Aa7 (Af1 (s4 _ _ (s3 _ _ ztt2)) w4.d (by intro z; cases z))]; exact s4 _ _ (s3 _ _ ztt2)),rfl,?_⟩
    refine kp pg _ _ (Ao7 hr0 hz) _ l w5 ?_ (.inr ?_)
    ·exact ((WFr.same s1).trans (kp2.lf λb z=>Be2 z)).trans ((WFr.same (s3.trans s4)).trans Lw.dictF)
    ·cases e:H' l with
     | none=>rfl
     | some o =>
      by_cases ha:At D qs l
      ·exact absurd (Db1 ha) ml.1
      ·rw [s3 _ _ (kp2 _ _ ha (s1 _ _ e))] at hl
       cases hl
end
end K28
end
section
namespace K28
open PySem L2
theorem Cj8 (rs:Rs) (y:Int×Int×Int) (k:Int):delR (rs++[y]) k=delR rs k++(if y.1=k then [] else [y]):=by
 unfold delR
 rw [List.filter_append]
 congr 1
 by_cases e:y.1=k
 ·rw [if_pos e]; simp [e]
 ·rw [if_neg e]; simp [e]
theorem Bv8 {n:Int} {qs:Pgs} {rs:Rs} {rt pl p:Nat} {wr k:Bool} {qs':Pgs} {rs':Rs} (rk:Rk n rs) (e:rchN n qs rs rt pl wr k=.page p qs' rs'):hasP qs' (.int (p:Int))=true:=by
 unfold rchN at e
 split at e
 ·rename_i e1
  cases e
  exact (Bi2 rk.rn e1).2
 ·split at e
  ·cases e
  ·rename_i e2
   cases e
   unfold mkT
   rw [Ai2,Ai2]
   exact (Ai4 e2).2.2.2.1
theorem Lw.pg {H:Hp} {sd D R L:Addr} {qs:Pgs} {n:Int} {rs:Rs} {bs:List Bool} {rt i:Nat} (w:Lw H sd D R L qs n rs bs rt) (h:hasP qs (.int (i:Int))=true):∃ p ws,qs[i]?=some (some (p,ws))/\ws.length=8/\H p=some (.lst (ws.map V.int))/\atI (qs.map pgV) (i:Int)=some (.ref p)/\i<qs.length:=by
 obtain ⟨i',p,ws,e1,e⟩:=Ag4 h
 cases Int.ofNat.inj (V.int.inj e1)
 have lq:i<qs.length:=(List.getElem?_eq_some_iff.mp e).1
 obtain ⟨o,ho,ha⟩:=Aw2 (ps:=qs) (i:=i) lq
 rw [e] at ho
 cases ho
 exact ⟨p,ws,e,(w.gd i p ws e).1,(w.g.each i p ws e).1,ha,lq⟩
theorem Lw.setW {H:Hp} {sd D R L p:Addr} {qs:Pgs} {n:Int} {rs:Rs} {bs:List Bool} {rt i j:Nat} {v:Int} {ws:List Int} (w:Lw H sd D R L qs n rs bs rt) (e:qs[i]?=some (some (p,ws))) (v0:0<=v) (v1:v<281474976710656) :
  Lw (upd H p (.lst ((ws.map V.int).set j (.int v)))) sd D R L (setW qs i j v) n rs bs rt/\WFr H (upd H p (.lst ((ws.map V.int).set j (.int v)))) (Ah3 sd D L qs) (Ah3 sd D L (setW qs i j v)):=by
 have kp:Kpt D qs H (upd H p (.lst ((ws.map V.int).set j (.int v)))):=λb o nb e'=>by
  rw [Aa7 (λz=>nb (by rw [z]; exact Cb5 e))]
  exact e'
 exact ⟨w.pagesK kp (w.g.setW e) (w.gd.setW e v0 v1) λb z=>At.setW z,kp.lf λb z=>At.setW z⟩
theorem Lw.put {H H2:Hp} {sd D R L:Addr} {qs:Pgs} {n:Int} {rs:Rs} {bs:List Bool} {rt i:Nat} {o:Option (Addr×List Int)} (w:Lw H sd D R L qs n rs bs rt) (s2:Same H H2) (hn:∀ (p:Addr) (ws:List Int),o=some (p,ws)->H2 p=some (.lst (ws.map V.int))/\H p=none) (hg:∀ (p:Addr) (ws:List Int),o=some (p,ws)->ws.length=8/\∀ w ∈ ws,0<=w/\w<281474976710656) :
  Lw (upd H2 D (.lst ((qs.map pgV).set i (pgV o)))) sd D R L (qs.set i o) n rs bs rt/\WFr H (upd H2 D (.lst ((qs.map pgV).set i (pgV o)))) (Ah3 sd D L qs) (Ah3 sd D L (qs.set i o)):=by
 have w2:=w.same s2
 have nD:∀ b,¬ At D qs b->b≠D:=λb h z=>h (.inl z)
 have nsd:sd≠D:=Af1 w.d w.g.top (by intro z; cases z)
 have k:∀ b o',b≠D->H2 b=some o'->upd H2 D (.lst ((qs.map pgV).set i (pgV o))) b=some o':=λb o' nb e=>by rw [Aa7 nb]; exact e
 have out:∀ b,(∃ o',H b=some o')->¬ At D qs b->¬ At D (qs.set i o) b:=λb ⟨o',e⟩ nb z=>by
  rcases At.put z with y | ⟨ws,y⟩
  ·exact nb y
  ·rw [(hn b ws y).2] at e; cases e
 obtain ⟨ys,er,ty⟩:=w.t.ls
 refine ⟨⟨k _ _ nsd w2.d,w.g.put s2 hn,w.gd.put hg,w2.t.keep (λxs e=>k _ _ (nD _ w.nR.1) e) (λb xs e=>k _ _ (Af1 e w2.g.top (by intro z; cases z)) e),k _ _ (nD _ w.nL) w2.l,out _ ⟨_,w.l⟩ w.nL,out _ ⟨_,er⟩ w.nR.1,w.nR.2⟩,⟨λb o' nb e=>k _ _ (λz=>nb (.inr (.inr (.inl z)))) (s2 _ _ e),λb hb=>?_⟩⟩
 rcases hb with z | z | z
 ·exact .inl (.inl z)
 ·exact .inl (.inr (.inl z))
 ·rcases At.put z with y | ⟨ws,y⟩
  ·exact .inl (.inr (.inr y))
  ·exact .inr (hn b ws y).2
theorem Lw.pop {H:Hp} {sd D R L:Addr} {qs:Pgs} {n:Int} {rs:Rs} {bs br:List Bool} {rt:Nat} (w:Lw H sd D R L qs n rs bs rt):Lw (upd H L (.lst (br.map V.bl))) sd D R L qs n rs br rt/\WFr H (upd H L (.lst (br.map V.bl))) (Ah3 sd D L qs) (Ah3 sd D L qs):=by
 have k:∀ b o',b≠L->H b=some o'->upd H L (.lst (br.map V.bl)) b=some o':=λb o' nb e=>by rw [Aa7 nb]; exact e
 exact ⟨⟨k _ _ (Af1 w.d w.l (by intro z; cases z)) w.d,w.g.keep λb hb=>Aa7 (λz=>w.nL (by rw [<- z]; exact hb)),w.gd,w.t.keep (λxs e=>k _ _ w.nR.2 e) (λb xs e=>k _ _ (Af1 e w.l (by intro z; cases z)) e),upd_same,w.nL,w.nR⟩,⟨λb o nb e=>k _ _ (λz=>nb (.inr (.inl z))) e,λb hb=>.inl hb⟩⟩
def Bu6:Sp:=λvs H Q _=>∃ (sd D R L:Addr) (qs:Pgs) (n:Int) (rs:Rs) (bs:List Bool) (rt:Nat) (t:Addr) (w:Wd) (x:Nat) (v:Int) (k:Bool),vs=[.ref sd,.ref t]/\H t=some (.tup [.str (wS w),.int (x:Int),.int v,.bl k])/\Lw H sd D R L qs n rs bs rt/\Rk n rs/\1<=n/\n<=12/\0<=v/\v<281474976710656 /\
 (∀ H' u,LStp H sd D R L qs n (doN n w x v k qs rs rt bs) H'->OtV H' u (doN n w x v k qs rs rt bs).o->Q u H')
def Cn2:Sp:=λvs H Q E=>∃ (sd D R L:Addr) (qs:Pgs) (n:Int) (rs:Rs) (bs:List Bool) (rt:Nat) (t:Addr) (w:Wd) (x:Nat) (v:Int) (k:Bool),vs=[.ref sd,.ref t]/\(w=.load\/w=.save)/\H t=some (.tup [.str (wS w),.int (x:Int),.int v,.bl k])/\Lw H sd D R L qs n rs bs rt/\Rk n rs/\1<=n/\n<=12/\0<=v/\v<281474976710656 /\
 (∀ H' u,LStp H sd D R L qs n (doN n w x v k qs rs rt bs) H'->OtV H' u (doN n w x v k qs rs rt bs).o->Q u H')
section
variable {P : Program} {w : World} {K : PySem.W.Frag} {mg : Str → Option Value} {base : Heap} {C NP NL NW NI SC PL WC FA : Addr}
theorem scAp:Ab5 ["_law_state","_law_deed_here","_law_word","_law_place_here","_law_saved","_law_kernel","_law_page"] ["_law_state","_law_deed_here"] (Aa1 sAtP):=FSc
theorem Cz1 {f f1:Addr} {fd fd1:FuncData} (F:Fun K "_law_at_place" "_law_at_place" sAtP f fd) (D1:Dn K mg "_law_reached" Ba6 ["_law_state","_law_place_here","_law_write","_law_kernel"] f1 fd1) (G1:FnOk P w K mg base CX0 3 f1 fd1 ["_law_state","_law_place_here","_law_write","_law_kernel"] Bl6) (T:Txt K mg) (TU:mg "tuple"=none):FnOk P w K mg base CX0 4 f fd ["_law_state","_law_deed_here"] Cn2:=by
 refine F.ok scAp (λvs H Q E h'=>?_) (λcdv A outer s H vs Q E hr h'=>?_)
 ·obtain ⟨sd,D,R,L,qs,n,rs,bs,rt,t,w,x,v,k,rfl,_⟩:=h'
  rfl
 ·obtain ⟨sd,D,R,L,qs,n,rs,bs,rt,t,w,x,v,k,rfl,hw,ht,w0,rk,n1,n2,v0,v1,kq⟩:=h'
  have l8:(x:Int) % 8=((x % 8:Nat):Int):=by omega
  have j8:x % 8<8:=Nat.mod_lt _ (by decide)
  refine ⟨_,(Aa2 (Al3 (pv 1) (Aq9 rfl (Ae1 (Ad5 (i:=2) scAp.nd rfl (Or.inl rfl)) (Ae1 (Ad5 (i:=3) scAp.nd rfl (Or.inl rfl)) (Ae1 (Ad5 (i:=4) scAp.nd rfl (Or.inl rfl)) (Ae1 (Ad5 (i:=5) scAp.nd rfl (Or.inl rfl)) Al8)))))) (Aa2 (Ac5 (i:=6) scAp.nd rfl (Or.inl rfl) (Ab3 G1 hr (by rfl) D1.m D1.F.kp D1.b .nil Ac1 (Aa0 (pv 0) (Aa0 (pv 3) (Aa0 (Af6 Ae4 (pv 2) Ab8 (Ac0 _)) (Aa0 (pv 5) Aa3)))))) (Aa2 (Ac8 (Ad1 (Ac9 Al0 (by rfl) T.isi PyProof.Rows.boot_isinstance (Aa0 (pv 6) (Aa0 (Ag0 (by rfl) TU PyProof.Rows.boot_tuple (show RelV (.ty "tuple") (.type "tuple") from rfl)) Aa3)))) (Aa4 (Ab2 (pv 6))) Ab0) (Aa2 (Ac8 (Ab6 Ae4 (pv 2) Ab8 (Ac0 _)) (Aa4 (Ab2 (Ad3 Ae2 (Ad3 Ae2 (Ag5 (Aj3 hr) (pv 0) Ab8 (by intro _ _; rfl)) (pv 6) (λ_ _=>rfl)) (Ab9 Ad0 (pv 3) Aa5) (λ_ _=>rfl)))) Ab0) (Aa2 (Al3 (pv 4) (Ap2 (Ad3 Ae2 (Ag5 (Aj3 hr) (pv 0) Ab8 (by intro _ _; rfl)) (pv 6) (λ_ _=>rfl)) (Ab9 Ad0 (pv 3) Aa5) Ai0)) (Aa4 (Ab2 Ae8))))))),?_⟩
  refine ⟨_,rfl,t,_,rfl,SqT.of ht,rfl,_,_,rfl,_,_,rfl,_,_,rfl,_,_,rfl,rfl,?_⟩
  rcases hw with rfl | rfl
  ·refine ⟨_,rfl,_,rfl,_,rfl,rfl,_,rfl,?_⟩
   rw [show decide (V.str (wS .load)=V.str "save")=false by decide +kernel]
   refine ⟨sd,D,R,L,qs,n,rs,bs,rt,x,false,k,rfl,w0,rk,n1,n2,λp qs' rs' e H1 R1 w1 f1 hR=>?_,λz lv e H1 t1 s1 z1=>?_⟩
   ·obtain ⟨pa,ws,ep,w8,zp,ha,lq⟩:=w1.pg (Bv8 rk e)
    refine ⟨_,rfl,_,rfl,.int _,_,rfl,Ac3 rfl ⟨_,rfl,rfl,_,rfl,Ae7 (by decide +kernel) ⟨_,rfl,sd,_,rfl,w1.pages,_,rfl,D,_,_,_,rfl,rfl,SqL.of w1.g.top,ha,_,rfl,(x:Int),8,rfl,rfl,(by show (0:Int)<8; decide),?_⟩⟩⟩
    dsimp only
    rw [l8]
    refine ⟨pa,_,_,_,rfl,rfl,SqL.of zp,Al2 (by omega),?_⟩
    rw [Bk8 e] at kq
    refine kq H1 _ ⟨R1,qs',w1,rfl,f1,hR⟩ ?_
    show V.int _=V.int _
    rw [Aw4 w1.gd ep j8]
   ·rw [Bn9 e] at kq
    exact ⟨_,rfl,_,rfl,.tup z1,_,rfl,Ae7 (by simp only [Aq1,z1]) ⟨_,rfl,kq H1 _ ⟨R,qs,w0.same s1,rfl,WFr.same s1,.inl rfl⟩ ⟨t1,rfl,z1⟩⟩⟩
  ·refine ⟨_,rfl,_,rfl,_,rfl,rfl,_,rfl,?_⟩
   rw [show decide (V.str (wS .save)=V.str "save")=true by decide +kernel]
   refine ⟨sd,D,R,L,qs,n,rs,bs,rt,x,true,k,rfl,w0,rk,n1,n2,λp qs' rs' e H1 R1 w1 f1 hR=>?_,λz lv e H1 t1 s1 z1=>?_⟩
   ·obtain ⟨pa,ws,ep,w8,zp,ha,lq⟩:=w1.pg (Bv8 rk e)
    refine ⟨_,rfl,_,rfl,.int _,_,rfl,Ac3 rfl ⟨_,rfl,rfl,_,rfl,Ac3 (by decide +kernel) ⟨_,rfl,_,rfl,sd,_,rfl,w1.pages,_,rfl,D,_,_,_,rfl,rfl,SqL.of w1.g.top,ha,_,rfl,(x:Int),8,rfl,rfl,(by show (0:Int)<8; decide),?_⟩⟩⟩
    dsimp only
    rw [l8]
    refine ⟨pa,_,_,x % 8,rfl,rfl,zp,Am2 (by rw [List.length_map]; omega),?_⟩
    rw [Bk7 e] at kq
    obtain ⟨w2,f2⟩:=w1.setW (j:=x % 8) ep v0 v1
    exact kq _ _ ⟨R1,_,w2,rfl,f1.trans f2,hR⟩ rfl
   ·rw [Bn6 e] at kq
    exact ⟨_,rfl,_,rfl,.tup z1,_,rfl,Ae7 (by simp only [Aq1,z1]) ⟨_,rfl,kq H1 _ ⟨R,qs,w0.same s1,rfl,WFr.same s1,.inl rfl⟩ ⟨t1,rfl,z1⟩⟩⟩
theorem De1 {b:Bool} {br:List Bool}:PyData.eqv (.list ((b::br).map PyData.bool)) (.list ([].map PyData.bool))=false:=by
 simp only [PyData.eqv,List.map_cons,List.map_nil,PyData.eqvAll]
theorem scDu:Ab5 ["_law_state","_law_deed_here","_law_word","_law_first","_law_second","_law_kernel","_law_pages_here","_law_found"] ["_law_state","_law_deed_here"] (Aa1 Bh7):=FSc
theorem ndDu:(Ar5 "_law_row" ["_law_state","_law_deed_here","_law_word","_law_first","_law_second","_law_kernel","_law_pages_here","_law_found"]).Nodup:=by decide +kernel
theorem De7:(".0":Str) ∉ (["_law_state","_law_deed_here","_law_word","_law_first","_law_second","_law_kernel","_law_pages_here","_law_found"]:List Str):=by decide +kernel
theorem Cs2 {f f1 f2:Addr} {fd fd1 fd2:FuncData} (F:Fun K "_law_due" "_law_due" Bh7 f fd) (D1:Dn K mg "_law_at_place" sAtP ["_law_state","_law_deed_here"] f1 fd1) (G1:FnOk P w K mg base CX0 4 f1 fd1 ["_law_state","_law_deed_here"] Cn2) (D2:Dn K mg "_law_there" Ao1 ["_law_pages_here","_law_page"] f2 fd2) (G2:FnOk P w K mg base CX0 1 f2 fd2 ["_law_pages_here","_law_page"] As4) (T:Txt K mg):FnOk P w K mg base CX0 5 f fd ["_law_state","_law_deed_here"] Bu6:=by
 refine F.ok scDu (λvs H Q E h'=>?_) (λcdv A outer s H vs Q E hr h'=>?_)
 ·obtain ⟨sd,D,R,L,qs,n,rs,bs,rt,t,w,x,v,k,rfl,_⟩:=h'
  rfl
 ·obtain ⟨sd,D,R,L,qs,n,rs,bs,rt,t,w,x,v,k,rfl,ht,w0,rk,n1,n2,v0,v1,kq⟩:=h'
  have l8:(x:Int) % 8=((x % 8:Nat):Int):=by omega
  have d8:(x:Int) / 8=((x / 8:Nat):Int):=by omega
  have j8:x % 8<8:=Nat.mod_lt _ (by decide)
  have l12:rs.length<=12:=by have:=rk.ln; omega
  have hr1:Room 1 _:=hr.mono (by decide)
  refine ⟨_,(Aa2 (Al3 (pv 1) (Aq9 rfl (Ae1 (Ad5 (i:=2) scDu.nd rfl (Or.inl rfl)) (Ae1 (Ad5 (i:=3) scDu.nd rfl (Or.inr rfl)) (Ae1 (Ad5 (i:=4) scDu.nd rfl (Or.inl rfl)) (Ae1 (Ad5 (i:=5) scDu.nd rfl (Or.inl rfl)) Al8)))))) (Aa2 (Ac5 (i:=6) scDu.nd rfl (Or.inl rfl) (Ag5 (Aj3 hr) (pv 0) Ab8 (by intro _ _; rfl))) (Aa2 (Ac8 (PW.pt (Al7 (Ab6 Ae4 (pv 2) Ab8 (Ac0 _)) (Ai5 (Ab6 Ae4 (pv 2) Ab8 (Ac0 _))))) (Aa4 (Ab2 (Ab3 G1 hr (by rfl) D1.m D1.F.kp D1.b .nil Ac1 (Aa0 (pv 0) (Aa0 (pv 1) Aa3))))) Ab0) (Aa2 (Ac8 (PW.pt (Al7 (Ab6 Ae4 (pv 2) Ab8 (Ac0 _)) (Ai5 (Ab6 Ae4 (pv 2) Ab8 (Ac0 _))))) (Aa2 (Ac8 (Ae0 (Ad1 (Ab3 G2 hr1 (by rfl) D2.m D2.F.kp D2.b .nil Ac1 (Aa0 (pv 6) (Aa0 (Ab9 Ad9 (pv 3) Aa5) Aa3))))) (Aa4 (Ab2 (Af5 (Aa8 Ab8 (Aa8 Ab8 (Aa8 (pv 3) (Aa8 Aa5 Aa3))))))) Ab0) (Aa2 (Ac8 (Ab6 Ae4 (pv 2) Ab8 (Ac0 _)) (Aa4 (Ab2 (Ad3 Ae2 (Ad3 Ae2 (pv 6) (Ab9 Ad9 (pv 3) Aa5) (λ_ _=>rfl)) (Ab9 Ad0 (pv 3) Aa5) (λ_ _=>rfl)))) Ab0) (Aa2 (Al3 (pv 4) (Ap2 (Ad3 Ae2 (pv 6) (Ab9 Ad9 (pv 3) Aa5) (λ_ _=>rfl)) (Ab9 Ad0 (pv 3) Aa5) Ai0)) (Aa4 (Ab2 Ae8))))) Ab0) (Aa2 (Ac8 (Ab6 Ae4 (pv 2) Ab8 (Ac0 _)) (Aa2 (Au0 (Aj3 hr) (pv 0) Ab8 (Ap9 (cl:=[("_law_first",s.heap.objs.size+1)]) (tc:=Cc2 (tOp rNe (tOp (rIxT K) (tVar 0) (tC (.int 0))) (tOp (rI CDiv λi j=>.int (i / j)) (tVar 4) (tC (.int 8))))) (te:=tVar 0) rfl (Af9 (Ag5 (Aj3 hr) (pv 0) Ab8 (by intro _ _; rfl))) rfl (by repeat' (first | exact trivial | refine ⟨.inl ⟨.inr rfl,rfl⟩,?_⟩ | refine ⟨.inl ⟨.inl rfl,rfl⟩,?_⟩ | refine ⟨.inr (.inl ⟨by decide,by decide,by decide⟩),?_⟩ | refine ⟨.inr (.inr ⟨rfl,by decide +kernel,by decide +kernel,rfl,rfl⟩),?_⟩)) (show ClOk _ _ from ⟨rfl,trivial⟩) (λC s₂ H₂ fp=>.one (Ab6 Bq1 (Ad3 Ad4 (pv 0) Aa5 (λ_ _=>rfl)) (Ab9 Ad9 (pv 4) Aa5) (Ac0 _))) (λC s₂ H₂ fp=>(pv 0)) ndDu (hdot:=De7)) rfl) (Aa4 (Ab2 Ae8))) Ab0) (Aa2 (Ac8 (Ab6 Ae4 (pv 2) Ab8 (Ac0 _)) (Aa2 (Au0 (Aj3 hr) (pv 0) Ab8 (pv 3) rfl) (Aa2 (Au0 (Aj3 hr) (pv 0) Ab8 (Ag1 Aa3) rfl) (Aa4 (Ab2 Ae8)))) Ab0) (Aa2 (Ac8 (Ab6 Ae4 (pv 2) Ab8 (Ac0 _)) (Aa2 (Ac5 (i:=7) scDu.nd rfl (Or.inl rfl) (Ab3 G2 hr1 (by rfl) D2.m D2.F.kp D2.b .nil Ac1 (Aa0 (pv 6) (Aa0 (pv 3) Aa3)))) (Aa2 (Ac8 (Ad1 (pv 7)) (Aa4 (Al3 Ae8 (Ap2 (pv 6) (pv 3) Ai0))) Ab0) (Aa4 (Ab2 (pv 7))))) Ab0) (Aa2 (Ac8 (PW.pt (Ah1 (Ab6 Bb5 (pv 3) (Ac9 Ad2 (by rfl) T.len PySem.boot_len (Aa0 (pv 6) Aa3)) (Ac0 _)) (Ah1 (Ab6 Au3 (Ad3 Ae2 (pv 6) (pv 3) (λ_ _=>rfl)) Ae8 (Ac0 _)) (Af8 (Ab6 (Ck8 hr.units) (Ag5 (Aj3 hr) (pv 0) Ab8 (by intro _ _; rfl)) (Ag1 Aa3) (Ac0 _)))))) (Aa4 (Ac8 (Ad1 (Bb2 PySem.F.plainAttrs_list PySem.F.slot_list_pop PySem.F.type_list_pop Bm9 (Ag5 (Aj3 hr) (pv 0) Ab8 (by intro _ _; rfl)) (Aa0 Aa5 Aa3))) (Aa2 (Al3 (Ab9 Ck7 (Ag1 (Aa0 Aa5 Aa3)) Aa5) (Ap2 (pv 6) (pv 3) Ai0)) (Aa4 (Ab2 Ah7))) Ab0)) Ab0) (Aa4 (Ab2 Ah7)))))))))),?_⟩
  refine ⟨_,rfl,t,_,rfl,SqT.of ht,rfl,_,_,rfl,_,_,rfl,_,_,rfl,_,_,rfl,rfl,?_⟩
  refine ⟨_,rfl,sd,_,rfl,w0.pages,?_⟩
  cases w with
  | load =>
   refine ⟨_,rfl,rfl,_,rfl,Ae7 (by decide +kernel) (iteT ?_)⟩
   exact ⟨_,rfl,_,rfl,sd,D,R,L,qs,n,rs,bs,rt,t,.load,x,v,k,rfl,.inl rfl,ht,w0,rk,n1,n2,v0,v1,kq⟩
  | save =>
   refine ⟨_,rfl,rfl,_,rfl,Ac3 (by decide +kernel) ⟨_,rfl,rfl,_,rfl,Ae7 (by decide +kernel) ?_⟩⟩
   exact ⟨_,rfl,_,rfl,sd,D,R,L,qs,n,rs,bs,rt,t,.save,x,v,k,rfl,.inr rfl,ht,w0,rk,n1,n2,v0,v1,kq⟩
  | peek =>
   refine ⟨_,rfl,rfl,_,rfl,Ac3 (by decide +kernel) ⟨_,rfl,rfl,_,rfl,Ac3 (by decide +kernel) ⟨_,rfl,rfl,_,rfl,Ae7 (by decide +kernel) (iteT ?_)⟩⟩⟩
   refine ⟨_,rfl,_,rfl,(x:Int),8,rfl,rfl,⟨by decide,by decide⟩,?_⟩
   dsimp only
   rw [d8]
   refine ⟨D,qs,x / 8,rfl,w0.g,_,rfl,?_⟩
   cases hh:hasP qs (.int ((x / 8:Nat):Int)) with
   | false =>
    rw [show Af4 qs[x / 8]?=false from (Af7 (x / 8)).symm.trans hh]
    refine iteT ⟨_,rfl,by show 4<=sizeLine; decide,λt2 ht2=>?_⟩
    rw [Bn8 hh] at kq
    exact kq _ _ ⟨R,qs,w0.same (Aa6 ht2),rfl,WFr.same (Aa6 ht2),.inl rfl⟩ ⟨t2,rfl,upd_same⟩
   | true =>
    rw [show Af4 qs[x / 8]?=true from (Af7 (x / 8)).symm.trans hh]
    obtain ⟨pa,ws,ep,w8,zp,ha,lq⟩:=w0.pg hh
    refine iteF ⟨_,rfl,rfl,_,rfl,Ae7 (by decide +kernel) ⟨_,rfl,_,rfl,(x:Int),8,rfl,rfl,⟨by decide,by decide⟩,?_⟩⟩
    dsimp only
    rw [d8]
    refine ⟨D,_,_,_,rfl,rfl,SqL.of w0.g.top,ha,_,rfl,(x:Int),8,rfl,rfl,(by show (0:Int)<8; decide),?_⟩
    dsimp only
    rw [l8]
    refine ⟨pa,_,_,_,rfl,rfl,SqL.of zp,Al2 (by omega),?_⟩
    rw [Bz6 hh] at kq
    refine kq H _ ⟨R,qs,w0,rfl,WFr.same (Same.refl _),.inl rfl⟩ ?_
    show V.int _=V.int _
    rw [Aw4 w0.gd ep j8]
  | poke =>
   refine ⟨_,rfl,rfl,_,rfl,Ac3 (by decide +kernel) ⟨_,rfl,rfl,_,rfl,Ac3 (by decide +kernel) ⟨_,rfl,rfl,_,rfl,Ac3 (by decide +kernel) ⟨_,rfl,rfl,_,rfl,Ae7 (by decide +kernel) ?_⟩⟩⟩⟩
   refine ⟨_,rfl,_,rfl,(x:Int),8,rfl,rfl,⟨by decide,by decide⟩,?_⟩
   dsimp only
   rw [d8]
   refine ⟨D,qs,x / 8,rfl,w0.g,_,rfl,?_⟩
   cases hh:hasP qs (.int ((x / 8:Nat):Int)) with
   | false =>
    rw [show Af4 qs[x / 8]?=false from (Af7 (x / 8)).symm.trans hh]
    refine iteT ⟨_,rfl,by show 4<=sizeLine; decide,λt2 ht2=>?_⟩
    rw [Bn7 hh] at kq
    exact kq _ _ ⟨R,qs,w0.same (Aa6 ht2),rfl,WFr.same (Aa6 ht2),.inl rfl⟩ ⟨t2,rfl,upd_same⟩
   | true =>
    rw [show Af4 qs[x / 8]?=true from (Af7 (x / 8)).symm.trans hh]
    obtain ⟨pa,ws,ep,w8,zp,ha,lq⟩:=w0.pg hh
    refine iteF ⟨_,rfl,rfl,_,rfl,Ac3 (by decide +kernel) ⟨_,rfl,_,rfl,_,rfl,(x:Int),8,rfl,rfl,⟨by decide,by decide⟩,?_⟩⟩
    dsimp only
    rw [d8]
    refine ⟨D,_,_,_,rfl,rfl,SqL.of w0.g.top,ha,_,rfl,(x:Int),8,rfl,rfl,(by show (0:Int)<8; decide),?_⟩
    dsimp only
    rw [l8]
    refine ⟨pa,_,_,x % 8,rfl,rfl,zp,Am2 (by rw [List.length_map]; omega),?_⟩
    rw [Bz5 hh] at kq
    obtain ⟨w2,f2⟩:=w0.setW (j:=x % 8) ep v0 v1
    exact kq _ _ ⟨R,_,w2,rfl,f2,.inl rfl⟩ rfl
  | drop =>
   refine ⟨_,rfl,rfl,_,rfl,Ac3 (by decide +kernel) ⟨_,rfl,rfl,_,rfl,Ac3 (by decide +kernel) ⟨_,rfl,rfl,_,rfl,Ac3 (by decide +kernel) ⟨_,rfl,rfl,_,rfl,Ac3 (by decide +kernel) ⟨_,rfl,rfl,_,rfl,Ae7 (by decide +kernel) ?_⟩⟩⟩⟩⟩
   obtain ⟨ys,er,ty⟩:=w0.t.ls
   have ly:=ty.len
   refine ⟨_,rfl,sd,_,rfl,w0.rows,R,rfl,⟨_,SqL.of er⟩,Am3 (xs:=ys) (λE2 i zs H'=>H E2=none/\Same H H'/\H' E2=some (.lst zs)/\Trs H' zs (delR (rs.take i) ((x / 8:Nat):Int))/\zs.length<=i) ?_ ?_ ?_ ?_⟩
   ·exact λE2 hE=>⟨hE,Aa6 hE,upd_same,.nil,Nat.le_refl _⟩
   ·rintro E2 i zs H' _ ⟨hE,ss,hz,_⟩
    exact ⟨SqL.of (ss _ _ er),hz⟩
   ·rintro E2 i y zs H' hi ⟨hE,ss,hz,tz,lz⟩
    have hil:i<rs.length:=by rw [<- ly]; exact (List.getElem?_eq_some_iff.mp hi).1
    obtain ⟨u,e1,e2⟩:=ty.get i rs[i] (List.getElem?_eq_getElem hil)
    rw [hi] at e1
    cases e1
    have tk:delR (rs.take (i+1)) ((x / 8:Nat):Int)=delR (rs.take i) ((x / 8:Nat):Int)++(if rs[i].1=((x / 8:Nat):Int) then [] else [rs[i]]):=by
     rw [List.take_add_one,List.getElem?_eq_getElem hil]
     exact Cj8 _ _ _
    refine ⟨_,rfl,u,_,_,_,rfl,rfl,SqT.of (ss _ _ e2),rfl,_,rfl,(x:Int),8,rfl,rfl,⟨by decide,by decide⟩,rfl,_,rfl,?_⟩
    by_cases e:rs[i].1=((x / 8:Nat):Int)
    ·rw [if_pos e,List.append_nil] at tk
     exact Ac3 (by show (!decide (V.int rs[i].1=V.int ((x:Int) / 8)))=false; rw [d8,e,decide_eq_true rfl]; rfl) ⟨hE,ss,hz,by rw [tk]; exact tz,by omega⟩
    ·rw [if_neg e] at tk
     refine Ae7 (by show (!decide (V.int rs[i].1=V.int ((x:Int) / 8)))=true; rw [d8,decide_eq_false (λz=>e (V.int.inj z))]; rfl) ⟨_,rfl,hz,?_,hE,Same.set ss hE,upd_same,?_,by rw [List.length_append]; show zs.length+1<=i+1; omega⟩
     ·exact Nat.lt_of_le_of_lt lz (Nat.lt_of_lt_of_le (by omega:i<1001) (by decide))
     ·rw [tk]
      have s9:Same H (upd H' E2 (.lst (zs++[.ref u]))):=Same.set ss hE
      refine (tz.imp λt xs z=>?_).app (s9 _ _ e2)
      rw [Aa7 (Af1 z hz (by intro z; cases z))]
      exact z
   ·rintro l zs H1 ⟨hE,ss,hz,tz,lz⟩
    rw [ly,List.take_length] at tz
    have w1:=w0.same ss
    have ml:=w0.mfoot hE
    refine ⟨_,rfl,sd,_,rfl,w1.putRows,?_⟩
    exact kq _ _ ⟨l,qs,w1.dict (rt':=rt) ⟨zs,hz,tz⟩ ml.1 ml.2,rfl,(WFr.same ss).trans Lw.dictF,.inr hE⟩ rfl
  | root =>
   refine ⟨_,rfl,rfl,_,rfl,Ac3 (by decide +kernel) ⟨_,rfl,rfl,_,rfl,Ac3 (by decide +kernel) ⟨_,rfl,rfl,_,rfl,Ac3 (by decide +kernel) ⟨_,rfl,rfl,_,rfl,Ac3 (by decide +kernel) ⟨_,rfl,rfl,_,rfl,Ac3 (by decide +kernel) ⟨_,rfl,rfl,_,rfl,Ae7 (by decide +kernel) ?_⟩⟩⟩⟩⟩⟩
   refine ⟨_,rfl,_,rfl,sd,_,rfl,w0.putRoot (rt':=x),?_⟩
   have w1:=w0.dict (rt':=x) w0.t w0.nR.1 w0.nR.2
   have f1:WFr H (upd H sd (.dK (stD D R x n L))) (Ah3 sd D L qs) (Ah3 sd D L qs):=Lw.dictF
   generalize upd H sd (.dK (stD D R x n L))=H1 at *
   refine ⟨by show 0<=sizeLine; decide,λl hl=>?_⟩
   have s2:=Aa6 (o:=.lst []) hl
   have z2:upd H1 l (.lst []) l=some (.lst []):=upd_same
   have ml:=w1.mfoot hl
   generalize upd H1 l (.lst [])=H2 at *
   have w2:=w1.same s2
   refine ⟨_,rfl,sd,_,rfl,w2.putRows,?_⟩
   refine kq _ _ ⟨l,qs,w2.dict (rt':=x) ⟨[],z2,.nil⟩ ml.1 ml.2,rfl,f1.trans ((WFr.same s2).trans Lw.dictF),.inr ?_⟩ rfl
   rcases f1.none hl with y | y
   ·rcases y with y | y | y
    ·rw [y] at hl; rw [w1.d] at hl; cases hl
    ·exact absurd y ml.2
    ·exact absurd y ml.1
   ·exact y
  | give =>
   refine ⟨_,rfl,rfl,_,rfl,Ac3 (by decide +kernel) ⟨_,rfl,rfl,_,rfl,Ac3 (by decide +kernel) ⟨_,rfl,rfl,_,rfl,Ac3 (by decide +kernel) ⟨_,rfl,rfl,_,rfl,Ac3 (by decide +kernel) ⟨_,rfl,rfl,_,rfl,Ac3 (by decide +kernel) ⟨_,rfl,rfl,_,rfl,Ac3 (by decide +kernel) ⟨_,rfl,rfl,_,rfl,Ae7 (by decide +kernel) ?_⟩⟩⟩⟩⟩⟩⟩
   refine ⟨_,rfl,_,rfl,D,qs,x,rfl,w0.g,?_⟩
   cases hh:hasP qs (.int (x:Int)) with
   | false =>
    rw [show Af4 qs[x]?=false from (Af7 x).symm.trans hh]
    refine ⟨_,rfl,_,rfl,iteF ⟨_,rfl,?_⟩⟩
    rw [Bo0 hh] at kq
    exact kq H _ ⟨R,qs,w0,rfl,WFr.same (Same.refl _),.inl rfl⟩ rfl
   | true =>
    rw [show Af4 qs[x]?=true from (Af7 x).symm.trans hh]
    obtain ⟨pa,ws,ep,w8,zp,ha,lq⟩:=w0.pg hh
    rw [Bz7 hh] at kq
    obtain ⟨w2,f2⟩:=w0.put (i:=x) (o:=none) (Same.refl H) (λp ws e=>by cases e) (λp ws e=>by cases e)
    refine ⟨_,rfl,_,rfl,iteT ⟨_,rfl,_,rfl,D,_,_,x,rfl,rfl,w0.g.top,Am2 (by rw [List.length_map]; exact lq),_,rfl,?_⟩⟩
    exact kq _ _ ⟨R,_,w2,rfl,f2,.inl rfl⟩ rfl
  | want =>
   refine ⟨_,rfl,rfl,_,rfl,Ac3 (by decide +kernel) ⟨_,rfl,rfl,_,rfl,Ac3 (by decide +kernel) ⟨_,rfl,rfl,_,rfl,Ac3 (by decide +kernel) ⟨_,rfl,rfl,_,rfl,Ac3 (by decide +kernel) ⟨_,rfl,rfl,_,rfl,Ac3 (by decide +kernel) ⟨_,rfl,rfl,_,rfl,Ac3 (by decide +kernel) ⟨_,rfl,rfl,_,rfl,Ac3 (by decide +kernel) ?_⟩⟩⟩⟩⟩⟩⟩
   refine ⟨_,rfl,_,rfl,D,_,rfl,.inl (SqL.of w0.g.top),_,_,rfl,rfl,_,rfl,?_⟩
   by_cases hi:x<qs.length
   ·refine Ae7 (by show decide ((x:Int)<((qs.map pgV).length:Int))=true; rw [List.length_map]; exact decide_eq_true (by omega)) ?_
    obtain ⟨o,ho,hat⟩:=Aw2 (ps:=qs) (i:=x) hi
    refine ⟨_,rfl,_,rfl,D,_,_,_,rfl,rfl,SqL.of w0.g.top,hat,rfl,_,rfl,?_⟩
    cases o with
    | some y =>
     rw [As1 (.inr (.inl (Au8 ho)))] at kq
     exact Ac3 (decide_eq_false nofun) (iteF (kq H _ ⟨R,qs,w0,rfl,WFr.same (Same.refl _),.inl rfl⟩ rfl))
    | none =>
     have hno:=Bz0 ho
     refine Ae7 (decide_eq_true rfl) ⟨_,rfl,sd,_,rfl,w0.rest,by show 0<=sizeLine; decide,λl hl=>?_⟩
     have s1:=Aa6 (o:=.lst []) hl
     have z1:upd H l (.lst []) l=some (.lst []):=upd_same
     generalize upd H l (.lst [])=H1 at *
     have w1:=w0.same s1
     cases bs with
     | nil =>
      rw [As1 (.inr (.inr rfl))] at kq
      refine ⟨_,_,.lst (SqL.of w1.l) (Ct9 _),.lst (SqL.of z1) .nil,Bv1 _,rfl,?_⟩
      exact ⟨_,rfl,Ac3 rfl (kq H1 _ ⟨R,qs,w1,rfl,WFr.same s1,.inl rfl⟩ rfl)⟩
     | cons b0 br =>
      refine ⟨_,_,.lst (SqL.of w1.l) (Ct9 _),.lst (SqL.of z1) .nil,Bv1 _,rfl,_,rfl,Ae7 (by show (!PyData.eqv (.list ((b0::br).map PyData.bool)) (.list ([].map PyData.bool)))=true; rw [De1]; rfl) ?_⟩
      refine ⟨_,rfl,sd,_,rfl,w1.rest,.inl ⟨rfl,_,SqL.of w1.l⟩,L,_,0,0,_,rfl,rfl,w1.l,by decide,by decide,seq0 _,rfl,_,rfl,?_⟩
      obtain ⟨w2,f2⟩:=w1.pop (br:=br)
      have f2':=(WFr.same (X:=Ah3 sd D L qs) s1).trans f2
      cases b0 with
      | false =>
       rw [Bn5 hi hno] at kq
       exact iteF (kq _ _ ⟨R,qs,w2,rfl,f2',.inl rfl⟩ rfl)
      | true =>
       rw [Bn4 hi hno] at kq
       rw [show ((true::br).map V.bl).eraseIdx 0=br.map V.bl from rfl]
       refine iteT ?_
       generalize upd H1 L (.lst (br.map V.bl))=H5 at *
       refine ⟨by show 1<=sizeLine; decide,λl6 hl6=>?_⟩
       have u1:=Aa6 (o:=.lst [V.int 0]) hl6
       refine ⟨l6,8,_,rfl,rfl,upd_same,by decide,by decide,(by show 1 * (8:Nat)<=sizeLine; decide),λp hp=>?_⟩
       have u2:=Aa6 (o:=.lst (List.replicate (8:Int).toNat [V.int 0]).flatten) hp
       have zp:upd (upd H5 l6 (.lst [V.int 0])) p (.lst (List.replicate (8:Int).toNat [V.int 0]).flatten) p=some (.lst (z8.map V.int)):=upd_same.trans rfl
       have us:=u1.trans u2
       have p5:H5 p=none:=u1.free hp
       generalize upd (upd H5 l6 (.lst [V.int 0])) p (.lst (List.replicate (8:Int).toNat [V.int 0]).flatten)=H6 at *
       obtain ⟨w6,f6⟩:=w2.put (i:=x) (o:=some (p,z8)) us (λp' ws e=>by cases e; exact ⟨zp,p5⟩) (λp' ws e=>by cases e; exact ⟨rfl,by decide⟩)
       refine ⟨_,rfl,_,rfl,D,_,_,x,rfl,rfl,(w2.same us).g.top,Am2 (by rw [List.length_map]; exact hi),?_⟩
       exact kq _ _ ⟨R,_,w6,As2 rfl rfl,f2'.trans f6,.inl rfl⟩ rfl
   ·rw [As1 (.inl hi)] at kq
    exact Ac3 (by show decide ((x:Int)<((qs.map pgV).length:Int))=false; rw [List.length_map]; exact decide_eq_false (by omega)) (iteF (kq H _ ⟨R,qs,w0,rfl,WFr.same (Same.refl _),.inl rfl⟩ rfl))
end
end K28
end
section
namespace K28
open PySem L2
def w16:List Wd:=[.load,.load,.load,.load,.save,.save,.save,.save,.peek,.poke,.poke,.drop,.drop,.give,.want,.root]
def Bf6:Sp:=λvs H Q _=>∃ (c:Int) (m:Nat),vs=[.int c,.int (m:Int)]/\1<=m/\m<=24/\∀ (t:Addr) (w:Wd) (x:Nat) (v:Int) (k:Bool) (H':Hp),Same H H'->H' t=some (.tup [.str (wS w),.int (x:Int),.int v,.bl k])->0<=v->v<281474976710656->Q (.ref t) H'
section
variable {P : Program} {w : World} {K : PySem.W.Frag} {mg : Str → Option Value} {base : Heap} {C NP NL NW NI SC PL WC FA : Addr}
theorem scDe:Ab5 ["_law_cell","_law_many","_law_some","_law_word","_law_mixed","_law_number","_law_kernel"] ["_law_cell","_law_many"] (Aa1 Ay5):=FSc
theorem Cs3 {f f1 f2 f3:Addr} {fd fd1 fd2 fd3:FuncData} (F:Fun K "_law_deed" "_law_deed" Ay5 f fd) (D1:Dn K mg "_law_own" sOwn ["_law_cell","_law_k"] f1 fd1) (G1:FnOk P w K mg base CX0 1 f1 fd1 ["_law_cell","_law_k"] Cc9) (D2:Dn K mg "_law_place" At4 ["_law_cell"] f2 fd2) (G2:FnOk P w K mg base CX0 2 f2 fd2 ["_law_cell"] Bf2) (D3:Dn K mg "_law_row_by" sRow ["_law_mixed","_law_many"] f3 fd3) (G3:FnOk P w K mg base CX0 1 f3 fd3 ["_law_mixed","_law_many"] Cc8):FnOk P w K mg base CX0 3 f fd ["_law_cell","_law_many"] Bf6:=by
 refine F.ok scDe (λvs H Q E h'=>?_) (λcdv A outer s H vs Q E hr h'=>?_)
 ·obtain ⟨c,m,rfl,_⟩:=h'
  rfl
 ·obtain ⟨c,m,rfl,m1,m2,q⟩:=h'
  have hr1:Room 1 _:=hr.mono (by decide)
  obtain ⟨t6,R6,hR6⟩:∃ tr,PSs (cxOf CX0 P w K mg base ["_law_cell","_law_many","_law_some","_law_word","_law_mixed","_law_number","_law_kernel"] "_law_deed" (Aa1 Ay5) f cdv A outer s H E).nox ((Aa9 Ay5).drop 6) tr/\∀ (H2:Hp) (l3:Addr) (w:Wd) (mx:Int) (nb:Nat),Same H H2->0<=mx->mx<2147483648->tr { nx:=λ_ H'=>Q .non H',rt:=Q } [some (.int c),some (.int (m:Int)),some (.ref l3),some (.str (wS w)),some (.int mx),some (.int (nb:Int)),none] H2:=by
   refine ⟨_,(Aa2 (Ac8 (PW.pt (Al7 (Ab6 Ae4 (pv 3) Ab8 (Ac0 _)) (Ai5 (Ab6 Ae4 (pv 3) Ab8 (Ac0 _))))) (Aa2 (Ac5 (i:=6) scDe.nd rfl (Or.inl rfl) (Af6 Bi6 (Ab9 Ad0 (Ab3 G1 hr1 (by rfl) D1.m D1.F.kp D1.b .nil Ac1 (Aa0 (pv 0) (Aa0 Aa5 Aa3))) Aa5) Aa5 (Ac0 _))) (Aa4 (Ab2 (Af5 (Aa8 (pv 3) (Aa8 (Ab3 G2 hr (by rfl) D2.m D2.F.kp D2.b .nil Ac1 (Aa0 (pv 0) Aa3)) (Aa8 (Ab3 G3 hr1 (by rfl) D3.m D3.F.kp D3.b .nil Ac1 (Aa0 (pv 4) (Aa0 (pv 1) Aa3))) (Aa8 (pv 6) Aa3)))))))) Ab0) (Aa2 (Ac8 (PW.pt (Al7 (Ab6 Ae4 (pv 3) Ab8 (Ac0 _)) (Ai5 (Ab6 Ae4 (pv 3) Ab8 (Ac0 _))))) (Aa4 (Ab2 (Af5 (Aa8 (pv 3) (Aa8 (Ab9 Ag8 (Ab9 Aj8 (pv 5) Aa5) (Ab9 Ad0 (Ab9 Ad9 (pv 4) Aa5) Aa5)) (Aa8 (Ab3 G3 hr1 (by rfl) D3.m D3.F.kp D3.b .nil Ac1 (Aa0 (Ab3 G1 hr1 (by rfl) D1.m D1.F.kp D1.b .nil Ac1 (Aa0 (pv 0) (Aa0 Aa5 Aa3))) (Aa0 (pv 1) Aa3))) (Aa8 Ah7 Aa3))))))) Ab0) (Aa2 (Ac8 (Ab6 Ae4 (pv 3) Ab8 (Ac0 _)) (Aa4 (Ab2 (Af5 (Aa8 (pv 3) (Aa8 (Ab3 G2 hr (by rfl) D2.m D2.F.kp D2.b .nil Ac1 (Aa0 (pv 0) Aa3)) (Aa8 Aa5 (Aa8 Ah7 Aa3))))))) Ab0) (Aa2 (Ac8 (PW.pt (Ah1 (Ab6 Ae4 (pv 3) Ab8 (Ac0 _)) (Af8 (Ab6 Bi6 (Ab9 Ad0 (pv 4) Aa5) Aa5 (Ac0 _))))) (Aa4 (Ac5 (i:=5) scDe.nd rfl (Or.inl rfl) Aa5)) Ab0) (Aa4 (Ab2 (Af5 (Aa8 (pv 3) (Aa8 (pv 5) (Aa8 Aa5 (Aa8 Ah7 Aa3))))))))))),λH2 l3 w mx nb s2 x0 x1=>?_⟩
   cases w with
   | load =>
    refine ⟨_,rfl,rfl,_,rfl,Ae7 (by decide +kernel) (iteT ⟨_,rfl,c,3,rfl,by decide,λr H3 r0 _ s3=>⟨r,3,rfl,rfl,(by show (0:Int)<3; decide),_,0,rfl,rfl,?_⟩⟩)⟩
    refine ⟨_,rfl,_,rfl,c,rfl,λpl H4 s4=>⟨_,rfl,_,rfl,mx,m,rfl,x0,x1,m2,λv H5 s5 v0 v1=>⟨_,rfl,by show 4<=sizeLine; decide,λt ht=>q t .load pl v _ _ ((s2.trans (s3.trans (s4.trans s5))).trans (Aa6 ht)) upd_same v0 v1⟩⟩⟩
   | save =>
    refine ⟨_,rfl,rfl,_,rfl,Ac3 (by decide +kernel) ⟨_,rfl,rfl,_,rfl,Ae7 (by decide +kernel) ⟨_,rfl,c,3,rfl,by decide,λr H3 r0 _ s3=>⟨r,3,rfl,rfl,(by show (0:Int)<3; decide),_,0,rfl,rfl,?_⟩⟩⟩⟩
    refine ⟨_,rfl,_,rfl,c,rfl,λpl H4 s4=>⟨_,rfl,_,rfl,mx,m,rfl,x0,x1,m2,λv H5 s5 v0 v1=>⟨_,rfl,by show 4<=sizeLine; decide,λt ht=>q t .save pl v _ _ ((s2.trans (s3.trans (s4.trans s5))).trans (Aa6 ht)) upd_same v0 v1⟩⟩⟩
   | peek =>
    refine ⟨_,rfl,rfl,_,rfl,Ac3 (by decide +kernel) ⟨_,rfl,rfl,_,rfl,Ac3 (by decide +kernel) ⟨_,rfl,rfl,_,rfl,Ae7 (by decide +kernel) (iteT ⟨_,rfl,_,rfl,(nb:Int),8,rfl,rfl,.inr ⟨by decide,by decide⟩,_,rfl,mx,400,rfl,rfl,⟨by decide,by decide⟩,_,8,rfl,rfl,(by show (0:Int)<8; decide),_,_,rfl,rfl,?_⟩)⟩⟩⟩
    have m8:0<=mx / 400 % 8:=Int.emod_nonneg _ (by decide)
    obtain ⟨sp,hsp⟩:∃ sp:Nat,(nb:Int) * 8+mx / 400 % 8=(sp:Int):=⟨((nb:Int) * 8+mx / 400 % 8).toNat,by omega⟩
    dsimp only
    rw [hsp]
    exact ⟨_,rfl,c,3,rfl,by decide,λr H3 r0 r1 s3=>⟨_,rfl,r,m,rfl,r0,r1,m2,λv H5 s5 v0 v1=>⟨by show 4<=sizeLine; decide,λt ht=>q t .peek sp v true _ ((s2.trans (s3.trans s5)).trans (Aa6 ht)) upd_same v0 v1⟩⟩⟩
   | poke =>
    refine ⟨_,rfl,rfl,_,rfl,Ac3 (by decide +kernel) ⟨_,rfl,rfl,_,rfl,Ac3 (by decide +kernel) ⟨_,rfl,rfl,_,rfl,Ac3 (by decide +kernel) ⟨_,rfl,rfl,_,rfl,Ae7 (by decide +kernel) ⟨_,rfl,_,rfl,(nb:Int),8,rfl,rfl,.inr ⟨by decide,by decide⟩,_,rfl,mx,400,rfl,rfl,⟨by decide,by decide⟩,_,8,rfl,rfl,(by show (0:Int)<8; decide),_,_,rfl,rfl,?_⟩⟩⟩⟩⟩
    have m8:0<=mx / 400 % 8:=Int.emod_nonneg _ (by decide)
    obtain ⟨sp,hsp⟩:∃ sp:Nat,(nb:Int) * 8+mx / 400 % 8=(sp:Int):=⟨((nb:Int) * 8+mx / 400 % 8).toNat,by omega⟩
    dsimp only
    rw [hsp]
    exact ⟨_,rfl,c,3,rfl,by decide,λr H3 r0 r1 s3=>⟨_,rfl,r,m,rfl,r0,r1,m2,λv H5 s5 v0 v1=>⟨by show 4<=sizeLine; decide,λt ht=>q t .poke sp v true _ ((s2.trans (s3.trans s5)).trans (Aa6 ht)) upd_same v0 v1⟩⟩⟩
   | drop =>
    exact ⟨_,rfl,rfl,_,rfl,Ac3 (by decide +kernel) ⟨_,rfl,rfl,_,rfl,Ac3 (by decide +kernel) ⟨_,rfl,rfl,_,rfl,Ac3 (by decide +kernel) ⟨_,rfl,rfl,_,rfl,Ac3 (by decide +kernel) ⟨_,rfl,rfl,_,rfl,Ae7 (by decide +kernel) ⟨_,rfl,_,rfl,c,rfl,λpl H4 s4=>⟨by show 4<=sizeLine; decide,λt ht=>q t .drop pl 0 true _ ((s2.trans s4).trans (Aa6 ht)) upd_same (by decide) (by decide)⟩⟩⟩⟩⟩⟩⟩
   | give =>
    exact ⟨_,rfl,rfl,_,rfl,Ac3 (by decide +kernel) ⟨_,rfl,rfl,_,rfl,Ac3 (by decide +kernel) ⟨_,rfl,rfl,_,rfl,Ac3 (by decide +kernel) ⟨_,rfl,rfl,_,rfl,Ac3 (by decide +kernel) ⟨_,rfl,rfl,_,rfl,Ac3 (by decide +kernel) ⟨_,rfl,rfl,_,rfl,Ac3 (by decide +kernel) (iteF ⟨_,rfl,_,rfl,by show 4<=sizeLine; decide,λt ht=>q t .give nb 0 true _ (s2.trans (Aa6 ht)) upd_same (by decide) (by decide)⟩)⟩⟩⟩⟩⟩⟩
   | want =>
    exact ⟨_,rfl,rfl,_,rfl,Ac3 (by decide +kernel) ⟨_,rfl,rfl,_,rfl,Ac3 (by decide +kernel) ⟨_,rfl,rfl,_,rfl,Ac3 (by decide +kernel) ⟨_,rfl,rfl,_,rfl,Ac3 (by decide +kernel) ⟨_,rfl,rfl,_,rfl,Ac3 (by decide +kernel) ⟨_,rfl,rfl,_,rfl,Ac3 (by decide +kernel) (iteF ⟨_,rfl,_,rfl,by show 4<=sizeLine; decide,λt ht=>q t .want nb 0 true _ (s2.trans (Aa6 ht)) upd_same (by decide) (by decide)⟩)⟩⟩⟩⟩⟩⟩
   | root =>
    refine ⟨_,rfl,rfl,_,rfl,Ac3 (by decide +kernel) ⟨_,rfl,rfl,_,rfl,Ac3 (by decide +kernel) ⟨_,rfl,rfl,_,rfl,Ac3 (by decide +kernel) ⟨_,rfl,rfl,_,rfl,Ac3 (by decide +kernel) ⟨_,rfl,rfl,_,rfl,Ac3 (by decide +kernel) ⟨_,rfl,rfl,_,rfl,Ae7 (by decide +kernel) ⟨_,rfl,mx,3,rfl,rfl,(by show (0:Int)<3; decide),_,0,rfl,rfl,_,rfl,ite2 (λ_=>?_) (λ_=>?_)⟩⟩⟩⟩⟩⟩⟩
    ·exact ⟨_,rfl,_,rfl,by show 4<=sizeLine; decide,λt ht=>q t .root 0 0 true _ (s2.trans (Aa6 ht)) upd_same (by decide) (by decide)⟩
    ·exact ⟨_,rfl,_,rfl,by show 4<=sizeLine; decide,λt ht=>q t .root nb 0 true _ (s2.trans (Aa6 ht)) upd_same (by decide) (by decide)⟩
  refine ⟨_,(Aa2 (Ac5 (i:=2) scDe.nd rfl (Or.inl rfl) (Ag1 (Aa8 Ab8 (Aa8 Ab8 (Aa8 Ab8 (Aa8 Ab8 (Aa8 Ab8 (Aa8 Ab8 (Aa8 Ab8 (Aa8 Ab8 Aa3)))))))))) (Aa2 (Ac5 (i:=2) scDe.nd rfl (Or.inl rfl) (Ab9 Bm6 (pv 2) (Ag1 (Aa8 Ab8 (Aa8 Ab8 (Aa8 Ab8 (Aa8 Ab8 (Aa8 Ab8 (Aa8 Ab8 (Aa8 Ab8 (Aa8 Ab8 Aa3))))))))))) (Aa2 (Ac5 (i:=3) scDe.nd rfl (Or.inl rfl) (Ad3 Ae2 (pv 2) (Ab9 Ad0 (Ab3 G1 hr1 (by rfl) D1.m D1.F.kp D1.b .nil Ac1 (Aa0 (pv 0) (Aa0 Aa5 Aa3))) Aa5) (λ_ _=>rfl))) (Aa2 (Ac5 (i:=4) scDe.nd rfl (Or.inl rfl) (Ab3 G1 hr1 (by rfl) D1.m D1.F.kp D1.b .nil Ac1 (Aa0 (pv 0) (Aa0 Aa5 Aa3)))) (Aa2 (Ac5 (i:=5) scDe.nd rfl (Or.inl rfl) (Ab9 Ad0 (Ab9 Ad9 (pv 4) Aa5) (Ab9 Ag8 (pv 1) Aa5))) (Aa2 (Ac8 (Ab6 Ae4 (Ab9 Ad0 (pv 4) Aa5) Aa5 (Ac0 _)) (Aa4 (Ac5 (i:=5) scDe.nd rfl (Or.inl rfl) (Ab9 Av6 (Ab9 Av6 (Ab9 Am9 Aa5 Aa5) Aa5) (Ab9 Ad0 (Ab9 Ad9 (pv 4) Aa5) Aa5)))) Ab0) R6)))))),?_⟩
  refine ⟨by show 8<=sizeLine; decide,λl1 hl1=>?_⟩
  have s1:=Aa6 (o:=.lst [V.str "load",V.str "load",V.str "load",V.str "load",V.str "save",V.str "save",V.str "save",V.str "save"]) hl1
  have z1:upd H l1 (.lst [V.str "load",V.str "load",V.str "load",V.str "load",V.str "save",V.str "save",V.str "save",V.str "save"]) l1=some (.lst [V.str "load",V.str "load",V.str "load",V.str "load",V.str "save",V.str "save",V.str "save",V.str "save"]):=upd_same
  generalize upd H l1 (.lst [V.str "load",V.str "load",V.str "load",V.str "load",V.str "save",V.str "save",V.str "save",V.str "save"])=H1 at *
  refine ⟨_,rfl,by show 8<=sizeLine; decide,λl2 hl2=>?_⟩
  have s2:=Aa6 (o:=.lst [V.str "peek",V.str "poke",V.str "poke",V.str "drop",V.str "drop",V.str "give",V.str "want",V.str "root"]) hl2
  have z2:upd H1 l2 (.lst [V.str "peek",V.str "poke",V.str "poke",V.str "drop",V.str "drop",V.str "give",V.str "want",V.str "root"]) l2=some (.lst [V.str "peek",V.str "poke",V.str "poke",V.str "drop",V.str "drop",V.str "give",V.str "want",V.str "root"]):=upd_same
  have z12:=s2 _ _ z1
  generalize upd H1 l2 (.lst [V.str "peek",V.str "poke",V.str "poke",V.str "drop",V.str "drop",V.str "give",V.str "want",V.str "root"])=H2 at *
  refine ⟨l1,l2,_,_,rfl,rfl,z12,z2,by show 16<=sizeLine; decide,λl3 hl3=>?_⟩
  have e16:([V.str "load",V.str "load",V.str "load",V.str "load",V.str "save",V.str "save",V.str "save",V.str "save"]++[V.str "peek",V.str "poke",V.str "poke",V.str "drop",V.str "drop",V.str "give",V.str "want",V.str "root"])=w16.map λw=>V.str (wS w):=rfl
  rw [e16]
  have s3:=Aa6 (o:=.lst (w16.map λw=>V.str (wS w))) hl3
  have z3:upd H2 l3 (.lst (w16.map λw=>V.str (wS w))) l3=some (.lst (w16.map λw=>V.str (wS w))):=upd_same
  generalize upd H2 l3 (.lst (w16.map λw=>V.str (wS w)))=H3 at *
  have s03:=s1.trans (s2.trans s3)
  refine ⟨_,rfl,_,rfl,c,0,rfl,by decide,λr0 H4 r00 _ s4=>?_⟩
  obtain ⟨j,hj,hj16⟩:∃ j:Nat,r0 % 16=(j:Int)/\j<16:=⟨(r0 % 16).toNat,by omega,by omega⟩
  obtain ⟨w,hw⟩:∃ w,w16[j]?=some w:=⟨_,List.getElem?_eq_getElem (by exact hj16)⟩
  refine ⟨r0,16,rfl,rfl,(by show (0:Int)<16; decide),?_⟩
  dsimp only
  rw [hj]
  refine ⟨l3,_,_,.str (wS w),rfl,rfl,SqL.of (s4 _ _ z3),Aj1 (by rw [List.getElem?_map,hw]; rfl),?_⟩
  refine ⟨_,rfl,c,1,rfl,by decide,λmx H5 x0 x1 s5=>?_⟩
  have s05:=s03.trans (s4.trans s5)
  refine ⟨_,rfl,mx,13,rfl,rfl,⟨by decide,by decide⟩,_,rfl,(m:Int),1,rfl,rfl,_,_,rfl,rfl,(by show (0:Int)<(m:Int)+1; omega),?_⟩
  dsimp only
  have nn:0<=mx / 13 % ((m:Int)+1):=Int.emod_nonneg _ (by omega)
  obtain ⟨nb,hnb⟩:∃ nb:Nat,mx / 13 % ((m:Int)+1)=(nb:Int):=⟨(mx / 13 % ((m:Int)+1)).toNat,by omega⟩
  rw [hnb]
  refine ⟨_,rfl,mx,13,rfl,rfl,(by show (0:Int)<13; decide),rfl,_,rfl,ite2 (λ_=>?_) (λ_=>hR6 H5 l3 w mx nb s05 x0 x1)⟩
  refine ⟨2,45,rfl,rfl,⟨by decide,by decide,by decide⟩,_,1,rfl,rfl,_,rfl,mx,13,rfl,rfl,⟨by decide,by decide⟩,_,3,rfl,rfl,(by show (0:Int)<3; decide),_,_,rfl,rfl,?_⟩
  dsimp only
  obtain ⟨nb2,hnb2⟩:∃ nb:Nat,(2:Int) ^ (45:Int).toNat - 1 - mx / 13 % 3=(nb:Int):=⟨((2:Int) ^ (45:Int).toNat - 1 - mx / 13 % 3).toNat,by rw [show (2:Int) ^ (45:Int).toNat=35184372088832 by decide]; omega⟩
  rw [hnb2]
  exact hR6 H5 l3 w mx nb2 s05 x0 x1
end
end K28
end
section
namespace K28
open PySem L2
theorem Bq3 {X:Cx} {K:PySem.W.Frag} (h:X.K=K):OpR X (compareOp .In) (rIn K false):=by subst h; exact Bw7
structure Bo (C SC PL:Addr) (H:Hp) (a m h r q aw:Addr) (ps:Pgs) (n:Int) (rs:Rs) (bs:List Bool) (rt:Nat) (sd D R L:Addr) (qs:Pgs):Prop where
 W:Way C SC PL H a m h r q aw ps n rs bs (rt:Int)
 w:Lw H sd D R L qs n rs bs rt
 c:cont ps=cont qs
 k:Rk n rs
 ap:Apt a h r q aw ps sd D R L qs
theorem Bo.same {C SC PL:Addr} {H H':Hp} {a m h r q aw:Addr} {ps:Pgs} {n:Int} {rs:Rs} {bs:List Bool} {rt:Nat} {sd D R L:Addr} {qs:Pgs} (B:Bo C SC PL H a m h r q aw ps n rs bs rt sd D R L qs) (s:Same H H'):Bo C SC PL H' a m h r q aw ps n rs bs rt sd D R L qs:=⟨B.W.same s,B.w.same s,B.c,B.k,B.ap⟩
def BX (a h r q aw:Addr) (ps:Pgs) (sd D R L:Addr) (qs:Pgs) (b:Addr):Prop:=(Foot a h r q aw ps b\/Ah3 sd D L qs b)\/b=R
theorem Bo.both {C SC PL:Addr} {H H1 H2:Hp} {a m h r q aw q1:Addr} {ps ps1:Pgs} {n:Int} {rs rs':Rs} {bs bs':List Bool} {rt rt':Nat} {sd D R L R2:Addr} {qs qs2:Pgs} (B:Bo C SC PL H a m h r q aw ps n rs bs rt sd D R L qs)
  (W1:Way C SC PL H1 a m h r q1 aw ps1 n rs' bs' (rt':Int)) (f1:WFr H H1 (Foot a h r q aw ps) (Foot a h r q1 aw ps1)) (w2:Lw H2 sd D R2 L qs2 n rs' bs' rt') (f2:WFr H1 H2 (Ah3 sd D L qs) (Ah3 sd D L qs2)) (hR:R2=R\/H1 R2=none) (c:cont ps1=cont qs2) (k:Rk n rs') :
  Bo C SC PL H2 a m h r q1 aw ps1 n rs' bs' rt' sd D R2 L qs2/\WFr H H2 (BX a h r q aw ps sd D R L qs) (BX a h r q1 aw ps1 sd D R2 L qs2):=by
 obtain ⟨w1,ap1⟩:=B.w.way B.W B.ap f1
 obtain ⟨W2,ap2⟩:=W1.law w1 ap1 f2 hR
 have fb:=f1.both f2
 refine ⟨⟨W2,w2,c,k,ap2⟩,⟨λb o nb e=>fb.kp b o (λz=>nb (.inl z)) e,λb hb=>?_⟩⟩
 rcases hb with z | z
 ·rcases fb.gr b z with y | y
  ·exact .inl (.inl y)
  ·exact .inr y
 ·rcases hR with y | y
  ·exact .inl (.inr (z.trans y))
  ·rcases f1.none y with u | u
   ·exact .inl (.inl (.inl (z ▸ u)))
   ·exact .inr (z ▸ u)
theorem Lw.tup {H H':Hp} {sd D R L:Addr} {qs qs':Pgs} {n:Int} {rs:Rs} {bs:List Bool} {rt:Nat} (w:Lw H sd D R L qs n rs bs rt) (f:WFr H H' (Ah3 sd D L qs) (Ah3 sd D L qs')) (t:Addr) (xs:List V) (e:H t=some (.tup xs)):H' t=some (.tup xs):=f.kp _ _ (λz=>by
 rcases w.foot z with ⟨u,v⟩ | ⟨u,v⟩ <;> rw [e] at v <;> cases v) e
theorem Way.tupF {C SC PL:Addr} {H H':Hp} {a m h r q aw q':Addr} {ps ps':Pgs} {n:Int} {rs:Rs} {bs:List Bool} {b0:Int} (w:Way C SC PL H a m h r q aw ps n rs bs b0) (f:WFr H H' (Foot a h r q aw ps) (Foot a h r q' aw ps')) (t:Addr) (xs:List V) (e:H t=some (.tup xs)):H' t=some (.tup xs):=f.kp _ _ (λz=>by
 obtain ⟨o,v,ne⟩:=w.live z
 rw [e] at v
 exact ne xs (Option.some.inj v).symm) e
def Be8 (C SC PL:Addr):Sp:=λvs H Q _=>∃ (a m h r q aw:Addr) (ps:Pgs) (n:Int) (rs:Rs) (bs:List Bool) (rt:Nat) (sd D R L:Addr) (qs:Pgs) (t:Addr) (w:Wd) (x:Nat) (v:Int) (k:Bool) (c:Int),vs=[.ref a,.ref sd,.ref t,.int c]/\H t=some (.tup [.str (wS w),.int (x:Int),.int v,.bl k])/\0<=v/\v<281474976710656/\Bo C SC PL H a m h r q aw ps n rs bs rt sd D R L qs /\
 ∀ H' q' ps' rs' bs' rt' R' qs',Bo C SC PL H' a m h r q' aw ps' n rs' bs' rt' sd D R' L qs'->WFr H H' (BX a h r q aw ps sd D R L qs) (BX a h r q' aw ps' sd D R' L qs')->Q (.bl true) H'
section
variable {P : Program} {w : World} {K : PySem.W.Frag} {mg : Str → Option Value} {base : Heap} {C NP NL NW NI SC PL WC FA : Addr}
theorem scStp:Ab5 ["_law_way","_law_state","_law_deed_here","_law_cell","_law_page","_law_fault","e"] ["_law_way","_law_state","_law_deed_here","_law_cell"] (Aa1 Ao2):=FSc
theorem Cg5 {f f1 f2 f3 f4 f5 fI:Addr} {fd fd1 fd2 fd3 fd4 fd5:FuncData} (F:Fun K "_law_step" "_law_step" Ao2 f fd) (D1:Dn K mg "_law_alike" At8 ["_law_found","_law_due_here"] f1 fd1) (G1:FnOk P w K mg base CX0 2 f1 fd1 ["_law_found","_law_due_here"] Bf9) (D2:Dn K mg "_law_reached" Ba6 ["_law_state","_law_place_here","_law_write","_law_kernel"] f2 fd2) (G2:FnOk P w K mg base CX0 3 f2 fd2 ["_law_state","_law_place_here","_law_write","_law_kernel"] Bl6) (D3:Dn K mg "_law_do" sDoL ["_law_way","_law_deed_here"] f3 fd3) (G3:FnOk P w K mg base CX0 14 f3 fd3 ["_law_way","_law_deed_here"] (Cn1 C SC PL)) (D4:Dn K mg "_law_due" Bh7 ["_law_state","_law_deed_here"] f4 fd4) (G4:FnOk P w K mg base CX0 5 f4 fd4 ["_law_state","_law_deed_here"] Bu6) (M1:Me K PL "reach" "Ways.reach" Ao3 ["self","place","write","kernel"] f5 fd5) (GM1:FnOk P w K mg base (CXr P w) 11 f5 fd5 ["self","place","write","kernel"] (As5 C SC PL FA)) (PC:Plc K PL) (FL:Flt K mg FA fI) (XF:PySem.W.exmOne K (.ref FA) (.ref FA)=some true):FnOk P w K mg base CX0 15 f fd ["_law_way","_law_state","_law_deed_here","_law_cell"] (Be8 C SC PL):=by
 refine F.ok scStp (λvs H Q E h'=>?_) (λcdv A outer s H vs Q E hr h'=>?_)
 ·obtain ⟨a,m,h,r,q,aw,ps,n,rs,bs,rt,sd,D,R,L,qs,t,wd,x,v,k,c,rfl,_⟩:=h'
  rfl
 ·obtain ⟨a,m,h,r,q,aw,ps,n,rs,bs,rt,sd,D,R,L,qs,t,wd,x,v,k,c,rfl,ht,v0,v1,B,kq⟩:=h'
  have W:=B.W
  obtain ⟨dx,fs,ha,wf⟩:=W.ob
  have rk:=B.k
  have n1:=W.S.n1
  have n2:=W.S.n2
  have hl:rs.length<=12:=by have:=rk.ln; omega
  have hr11:Room 11 _:=hr.mono (by decide)
  have hr5:Room 5 _:=hr.mono (by decide)
  have hr3:Room 3 _:=hr.mono (by decide)
  have hr2:Room 2 _:=hr.mono (by decide)
  have hand:∀ (H1:Hp) (z:Str) (pl lv:Int),Same H H1->∀ d,H1 d=none->∀ e,upd H1 d (xdo d (ffF [.str z,.int pl,.int lv])) e=none->upd (upd H1 d (xdo d (ffF [.str z,.int pl,.int lv]))) e (xob e (.ref FA) (some d)) e=some (xob e (.ref FA) (some d))/\upd (upd H1 d (xdo d (ffF [.str z,.int pl,.int lv]))) e (xob e (.ref FA) (some d)) d=some (xdo d (ffF [.str z,.int pl,.int lv]))/\Same H (upd (upd H1 d (xdo d (ffF [.str z,.int pl,.int lv]))) e (xob e (.ref FA) (some d))):=λH1 z pl lv s1 d hd e he=>by
   refine ⟨upd_same,?_,s1.trans ((Aa6 hd).trans (Aa6 he))⟩
   rw [Aa7 (Ac7 upd_same he)]
   exact upd_same
  obtain ⟨t1,R1,hR1⟩:∃ tr,PSs (cxOf CX0 P w K mg base ["_law_way","_law_state","_law_deed_here","_law_cell","_law_page","_law_fault","e"] "_law_step" (Aa1 Ao2) f cdv A outer s H E).nox ((Aa9 Ao2).drop 1) tr/\∀ (H0:Hp),Same H H0->tr { nx:=λ_ H'=>Q .non H',rt:=Q } [some (.ref a),some (.ref sd),some (.ref t),some (.int c),none,none,none] H0:=by
   refine ⟨_,(Aa4 (Ab2 (Ab3 G1 hr2 (by rfl) D1.m D1.F.kp D1.b .nil Ac1 (Aa0 (Ab3 G3 hr (by rfl) D3.m D3.F.kp D3.b .nil Ac1 (Aa0 (pv 0) (Aa0 (pv 2) Aa3))) (Aa0 (Ab3 G4 hr5 (by rfl) D4.m D4.F.kp D4.b .nil Ac1 (Aa0 (pv 1) (Aa0 (pv 2) Aa3))) Aa3))))),λH0 su=>?_⟩
   have B0:=B.same su
   have ht0:=su _ _ ht
   refine ⟨_,rfl,_,rfl,a,m,h,r,q,aw,ps,n,rs,bs,rt,t,wd,x,v,k,rfl,ht0,B0.W,rk,v0,v1,λH1 u1 W1 o1=>?_⟩
   obtain ⟨q1,ps1,W1,c1,f1⟩:=W1
   obtain ⟨w1,ap1⟩:=B0.w.way B0.W B0.ap f1
   have E:=Ct8 B.c n wd x v k rs rt bs
   refine ⟨_,rfl,_,rfl,sd,D,R,L,qs,n,rs,bs,rt,t,wd,x,v,k,rfl,B0.W.tupF f1 _ _ ht0,w1,rk,n1,n2,v0,v1,λH2 u2 W2 o2=>?_⟩
   obtain ⟨R2,qs2,w2,c2,f2,hR⟩:=W2
   rw [<- E.rs,<- E.bs,<- E.rt] at w2
   obtain ⟨B2,g2⟩:=B0.both W1 f1 w2 f2 hR ((c1.trans E.ps).trans c2.symm) (rk.do n1)
   rw [<- E.o] at o2
   exact ⟨_,_,rfl,(o1.same λt xs e=>w1.tup f2 t xs e).alk o2 (λz pl lv e=>(Cl6 e).1),kq _ _ _ _ _ _ _ _ B2 ((WFr.same su).trans g2)⟩
  refine ⟨_,(Aa2 (Ac8 (PW.pt (Ah1 (Ab6 (Bq3 (K:=K) rfl) (Ad3 Ad4 (pv 2) Aa5 (λ_ _=>rfl)) (Af5 (Aa0 Ab8 (Aa0 Ab8 Aa3))) rfl) (Af8 (Ab6 Ae4 (Ab9 Ad0 (Ab9 Ad0 (Ab9 Aj8 (pv 3) Aa5) Aa5) Aa5) Aa5 (Ac0 _))))) (Aa2 (Ac5 (i:=4) scStp.nd rfl (Or.inl rfl) Ae8) (Aa2 (Ac5 (i:=5) scStp.nd rfl (Or.inl rfl) Ae8) (Aa2 (Ck6 (i:=6) scStp.nd rfl rfl rfl rfl FL.m (Bw0 (i:=4) scStp.nd rfl (Or.inl rfl) (Ce5 (pv 0) PC.cl M1.m GM1 hr11 M1.b .nil (Aa0 (Ad3 Ad4 (pv 2) Aa5 (λ_ _=>rfl)) (Aa0 (Af6 Ae4 (Ad3 Ad4 (pv 2) Aa5 (λ_ _=>rfl)) Ab8 (Ac0 _)) (Aa0 (Ad3 Ad4 (pv 2) Aa5 (λ_ _=>rfl)) Aa3))))) (λe=>(Aa4 (Ac5 (i:=5) scStp.nd rfl (Or.inl rfl) (Af5 (Aa8 Ab8 (Aa8 (Am5 (K:=K) rfl (pv 6) rfl) (Aa8 (Am5 (K:=K) rfl (pv 6) rfl) (Aa8 (Am5 (K:=K) rfl (pv 6) rfl) Aa3))))))))) (Aa2 (Ac8 (Ab6 Aq0 (pv 5) Ae8 (Ac0 _)) (Aa4 (Ac5 (i:=4) scStp.nd rfl (Or.inl rfl) (pv 5))) Ab0) (Aa4 (Ab2 (Ab3 G1 hr2 (by rfl) D1.m D1.F.kp D1.b .nil Ac1 (Aa0 (pv 4) (Aa0 (Ab3 G2 hr3 (by rfl) D2.m D2.F.kp D2.b .nil Ac1 (Aa0 (pv 1) (Aa0 (Ad3 Ad4 (pv 2) Aa5 (λ_ _=>rfl)) (Aa0 (Af6 Ae4 (Ad3 Ad4 (pv 2) Aa5 (λ_ _=>rfl)) Ab8 (Ac0 _)) (Aa0 (Ad3 Ad4 (pv 2) Aa5 (λ_ _=>rfl)) Aa3))))) Aa3))))))))) Ab0) R1),?_⟩
  refine ⟨_,rfl,t,_,_,.str (wS wd),rfl,rfl,SqT.of ht,rfl,by show 2<=sizeLine; decide,λu hu=>?_⟩
  have su:=Aa6 (o:=.tup [.str "load",.str "save"]) hu
  have zu:upd H u (.tup [.str "load",.str "save"]) u=some (.tup [.str "load",.str "save"]):=upd_same
  generalize upd H u (.tup [.str "load",.str "save"])=H0 at *
  have B0:=B.same su
  have ht0:=su _ _ ht
  have f0:WFr H H0 (BX a h r q aw ps sd D R L qs) (BX a h r q aw ps sd D R L qs):=WFr.same su
  refine ⟨u,_,rfl,.inr (SqT.of zu),rfl,rfl,_,rfl,?_⟩
  refine ite2 (λ_=>⟨_,rfl,c,764261123,rfl,rfl,.inr ⟨by decide,by decide⟩,_,2147483647,rfl,rfl,(by show (0:Int)<2147483647; decide),_,6,rfl,rfl,(by show (0:Int)<6; decide),rfl,_,rfl,ite2 (λ_=>?_) (λ_=>hR1 H0 su)⟩) (λ_=>iteF (hR1 H0 su))
  have ha:=su _ _ ha
  refine ⟨_,rfl,a,dx,fs,rfl,ha,wf.nq _,_,rfl,t,_,_,.int (x:Int),rfl,rfl,SqT.of ht0,rfl,_,rfl,t,_,_,.str (wS wd),rfl,rfl,SqT.of ht0,rfl,rfl,_,rfl,t,_,_,.bl k,rfl,rfl,SqT.of ht0,rfl,?_⟩
  generalize hwr:decide (V.str (wS wd)=V.str "save")=wr
  refine ⟨a,m,h,r,q,aw,ps,n,rs,bs,rt,x,wr,k,rfl,B0.W,hl,rk.rn,λp hp=>?_,λhm=>⟨λz lv hz H1 s1' d hd=>⟨XF,λe he=>?_⟩,λp1 pg tw lw hz H1 W1 kp=>?_⟩⟩
  ·have e1:=Ak7 (n:=n) (rt:=rt) hp
   have W1:=B0.W
   have f1:WFr H H0 (Foot a h r q aw ps) (Foot a h r q aw ps):=WFr.same su
   refine ⟨_,rfl,rfl,_,rfl,Ac3 rfl ?_⟩
   obtain ⟨w1,ap1⟩:=B.w.way B.W B.ap f1
   have ht1:=B.W.tupF f1 _ _ ht
   have ce:=Ao8 B.c n rs rt x wr k
   rw [e1] at ce
   refine ⟨_,rfl,_,rfl,_,rfl,t,_,_,.int (x:Int),rfl,rfl,SqT.of ht1,rfl,_,rfl,t,_,_,.str (wS wd),rfl,rfl,SqT.of ht1,rfl,rfl,_,rfl,t,_,_,.bl k,rfl,rfl,SqT.of ht1,rfl,sd,D,R,L,qs,n,rs,bs,rt,x,_,k,rfl,w1,rk,n1,n2,λp2 qs2 rs2 e2 H2 R2 w2 f2 hR=>?_,λz2 lv2 e2 H2 t2 s2 zt2=>?_⟩
   ·rw [hwr] at e2
    rw [e2] at ce
    obtain ⟨rfl,cc,rfl⟩:=ce
    obtain ⟨B2,g2⟩:=B.both W1 f1 w2 f2 hR cc (rk.rch e1)
    exact ⟨_,_,rfl,.int _,kq _ _ _ _ _ _ _ _ B2 g2⟩
   ·rw [hwr] at e2
    rw [e2] at ce
    cases ce
  ·obtain ⟨ze,zd,ss⟩:=hand H1 z (x:Int) lv (su.trans s1') d hd e he
   refine ⟨_,rfl,e,FA,d,_,_,rfl,ze,zd,FL.x,FL.nk,Bn3 _ _ _,_,rfl,e,FA,d,_,_,rfl,ze,zd,FL.x,FL.np,Bd2 _ _ _,_,rfl,e,FA,d,_,_,rfl,ze,zd,FL.x,FL.nl,Bd3 _ _ _,  by show 4<=sizeLine; decide,λtf htf=>⟨_,rfl,rfl,_,rfl,Ae7 (by show (!decide (V.ref tf=V.non))=true; rw [decide_eq_false nofun]; rfl) ⟨_,rfl,?_⟩⟩⟩
   have e1:=Ay7 (n:=n) hm hz
   have s1:=ss.trans (Aa6 (o:=.tup [.str "fault",.str z,.int (x:Int),.int (lv:Int)]) htf)
   have zt1:upd (upd (upd H1 d (xdo d (ffF [.str z,.int (x:Int),.int (lv:Int)]))) e (xob e (.ref FA) (some d))) tf (.tup [.str "fault",.str z,.int (x:Int),.int (lv:Int)]) tf=some (.tup [.str "fault",.str z,.int (x:Int),.int (lv:Int)]):=upd_same
   have B1:=B.same s1
   have ht1:=s1 _ _ ht
   have ce:=Ao8 B.c n rs rt x wr k
   rw [e1] at ce
   refine ⟨_,rfl,_,rfl,_,rfl,t,_,_,.int (x:Int),rfl,rfl,SqT.of ht1,rfl,_,rfl,t,_,_,.str (wS wd),rfl,rfl,SqT.of ht1,rfl,rfl,_,rfl,t,_,_,.bl k,rfl,rfl,SqT.of ht1,rfl,sd,D,R,L,qs,n,rs,bs,rt,x,_,k,rfl,B1.w,rk,n1,n2,λp2 qs2 rs2 e2 H2 R2 w2 f2 hR=>?_,λz2 lv2 e2 H2 t2 s2 zt2=>?_⟩
   ·rw [hwr] at e2
    rw [e2] at ce
    cases ce
   ·rw [hwr] at e2
    rw [e2] at ce
    obtain ⟨rfl,rfl⟩:=ce
    exact ⟨_,_,rfl,.flt (Bv7 e1).1 (s2 _ _ zt1) zt2,kq _ _ _ _ _ _ _ _ (B1.same s2) (WFr.same (s1.trans s2))⟩
  ·have e1:=Ao7 (n:=n) hm hz
   have f1:WFr H H1 (Foot a h r q aw ps) (Foot a h r q aw (mkT ps rt x p1 wr)):=(WFr.same su).trans (kp.fr λb z=>Be2 z)
   refine ⟨_,rfl,rfl,_,rfl,Ac3 rfl ?_⟩
   obtain ⟨w1,ap1⟩:=B.w.way B.W B.ap f1
   have ht1:=B.W.tupF f1 _ _ ht
   have ce:=Ao8 B.c n rs rt x wr k
   rw [e1] at ce
   refine ⟨_,rfl,_,rfl,_,rfl,t,_,_,.int (x:Int),rfl,rfl,SqT.of ht1,rfl,_,rfl,t,_,_,.str (wS wd),rfl,rfl,SqT.of ht1,rfl,rfl,_,rfl,t,_,_,.bl k,rfl,rfl,SqT.of ht1,rfl,sd,D,R,L,qs,n,rs,bs,rt,x,_,k,rfl,w1,rk,n1,n2,λp2 qs2 rs2 e2 H2 R2 w2 f2 hR=>?_,λz2 lv2 e2 H2 t2 s2 zt2=>?_⟩
   ·rw [hwr] at e2
    rw [e2] at ce
    obtain ⟨rfl,cc,rfl⟩:=ce
    obtain ⟨B2,g2⟩:=B.both W1 f1 w2 f2 hR cc (rk.rch e1)
    exact ⟨_,_,rfl,.int _,kq _ _ _ _ _ _ _ _ B2 g2⟩
   ·rw [hwr] at e2
    rw [e2] at ce
    cases ce
end
end K28
end
section
namespace K28
open PySem L2
theorem Bo.notup {C SC PL:Addr} {H:Hp} {a m h r q aw:Addr} {ps:Pgs} {n:Int} {rs:Rs} {bs:List Bool} {rt:Nat} {sd D R L:Addr} {qs:Pgs} (B:Bo C SC PL H a m h r q aw ps n rs bs rt sd D R L qs) {b:Addr} {xs:List V} (e:H b=some (.tup xs)):¬ BX a h r q aw ps sd D R L qs b:=λz=>by
 rcases z with (z | z) | z
 ·obtain ⟨o,v,ne⟩:=B.W.live z
  rw [e] at v
  exact ne xs (Option.some.inj v).symm
 ·rcases B.w.foot z with ⟨u,v⟩ | ⟨u,v⟩ <;> rw [e] at v <;> cases v
 ·obtain ⟨ys,er,_⟩:=B.w.t.ls
  rw [z,er] at e; cases e
theorem Bo.oth {C SC PL:Addr} {H:Hp} {a m h r q aw:Addr} {ps:Pgs} {n:Int} {rs:Rs} {bs:List Bool} {rt:Nat} {sd D R L:Addr} {qs:Pgs} (B:Bo C SC PL H a m h r q aw ps n rs bs rt sd D R L qs) {b:Addr} {xs:List V} {o:HO} (e:H b=some (.lst xs)) (nb:¬ BX a h r q aw ps sd D R L qs b):Bo C SC PL (upd H b o) a m h r q aw ps n rs bs rt sd D R L qs:=by
 have k:∀ c o',c≠b->H c=some o'->upd H b o c=some o':=λc o' nc e=>by rw [Aa7 nc]; exact e
 refine ⟨B.W.frame (X:=λc=>c=b) (λc o' nc e=>k c o' nc e) (λc hc z=>nb (.inl (.inl (hc ▸ z)))) (λc hc=>.inl ⟨xs,hc ▸ e⟩),⟨k _ _ (λz=>nb (.inl (.inr (.inl z.symm)))) B.w.d,B.w.g.keep λc hc=>Aa7 (λz=>nb (.inl (.inr (.inr (.inr (z ▸ hc)))))),B.w.gd,B.w.t.keep (λys e=>k _ _ (λz=>nb (.inr z.symm)) e) (λc ys e'=>k _ _ (Af1 e' e (by intro z; cases z)) e'),k _ _ (λz=>nb (.inl (.inr (.inr (.inl z.symm))))) B.w.l,B.w.nL,B.w.nR⟩,B.c,B.k,B.ap⟩
theorem WFr.out {H H':Hp} {X X':Addr->Prop} (f:WFr H H' X X') {b:Addr} {o:HO} (e:H b=some o) (nb:¬ X b):¬ X' b:=λz=>by
 rcases f.gr b z with y | y
 ·exact nb y
 ·rw [e] at y; cases y
structure Hd (H:Hp) (X:Addr->Prop) (hd:Addr) (ts:List Addr):Prop where
 e:H hd=some (.lst (ts.map V.ref))
 nx:¬ X hd
 it:∀ t ∈ ts,∃ l1 l2 ys rs,H t=some (.tup [.ref l1,.ref l2])/\H l1=some (.lst ys)/\H l2=some (.lst ys)/\Trs H ys rs/\(¬ X l1/\l1≠hd)/\(¬ X l2/\l2≠hd)
theorem Hd.step {H H':Hp} {X X':Addr->Prop} {hd:Addr} {ts:List Addr} (h:Hd H X hd ts) (f:WFr H H' X X') (nt:∀ b xs,H b=some (.tup xs)->H' b=some (.tup xs)):Hd H' X' hd ts:=by
 refine ⟨f.kp _ _ h.nx h.e,f.out h.e h.nx,λt ht=>?_⟩
 obtain ⟨l1,l2,ys,rs,e,e1,e2,ty,n1,n2⟩:=h.it t ht
 exact ⟨l1,l2,ys,rs,nt _ _ e,f.kp _ _ n1.1 e1,f.kp _ _ n2.1 e2,ty.imp nt,⟨f.out e1 n1.1,n1.2⟩,⟨f.out e2 n2.1,n2.2⟩⟩
theorem Hd.same {H H':Hp} {X:Addr->Prop} {hd:Addr} {ts:List Addr} (h:Hd H X hd ts) (s:Same H H'):Hd H' X hd ts:=h.step (WFr.same s) λb xs e=>s _ _ e
theorem Hd.add {H:Hp} {X:Addr->Prop} {hd t l1 l2:Addr} {ts:List Addr} {ys:List V} {rs:Rs} (h:Hd H X hd ts) (e:H t=some (.tup [.ref l1,.ref l2])) (e1:H l1=some (.lst ys)) (e2:H l2=some (.lst ys)) (ty:Trs H ys rs) (n1:¬ X l1/\l1≠hd) (n2:¬ X l2/\l2≠hd):Hd (upd H hd (.lst (ts.map V.ref++[.ref t]))) X hd (ts++[t]):=by
 have k:∀ c o',c≠hd->H c=some o'->upd H hd (.lst (ts.map V.ref++[.ref t])) c=some o':=λc o' nc e=>by rw [Aa7 nc]; exact e
 have nt:∀ b xs,H b=some (.tup xs)->upd H hd (.lst (ts.map V.ref++[.ref t])) b=some (.tup xs):=λb xs e'=>k _ _ (Af1 e' h.e (by intro z; cases z)) e'
 refine ⟨by rw [upd_same,List.map_append]; rfl,h.nx,λu hu=>?_⟩
 rcases List.mem_append.mp hu with z | z
 ·obtain ⟨m1,m2,zs,us,f,f1,f2,tz,p1,p2⟩:=h.it u z
  exact ⟨m1,m2,zs,us,nt _ _ f,k _ _ p1.2 f1,k _ _ p2.2 f2,tz.imp nt,p1,p2⟩
 ·rw [List.mem_singleton.mp z]
  exact ⟨l1,l2,ys,rs,nt _ _ e,k _ _ n1.2 e1,k _ _ n2.2 e2,ty.imp nt,n1,n2⟩
def Cd0 (K:PySem.W.Frag):Sp:=λvs H Q _=>∃ (a:Addr) (ns:List Int),vs=[.ref a]/\SqL K H a (ns.map V.int)/\ns.length<=63/\∀ H',Q (.bl true) H'
structure LI (C SC PL:Addr) (H:Hp) (a m h r q aw:Addr) (ps:Pgs) (n:Int) (rs:Rs) (bs:List Bool) (rt:Nat) (sd D R L:Addr) (qs:Pgs) (P0 sl hd:Addr) (xs0 ms:List V) (ts:List Addr):Prop where
 B:Bo C SC PL H a m h r q aw ps n rs bs rt sd D R L qs
 d:Hd H (BX a h r q aw ps sd D R L qs) hd ts
 p:H P0=some (.lst xs0)/\¬ BX a h r q aw ps sd D R L qs P0/\P0≠hd
 s:H sl=some (.lst ms)/\¬ BX a h r q aw ps sd D R L qs sl/\sl≠hd
theorem LI.same {C SC PL:Addr} {H H':Hp} {a m h r q aw:Addr} {ps:Pgs} {n:Int} {rs:Rs} {bs:List Bool} {rt:Nat} {sd D R L:Addr} {qs:Pgs} {P0 sl hd:Addr} {xs0 ms:List V} {ts:List Addr} (I:LI C SC PL H a m h r q aw ps n rs bs rt sd D R L qs P0 sl hd xs0 ms ts) (s:Same H H'):LI C SC PL H' a m h r q aw ps n rs bs rt sd D R L qs P0 sl hd xs0 ms ts:=⟨I.B.same s,I.d.same s,⟨s _ _ I.p.1,I.p.2⟩,⟨s _ _ I.s.1,I.s.2⟩⟩
theorem LI.step {C SC PL:Addr} {H H':Hp} {a m h r q aw q':Addr} {ps ps':Pgs} {n:Int} {rs rs':Rs} {bs bs':List Bool} {rt rt':Nat} {sd D R L R':Addr} {qs qs':Pgs} {P0 sl hd:Addr} {xs0 ms:List V} {ts:List Addr} (I:LI C SC PL H a m h r q aw ps n rs bs rt sd D R L qs P0 sl hd xs0 ms ts) (B:Bo C SC PL H' a m h r q' aw ps' n rs' bs' rt' sd D R' L qs') (f:WFr H H' (BX a h r q aw ps sd D R L qs) (BX a h r q' aw ps' sd D R' L qs')):LI C SC PL H' a m h r q' aw ps' n rs' bs' rt' sd D R' L qs' P0 sl hd xs0 ms ts :=
 ⟨B,I.d.step f λb xs e=>f.kp _ _ (I.B.notup e) e,⟨f.kp _ _ I.p.2.1 I.p.1,f.out I.p.1 I.p.2.1,I.p.2.2⟩,⟨f.kp _ _ I.s.2.1 I.s.1,f.out I.s.1 I.s.2.1,I.s.2.2⟩⟩
theorem LI.fresh {C SC PL:Addr} {H:Hp} {a m h r q aw:Addr} {ps:Pgs} {n:Int} {rs:Rs} {bs:List Bool} {rt:Nat} {sd D R L:Addr} {qs:Pgs} {P0 sl hd:Addr} {xs0 ms:List V} {ts:List Addr} (I:LI C SC PL H a m h r q aw ps n rs bs rt sd D R L qs P0 sl hd xs0 ms ts) {l:Addr} (e:H l=none):¬ BX a h r q aw ps sd D R L qs l/\l≠hd:=by
 refine ⟨λz=>?_,λz=>?_⟩
 ·rcases z with (z | z) | z
  ·obtain ⟨o,v,_⟩:=I.B.W.live z
   rw [e] at v; cases v
  ·rcases I.B.w.foot z with ⟨u,v⟩ | ⟨u,v⟩ <;> rw [e] at v <;> cases v
  ·obtain ⟨ys,er,_⟩:=I.B.w.t.ls
   rw [z,er] at e; cases e
 ·rw [z,I.d.e] at e; cases e
theorem LI.add {C SC PL:Addr} {H:Hp} {a m h r q aw:Addr} {ps:Pgs} {n:Int} {rs us:Rs} {bs:List Bool} {rt:Nat} {sd D R L:Addr} {qs:Pgs} {P0 sl hd t l1 l2:Addr} {xs0 ms ys:List V} {ts:List Addr} (I:LI C SC PL H a m h r q aw ps n rs bs rt sd D R L qs P0 sl hd xs0 ms ts) (e:H t=some (.tup [.ref l1,.ref l2])) (e1:H l1=some (.lst ys)) (e2:H l2=some (.lst ys)) (ty:Trs H ys us) (n1:¬ BX a h r q aw ps sd D R L qs l1/\l1≠hd) (n2:¬ BX a h r q aw ps sd D R L qs l2/\l2≠hd):LI C SC PL (upd H hd (.lst (ts.map V.ref++[.ref t]))) a m h r q aw ps n rs bs rt sd D R L qs P0 sl hd xs0 ms (ts++[t]) :=
 ⟨I.B.oth I.d.e I.d.nx,I.d.add e e1 e2 ty n1 n2,⟨by rw [Aa7 I.p.2.2]; exact I.p.1,I.p.2⟩,⟨by rw [Aa7 I.s.2.2]; exact I.s.1,I.s.2⟩⟩
section
variable {P : Program} {w : World} {K : PySem.W.Frag} {mg : Str → Option Value} {base : Heap} {C NP NL NW NI SC PL WC FA : Addr}
theorem scLa:Ab5 ["_law_script","_law_pages_here","_law_most","_law_rest","_law_way","_law_state","_law_held","_law_cell","_law_deed_here","_law_rows","_law_kept_here"] ["_law_script"] (Aa1 sLaw):=FSc
theorem ndLa:(Ar5 "_law_cell" ["_law_script","_law_pages_here","_law_most","_law_rest","_law_way","_law_state","_law_held","_law_cell","_law_deed_here","_law_rows","_law_kept_here"]).Nodup:=by decide +kernel
theorem De5:(".0":Str) ∉ (["_law_script","_law_pages_here","_law_most","_law_rest","_law_way","_law_state","_law_held","_law_cell","_law_deed_here","_law_rows","_law_kept_here"]:List Str):=by decide +kernel
theorem Cy4 {f f0 f1 f2 f3 f4 f5 f6 f7 f8 f9 f10:Addr} {fd fd0 fd1 fd2 fd3 fd4 fd5 fd6 fd7 fd8 fd9 fd10:FuncData} (F:Fun K "law" "law" sLaw f fd) (D1:Dn K mg "_law_cell_at" Ba8 ["_law_script","_law_k"] f1 fd1) (G1:FnOk P w K mg base CX0 1 f1 fd1 ["_law_script","_law_k"] (Bl9 K)) (D2:Dn K mg "_law_pages" sPgs ["_law_script"] f2 fd2) (G2:FnOk P w K mg base CX0 2 f2 fd2 ["_law_script"] (Cm6 K)) (D3:Dn K mg "_law_copy" Bh8 ["_law_pages_here"] f3 fd3) (G3:FnOk P w K mg base CX0 1 f3 fd3 ["_law_pages_here"] Bu7) (D4:Dn K mg "_law_deed" Ay5 ["_law_cell","_law_many"] f4 fd4) (G4:FnOk P w K mg base CX0 3 f4 fd4 ["_law_cell","_law_many"] Bf6) (D5:Dn K mg "_law_step" Ao2 ["_law_way","_law_state","_law_deed_here","_law_cell"] f5 fd5) (G5:FnOk P w K mg base CX0 15 f5 fd5 ["_law_way","_law_state","_law_deed_here","_law_cell"] (Be8 C SC PL)) (D6:Dn K mg "_law_is_shelf" sIsS ["_law_found","_law_due_here"] f6 fd6) (G6:FnOk P w K mg base CX0 2 f6 fd6 ["_law_found","_law_due_here"] Cm9) (D7:Dn K mg "_law_is_image" sIsI ["_law_found","_law_due_here"] f7 fd7) (G7:FnOk P w K mg base CX0 2 f7 fd7 ["_law_found","_law_due_here"] Cn0) (M1:Me K PL "root" "Ways.root" Bg5 ["self"] f8 fd8) (GM1:FnOk P w K mg base CX0 1 f8 fd8 ["self"] (Bt3 C SC PL)) (M2:Me K PL "shelf" "Ways.shelf" At2 ["self"] f9 fd9) (GM2:FnOk P w K mg base CX0 2 f9 fd9 ["self"] (Be9 C SC PL)) (M3:Me K PL "pages" "Ways.pages" An4 ["self"] f10 fd10) (GM3:FnOk P w K mg base CX0 5 f10 fd10 ["self"] (Ax1 C SC PL)) (MK:Mk K PL f0) (mP:mg "Plain"=some (.ref PL)) (BI:Binds K fd0 ["self","pages","most","words"] []) (GI:FnOk P w K mg base CX0 8 f0 fd0 ["self","pages","most","words"] (Bf3 C SC PL)) (PC:Plc K PL) (T:Txt K mg):FnOk P w K mg base CX0 16 f fd ["_law_script"] (Cd0 K):=by
 refine F.ok scLa (λvs H Q E h=>?_) (λcdv A1 outer s H vs Q E hr h=>?_)
 ·obtain ⟨x,ns,rfl,_⟩:=h
  rfl
 ·obtain ⟨x,ns,rfl,hS,hns,q0⟩:=h
  have hr9:Room 9 _:=hr.mono (by decide)
  have hr5:Room 5 _:=hr.mono (by decide)
  have hr3:Room 3 _:=hr.mono (by decide)
  have hr2:Room 2 _:=hr.mono (by decide)
  have hr1:Room 1 _:=hr.mono (by decide)
  obtain ⟨t7,R7,hR7⟩:∃ tr,PSs (cxOf CX0 P w K mg base ["_law_script","_law_pages_here","_law_most","_law_rest","_law_way","_law_state","_law_held","_law_cell","_law_deed_here","_law_rows","_law_kept_here"] "law" (Aa1 sLaw) f cdv A1 outer s H E).nox ((Aa9 sLaw).drop 7) tr/\∀ (H1:Hp) (a m h r q aw:Addr) (ps:Pgs) (n:Int) (rs:Rs) (bs:List Bool) (rt:Nat) (sd D R L:Addr) (qs:Pgs) (P0 sl hd:Addr) (xs0 ms:List V) (ts:List Addr) (v1 v2 v3 v7 v8 v9:Option V),LI C SC PL H1 a m h r q aw ps n rs bs rt sd D R L qs P0 sl hd xs0 ms ts->tr { nx:=λ_ H'=>Q .non H',rt:=Q } [some (.ref x),v1,v2,v3,some (.ref a),some (.ref sd),some (.ref hd),v7,v8,v9,none] H1:=by
   refine ⟨_,(Aa2 (Ah9 PassesOwn.never rfl (Af9 (pv 6)) (Aq9 rfl (Ae1 (Ad5 (i:=9) scLa.nd rfl (Or.inl rfl)) (Ae1 (Ad5 (i:=10) scLa.nd rfl (Or.inl rfl)) Al8))) (Aa4 (Ac8 (Ab6 (Ck8 hr.units) (pv 9) (pv 10) (Ac0 _)) (Aa4 (Ab2 Ah7)) Ab0))) (Aa4 (Ab2 (Ab3 G7 hr2 (by rfl) D7.m D7.F.kp D7.b .nil Ac1 (Aa0 (Ag3 (pv 4) PC.cl M3.m GM3 hr5 M3.b .nil Ac1) (Aa0 (Ag5 (Aj3 hr) (pv 5) Ab8 (by intro _ _; rfl)) Aa3)))))),λH1 a m h r q aw ps n rs bs rt sd D R L qs P0 sl hd xs0 ms ts v1 v2 v3 v7 v8 v9 I=>?_⟩
   refine ⟨_,rfl,hd,rfl,⟨_,SqL.of I.d.e⟩,Ah0 (K:=K) (a:=hd) (xs:=ts.map V.ref) (λi σ H'=>H'=H1/\∃ v9 v10:Option V,σ=[some (.ref x),v1,v2,v3,some (.ref a),some (.ref sd),some (.ref hd),v7,v8,v9,v10]) ?_ ?_ ?_ ?_⟩
   ·exact ⟨rfl,_,_,rfl⟩
   ·rintro i σ H' _ ⟨rfl,_⟩
    exact SqL.of I.d.e
   ·rintro i y σ H' hi ⟨rfl,v9,v10,rfl⟩
    rw [List.getElem?_map] at hi
    cases ec:ts[i]? with
    | none=>rw [ec] at hi; cases hi
    | some t =>
    rw [ec] at hi
    cases hi
    obtain ⟨l1,l2,ys,us,e,e1,e2,ty,n1,n2⟩:=I.d.it t (List.mem_of_getElem? ec)
    refine ⟨t,_,rfl,SqT.of e,rfl,_,_,rfl,_,_,rfl,rfl,?_⟩
    refine ⟨_,rfl,_,rfl,_,_,.lst (SqL.of e1) ty.dat,.lst (SqL.of e2) ty.dat,Ay0 _,Ay0 _,?_⟩
    rw [show PyData.eqv (.list (us.map dT)) (.list (us.map dT))=true from (Bo3 _).2.2]
    exact ⟨_,rfl,iteF ⟨rfl,_,_,rfl⟩⟩
   ·rintro σ H' ⟨rfl,v9,v10,rfl⟩
    have W:=I.B.W
    refine ⟨_,rfl,a,_,_,rfl,W.ob.choose_spec.choose_spec.1,W.ob.choose_spec.choose_spec.2.nq _,a,m,h,r,q,aw,ps,n,rs,bs,(rt:Int),rfl,W,λD3 H2 qs3 s2 g2 c2 f2=>?_⟩
    have B2:=I.B.same s2
    exact ⟨_,rfl,sd,_,rfl,B2.w.pages,D3,D,qs3,qs,rfl,g2,B2.w.g,Ap4 c2 W.M.good,c2.trans I.B.c,by have:=Am7 c2; have:=W.M.len; omega,q0 _⟩
  obtain ⟨t6,R6,hR6⟩:∃ tr,PSs (cxOf CX0 P w K mg base ["_law_script","_law_pages_here","_law_most","_law_rest","_law_way","_law_state","_law_held","_law_cell","_law_deed_here","_law_rows","_law_kept_here"] "law" (Aa1 sLaw) f cdv A1 outer s H E).nox ((Aa9 sLaw).drop 6) tr/\∀ (H1:Hp) (a m h r q aw:Addr) (ps:Pgs) (n:Int) (bs:List Bool) (sd D R L:Addr) (qs:Pgs) (P0 hd:Addr) (xs0:List V) (v2 v3:Option V),Bo C SC PL H1 a m h r q aw ps n [] bs 0 sd D R L qs->H1 hd=some (.lst [])->¬ BX a h r q aw ps sd D R L qs hd->H1 P0=some (.lst xs0)->¬ BX a h r q aw ps sd D R L qs P0->P0≠hd->1<=xs0.length->xs0.length<=24->SqL K H1 x (ns.map V.int)->tr { nx:=λ_ H'=>Q .non H',rt:=Q } [some (.ref x),some (.ref P0),v2,v3,some (.ref a),some (.ref sd),some (.ref hd),none,none,none,none] H1:=by
   refine ⟨_,(Aa2 (Ah9 PassesOwn.never rfl (Af9 (Am6 Ap8 (pv 0) (An6 Aa5) (An6 Aa5))) (Ad5 (i:=7) scLa.nd rfl (Or.inl rfl)) (Aa2 (Ac5 (i:=8) scLa.nd rfl (Or.inl rfl) (Ab3 G4 hr3 (by rfl) D4.m D4.F.kp D4.b .nil Ac1 (Aa0 (pv 7) (Aa0 (Ac9 Ad2 (by rfl) T.len PySem.boot_len (Aa0 (pv 1) Aa3)) Aa3)))) (Aa2 (Ac8 (PW.pt (Al7 (Ae0 (Ad1 (Ab3 G5 hr (by rfl) D5.m D5.F.kp D5.b .nil Ac1 (Aa0 (pv 4) (Aa0 (pv 5) (Aa0 (pv 8) (Aa0 (pv 7) Aa3))))))) (Ai5 (Ab6 Bq1 (Ag3 (pv 4) PC.cl M1.m GM1 hr1 M1.b .nil Ac1) (Ag5 (Aj3 hr) (pv 5) Ab8 (by intro _ _; rfl)) (Ac0 _))))) (Aa4 (Ab2 Ah7)) Ab0) (Aa2 (Ac5 (i:=9) scLa.nd rfl (Or.inl rfl) (Ag3 (pv 4) PC.cl M2.m GM2 hr2 M2.b .nil Ac1)) (Aa2 (Ac8 (Ae0 (Ad1 (Ab3 G6 hr2 (by rfl) D6.m D6.F.kp D6.b .nil Ac1 (Aa0 (pv 9) (Aa0 (Ag5 (Aj3 hr) (pv 5) Ab8 (by intro _ _; rfl)) Aa3))))) (Aa4 (Ab2 Ah7)) Ab0) (Aa2 (Ad7 (Bb2 PySem.F.plainAttrs_list PySem.F.slot_list_append PySem.F.type_list_append Ah6 (pv 6) (Aa0 (Af5 (Aa0 (pv 9) (Aa0 (Ah5 Ag6 (by rfl) T.lst PyProof.Rows.boot_list (Aa0 (pv 9) Aa3)) Aa3))) Aa3))) (Aa4 (Ac8 (PW.pt (Ah1 (Ab6 Ae4 (Ab9 Ad0 (pv 7) Aa5) Aa5 (Ac0 _)) (Af8 (Ae0 (Ad1 (Ab3 G7 hr2 (by rfl) D7.m D7.F.kp D7.b .nil Ac1 (Aa0 (Ag3 (pv 4) PC.cl M3.m GM3 hr5 M3.b .nil Ac1) (Aa0 (Ag5 (Aj3 hr) (pv 5) Ab8 (by intro _ _; rfl)) Aa3)))))))) (Aa4 (Ab2 Ah7)) Ab0)))))))) R7),λH1 a m h r q aw ps n bs sd D R L qs P0 hd xs0 v2 v3 B zh nh zp np nph l1 l24 hS1=>?_⟩
   refine ⟨_,rfl,2,rfl,86,rfl,x,_,rfl,hS1,λsl hsl=>?_⟩
   obtain ⟨ms,hms,hml⟩:=Bo4 ns (some 2) (some 86)
   rw [hms]
   have s2:=Aa6 (o:=.lst (ms.map V.int)) hsl
   have zsl:upd H1 sl (.lst (ms.map V.int)) sl=some (.lst (ms.map V.int)):=upd_same
   have I0:LI C SC PL H1 a m h r q aw ps n [] bs 0 sd D R L qs P0 P0 hd xs0 xs0 []:=⟨B,⟨zh,nh,λt ht=>by cases ht⟩,⟨zp,np,nph⟩,⟨zp,np,nph⟩⟩
   have fs:=I0.fresh hsl
   have I2:LI C SC PL (upd H1 sl (.lst (ms.map V.int))) a m h r q aw ps n [] bs 0 sd D R L qs P0 sl hd xs0 (ms.map V.int) []:=⟨(I0.same s2).B,(I0.same s2).d,(I0.same s2).p,⟨zsl,fs⟩⟩
   generalize upd H1 sl (.lst (ms.map V.int))=H2 at *
   refine ⟨sl,rfl,⟨_,SqL.of zsl⟩,Ah0 (K:=K) (a:=sl) (xs:=ms.map V.int) (λi σ H'=>∃ (q':Addr) (ps':Pgs) (rs':Rs) (bs':List Bool) (rt':Nat) (R':Addr) (qs':Pgs) (ts:List Addr) (v7 v8 v9:Option V),σ=[some (.ref x),some (.ref P0),v2,v3,some (.ref a),some (.ref sd),some (.ref hd),v7,v8,v9,none]/\LI C SC PL H' a m h r q' aw ps' n rs' bs' rt' sd D R' L qs' P0 sl hd xs0 (ms.map V.int) ts/\ts.length=i) ?_ ?_ ?_ ?_⟩
   ·exact ⟨_,_,_,_,_,_,_,_,_,_,_,rfl,I2,rfl⟩
   ·rintro i σ H' _ ⟨_,_,_,_,_,_,_,_,_,_,_,_,I,_⟩
    exact SqL.of I.s.1
   ·rintro i y σ H' hi ⟨q1,ps1,rs1,bs1,rt1,R1,qs1,ts,v7,v8,v9,rfl,I,hts⟩
    rw [List.getElem?_map] at hi
    cases ec:ms[i]? with
    | none=>rw [ec] at hi; cases hi
    | some c =>
    rw [ec] at hi
    cases hi
    have hil:i<ms.length:=(List.getElem?_eq_some_iff.mp ec).1
    refine ⟨_,rfl,_,rfl,P0,_,rfl,.inl (SqL.of I.p.1),c,xs0.length,rfl,l1,l24,λt wd xx v k H3 s3 zt v0 v1=>?_⟩
    have I3:=I.same s3
    refine ⟨_,rfl,_,rfl,_,rfl,_,rfl,a,m,h,r,q1,aw,ps1,n,rs1,bs1,rt1,sd,D,R1,L,qs1,t,wd,xx,v,k,c,rfl,zt,v0,v1,I3.B,λH4 q4 ps4 rs4 bs4 rt4 R4 qs4 B4 f4=>?_⟩
    have I4:=I3.step B4 f4
    have W4:=I4.B.W
    refine ⟨_,rfl,iteF ⟨_,rfl,a,_,_,rfl,W4.ob.choose_spec.choose_spec.1,W4.ob.choose_spec.choose_spec.2.nq _,a,m,h,r,q4,aw,ps4,n,rs4,bs4,(rt4:Int),rfl,W4,_,rfl,sd,_,rfl,I4.B.w.root,rfl,_,rfl,Ac3 (by show (!decide (V.int (rt4:Int)=V.int (rt4:Int)))=false; rw [decide_eq_true rfl]; rfl) ?_⟩⟩
    refine ⟨_,rfl,a,_,_,rfl,W4.ob.choose_spec.choose_spec.1,W4.ob.choose_spec.choose_spec.2.nq _,a,m,h,r,q4,aw,ps4,n,rs4,bs4,(rt4:Int),rfl,W4,λl1 H5 s5 hl1 tl1=>?_⟩
    have I5:=I4.same s5
    have fl1:=I4.fresh hl1
    have l13:rs4.length<=13:=by have:=I4.B.k.ln; have:=W4.S.n2; omega
    refine ⟨_,rfl,_,rfl,sd,_,rfl,I5.B.w.rows,l1,R4,rs4,rfl,tl1,I5.B.w.t,l13,_,rfl,iteF ?_⟩
    obtain ⟨ys,e1,ty⟩:=tl1.ls
    refine ⟨_,rfl,.inl ⟨rfl,_,SqL.of I5.d.e⟩,_,rfl,_,rfl,l1,_,rfl,.inl (SqL.of e1),λl2 hl2=>?_⟩
    have s6:=Aa6 (o:=.lst ys) hl2
    have e2:upd H5 l2 (.lst ys) l2=some (.lst ys):=upd_same
    have fl2:=I5.fresh hl2
    generalize upd H5 l2 (.lst ys)=H6 at *
    have I6:=I5.same s6
    refine ⟨by show 2<=sizeLine; decide,λt7 ht7=>?_⟩
    have s7:=Aa6 (o:=.tup [.ref l1,.ref l2]) ht7
    have z7:upd H6 t7 (.tup [.ref l1,.ref l2]) t7=some (.tup [.ref l1,.ref l2]):=upd_same
    generalize upd H6 t7 (.tup [.ref l1,.ref l2])=H7 at *
    have I7:=I6.same s7
    refine ⟨hd,_,_,rfl,rfl,I7.d.e,?_,?_⟩
    ·rw [List.length_map]
     exact Nat.lt_of_lt_of_le (show ts.length<1001 by omega) (by decide)
    have s57:=s6.trans s7
    have I8:=I7.add z7 (s57 _ _ e1) (s7 _ _ e2) (ty.imp λt xs e=>s57 _ _ e) fl1 fl2
    generalize upd H7 hd (.lst (ts.map V.ref++[.ref t7]))=H8 at *
    have hts8:(ts++[t7]).length=i+1:=by rw [List.length_append,hts]; rfl
    refine ⟨_,rfl,c,4,rfl,rfl,(by show (0:Int)<4; decide),rfl,_,rfl,ite2 (λ_=>?_) (λ_=>iteF ⟨_,_,_,_,_,_,_,_,_,_,_,rfl,I8,hts8⟩)⟩
    have W8:=I8.B.W
    refine ⟨_,rfl,a,_,_,rfl,W8.ob.choose_spec.choose_spec.1,W8.ob.choose_spec.choose_spec.2.nq _,a,m,h,r,q4,aw,ps4,n,rs4,bs4,(rt4:Int),rfl,W8,λD3 H9 qs3 s9 g9 c9 f9=>?_⟩
    have I9:=I8.same s9
    exact ⟨_,rfl,sd,_,rfl,I9.B.w.pages,D3,D,qs3,qs4,rfl,g9,I9.B.w.g,Ap4 c9 W8.M.good,c9.trans I8.B.c,by have:=Am7 c9; have:=W8.M.len; omega,_,rfl,iteF ⟨_,_,_,_,_,_,_,_,_,_,_,rfl,I9,hts8⟩⟩
   ·rintro σ H' ⟨q1,ps1,rs1,bs1,rt1,R1,qs1,ts,v7,v8,v9,rfl,I,hts⟩
    exact hR7 _ _ _ _ _ _ _ _ _ _ _ _ _ _ _ _ _ _ _ _ _ _ _ _ _ _ _ _ _ I
  refine ⟨_,(Aa2 (Ac5 (i:=1) scLa.nd rfl (Or.inl rfl) (Ab3 G2 hr2 (by rfl) D2.m D2.F.kp D2.b .nil Ac1 (Aa0 (pv 0) Aa3))) (Aa2 (Ac5 (i:=2) scLa.nd rfl (Or.inl rfl) (Ab9 Ag8 Aa5 (Ab9 Ad0 (Ab3 G1 hr1 (by rfl) D1.m D1.F.kp D1.b .nil Ac1 (Aa0 (pv 0) (Aa0 Aa5 Aa3))) Aa5))) (Aa2 (Co9 (i:=3) scLa.nd rfl rfl rfl (cl:=[]) (tc:=tYes) (te:=tOp (rI0 λi j=>.bl (decide (j<i))) (tOp (rI (λ_ j=>0<j) λi j=>.int (i % j)) (tVar 0) (tC (.int 3))) (tC (.int 0))) rfl (Af9 (Am6 Ap8 (pv 0) Au1 (An6 Aa5))) (closureFor_none (by decide +kernel)) (by repeat' (first | exact trivial | refine ⟨.inl ⟨.inr rfl,rfl⟩,?_⟩ | refine ⟨.inl ⟨.inl rfl,rfl⟩,?_⟩ | refine ⟨.inr (.inl ⟨by decide,by decide,by decide⟩),?_⟩ | refine ⟨.inr (.inr ⟨rfl,by decide +kernel,by decide +kernel,rfl,rfl⟩),?_⟩)) trivial (λC s₂ H₂ fp=>.nil) (λC s₂ H₂ fp=>(Af6 Bi6 (Ab9 Ad0 (pv 0) Aa5) Aa5 (Ac0 _))) ndLa (hdot:=De5)) (Aa2 (Ac5 (i:=4) scLa.nd rfl (Or.inl rfl) (Bi5 MK GI hr9 (by rfl) mP BI .nil Ac1 (Aa0 (pv 1) (Aa0 (pv 2) (Aa0 (pv 3) Aa3))))) (Aa2 (Ac5 (i:=5) scLa.nd rfl (Or.inl rfl) (Cp3 (Ap1 Ab8 (Ab3 G3 hr1 (by rfl) D3.m D3.F.kp D3.b .nil Ac1 (Aa0 (pv 1) Aa3)) (Ap1 Ab8 (Ag1 Aa3) (Ap1 Ab8 Aa5 (Ap1 Ab8 (pv 2) (Ap1 Ab8 (Ah5 Ag6 (by rfl) T.lst PyProof.Rows.boot_list (Aa0 (pv 3) Aa3)) Cp0))))) rfl rfl (by simp) (by decide))) (Aa2 (Ac5 (i:=6) scLa.nd rfl (Or.inl rfl) (Ag1 Aa3)) R6)))))),?_⟩
  refine ⟨_,rfl,x,ns,rfl,hS,λP0 H1 qs0 s1 g0 gd0 l1 l24 f0=>?_⟩
  have hS1:=s1.seq hS
  refine ⟨_,rfl,x,ns,1,rfl,hS1,_,12,rfl,rfl,(by show (0:Int)<12; decide),1,_,rfl,rfl,?_⟩
  dsimp only
  have m0:0<=ns.getD 1 0 % 12:=Int.emod_nonneg _ (by decide)
  have m1:ns.getD 1 0 % 12<12:=Int.emod_lt_of_pos _ (by decide)
  obtain ⟨n,hn⟩:∃ n:Int,1+ns.getD 1 0 % 12=n:=⟨_,rfl⟩
  rw [hn]
  have n1:1<=n:=by omega
  have n2:n<=12:=by omega
  refine ⟨_,rfl,20,rfl,x,_,rfl,hS1,λs0 hs0=>?_⟩
  obtain ⟨ks,hks,hkl⟩:=Bo4 ns none (some 20)
  rw [hks]
  have s2:=Aa6 (o:=.lst (ks.map V.int)) hs0
  have z2:upd H1 s0 (.lst (ks.map V.int)) s0=some (.lst (ks.map V.int)):=upd_same
  generalize upd H1 s0 (.lst (ks.map V.int))=H2 at *
  refine ⟨s0,rfl,⟨_,SqL.of z2⟩,Am3 (xs:=ks.map V.int) (λE2 i ys H'=>H2 E2=none/\Same H2 H'/\H' E2=some (.lst ys)/\∃ bs:List Bool,ys=bs.map V.bl/\bs.length<=i) ?_ ?_ ?_ ?_⟩
  ·exact λE2 hE=>⟨hE,Aa6 hE,upd_same,[],rfl,Nat.le_refl _⟩
  ·rintro E2 i ys H' _ ⟨hE,ss,hy,_⟩
   exact ⟨SqL.of (ss _ _ z2),hy⟩
  ·rintro E2 i y ys H' hi ⟨hE,ss,hy,bs,rfl,hb⟩
   rw [List.getElem?_map] at hi
   cases ec:ks[i]? with
   | none=>rw [ec] at hi; cases hi
   | some c =>
   rw [ec] at hi
   cases hi
   have hil:i<ks.length:=(List.getElem?_eq_some_iff.mp ec).1
   refine iteT ⟨_,rfl,c,3,rfl,rfl,(by show (0:Int)<3; decide),_,0,rfl,rfl,hy,?_,hE,Same.set ss hE,upd_same,bs++[decide (0<c % 3)],by rw [List.map_append]; rfl,by rw [List.length_append]; show bs.length+1<=i+1; omega⟩
   rw [List.length_map]
   exact Nat.lt_of_le_of_lt hb (Nat.lt_of_lt_of_le (by omega:i<1001) (by decide))
  rintro Lr ys H3 ⟨hLr,s3,zLr,bs,rfl,hbl⟩
  have s13:=s2.trans s3
  have g3:=g0.same s13
  refine ⟨_,rfl,_,rfl,_,rfl,λa dx ha hdx ne=>?_⟩
  have sM:Same H3 (upd (upd H3 dx (.own a)) a (.ins PL dx [])):=(Aa6 hdx).trans (Aa6 (by rw [Aa7 ne.symm]; exact ha))
  refine ⟨a,dx,P0,Lr,qs0,n,bs,rfl,upd_same,g3.same sM,gd0,l1,l24,n1,n2,sM _ _ zLr,λm h r q aw H4 ps b4 W4 c4 f4=>⟨rfl,?_⟩⟩
  have s4:Same H3 H4:=λb o e=>b4 b o (Ac7 e ha) (sM b o e)
  have ff:∀ b,Foot a h r q aw ps b->H3 b=none:=λb hb=>by
   rcases hb with z | z | z | z | z
   ·rw [z]; exact ha
   ·exact sM.free (f4 b (.inr (.inl z)))
   ·exact sM.free (f4 b (.inr (.inr (.inl z))))
   ·exact sM.free (f4 b (.inr (.inr (.inr (.inl z)))))
   ·exact sM.free (f4 b (.inr (.inr (.inr (.inr z)))))
  have g4:=g3.same s4
  have zL4:=s4 _ _ zLr
  refine λsd hsd=>?_
  have s5:=Aa6 (o:=.dK []) hsd
  have z5:upd H4 sd (.dK []) sd=some (.dK []):=upd_same
  generalize upd H4 sd (.dK [])=H5 at *
  refine ⟨_,rfl,P0,qs0,rfl,g4.same s5,by omega,λD H6 qs s6 g6 c6 f6=>?_⟩
  refine ⟨by show 0<=sizeLine; decide,λR hR=>?_⟩
  have s7:=Aa6 (o:=.lst []) hR
  have z7:upd H6 R (.lst []) R=some (.lst []):=upd_same
  generalize upd H6 R (.lst [])=H7 at *
  have s57:=s6.trans s7
  refine ⟨_,rfl,_,rfl,Lr,_,rfl,.inl (SqL.of (s57 _ _ (s5 _ _ zL4))),λL hL=>?_⟩
  have s8:=Aa6 (o:=.lst (bs.map V.bl)) hL
  have z8':upd H7 L (.lst (bs.map V.bl)) L=some (.lst (bs.map V.bl)):=upd_same
  generalize upd H7 L (.lst (bs.map V.bl))=H8 at *
  have s58:=s57.trans s8
  refine ⟨s58 _ _ z5,stD D R 0 n L,rfl,by show 5<=15; decide,?_⟩
  rw [show Av7 [] (stD D R 0 n L)=stD D R 0 n L from rfl]
  have g8:Pg H8 D qs:=(g6.same s7).same s8
  have fL7:H6 L=none:=s7.free hL
  have k9:∀ b o,b≠sd->H8 b=some o->upd H8 sd (.dK (stD D R 0 n L)) b=some o:=λb o nb e=>by rw [Aa7 nb]; exact e
  have nsd:∀ b,At D qs b->b≠sd:=λb hb z=>by
   have:=f6 b hb
   rw [z,z5] at this
   cases this
  have zs8:=s58 _ _ z5
  have w9:Lw (upd H8 sd (.dK (stD D R 0 n L))) sd D R L qs n [] bs 0:=by
   refine ⟨upd_same,g8.keep λb hb=>Aa7 (nsd b hb),Ap4 c6 gd0,⟨[],k9 _ _ (Af1 (s8 _ _ z7) zs8 (by intro z; cases z)) (s8 _ _ z7),.nil⟩,k9 _ _ (Af1 z8' zs8 (by intro z; cases z)) z8',λz=>?_,λz=>?_,λz=>?_⟩
   ·obtain ⟨u,e⟩:=Aj0 g6 z
    rw [fL7] at e; cases e
   ·obtain ⟨u,e⟩:=Aj0 g6 z
    rw [hR] at e; cases e
   ·rw [<- z,z7] at hL; cases hL
  have s48:=s5.trans s58
  have W9:Way C SC PL (upd H8 sd (.dK (stD D R 0 n L))) a m h r q aw ps n [] bs (0:Int):=W4.same (Same.set s48 hsd)
  have lf:∀ b,Ah3 sd D L qs b\/b=R->H4 b=none:=λb hb=>by
   rcases hb with (z | z | z) | z
   ·rw [z]; exact hsd
   ·rw [z]; exact (s5.trans s6).free fL7
   ·exact s5.free (f6 b z)
   ·rw [z]; exact (s5.trans s6).free hR
  have B9:Bo C SC PL (upd H8 sd (.dK (stD D R 0 n L))) a m h r q aw ps n [] bs 0 sd D R L qs:=by
   refine ⟨W9,w9,c4.trans c6.symm,Rk.nil n1,λb hb=>⟨λz=>?_,λz=>?_⟩⟩
   ·obtain ⟨o,e,_⟩:=W4.live hb
    rw [lf b (.inl z)] at e
    cases e
   ·obtain ⟨o,e,_⟩:=W4.live hb
    rw [lf b (.inr z)] at e
    cases e
  have nbx:∀ b o,H3 b=some o->¬ BX a h r q aw ps sd D R L qs b:=λb o e z=>by
   rcases z with (z | z) | z
   ·rw [ff b z] at e; cases e
   ·have:=lf b (.inl z); rw [s4 _ _ e] at this; cases this
   ·have:=lf b (.inr z); rw [s4 _ _ e] at this; cases this
  have zP9:upd H8 sd (.dK (stD D R 0 n L)) P0=some (.lst (qs0.map pgV)):=k9 _ _ (Af1 (s48 _ _ g4.top) zs8 (by intro z; cases z)) (s48 _ _ g4.top)
  have hS9:SqL K (upd H8 sd (.dK (stD D R 0 n L))) x (ns.map V.int):=(Same.set s48 hsd).seq ((s13.trans s4).seq hS1)
  generalize upd H8 sd (.dK (stD D R 0 n L))=H9 at *
  refine ⟨by show 0<=sizeLine; decide,λhd hhd=>?_⟩
  have s10:=Aa6 (o:=.lst []) hhd
  have nbh:¬ BX a h r q aw ps sd D R L qs hd:=λz=>by
   rcases z with (z | z) | z
   ·obtain ⟨o,e,_⟩:=W9.live z
    rw [hhd] at e; cases e
   ·rcases w9.foot z with ⟨u,v⟩ | ⟨u,v⟩ <;> rw [hhd] at v <;> cases v
   ·obtain ⟨ys,er,_⟩:=w9.t.ls
    rw [z,er] at hhd; cases hhd
  exact hR6 _ a m h r q aw ps n bs sd D R L qs P0 hd (qs0.map pgV) _ _ (B9.same s10) upd_same nbh (s10 _ _ zP9) (nbx _ _ g3.top) (Ac7 zP9 hhd) (by rw [List.length_map]; exact l1) (by rw [List.length_map]; exact l24) (s10.seq hS9)
end
end K28
end
section
open PySem PySem.W PyProof.Rows
namespace K28
open PySem L2
theorem ba1 {fd:FuncData} {p1:Str} (h:∀ a1:Value,bindArgs fd ⟨[a1],[]⟩=pure ([p1].zip [a1])):∀ us:List Value,us.length=[p1].length->bindArgs fd ⟨us,[]⟩=pure ([p1].zip us)
 | [_],_=>h _
theorem ba2 {fd:FuncData} {p1 p2:Str} (h:∀ a1 a2:Value,bindArgs fd ⟨[a1,a2],[]⟩=pure ([p1,p2].zip [a1,a2])):∀ us:List Value,us.length=[p1,p2].length->bindArgs fd ⟨us,[]⟩=pure ([p1,p2].zip us)
 | [_,_],_=>h _ _
theorem ba3 {fd:FuncData} {p1 p2 p3:Str} (h:∀ a1 a2 a3:Value,bindArgs fd ⟨[a1,a2,a3],[]⟩=pure ([p1,p2,p3].zip [a1,a2,a3])):∀ us:List Value,us.length=[p1,p2,p3].length->bindArgs fd ⟨us,[]⟩=pure ([p1,p2,p3].zip us)
 | [_,_,_],_=>h _ _ _
theorem ba4 {fd:FuncData} {p1 p2 p3 p4:Str} (h:∀ a1 a2 a3 a4:Value,bindArgs fd ⟨[a1,a2,a3,a4],[]⟩=pure ([p1,p2,p3,p4].zip [a1,a2,a3,a4])):∀ us:List Value,us.length=[p1,p2,p3,p4].length->bindArgs fd ⟨us,[]⟩=pure ([p1,p2,p3,p4].zip us)
 | [_,_,_,_],_=>h _ _ _ _
theorem ba5 {fd:FuncData} {p1 p2 p3 p4 p5:Str} (h:∀ a1 a2 a3 a4 a5:Value,bindArgs fd ⟨[a1,a2,a3,a4,a5],[]⟩=pure ([p1,p2,p3,p4,p5].zip [a1,a2,a3,a4,a5])):∀ us:List Value,us.length=[p1,p2,p3,p4,p5].length->bindArgs fd ⟨us,[]⟩=pure ([p1,p2,p3,p4,p5].zip us)
 | [_,_,_,_,_],_=>h _ _ _ _ _
theorem ba6 {fd:FuncData} {p1 p2 p3 p4 p5 p6:Str} (h:∀ a1 a2 a3 a4 a5 a6:Value,bindArgs fd ⟨[a1,a2,a3,a4,a5,a6],[]⟩=pure ([p1,p2,p3,p4,p5,p6].zip [a1,a2,a3,a4,a5,a6])):∀ us:List Value,us.length=[p1,p2,p3,p4,p5,p6].length->bindArgs fd ⟨us,[]⟩=pure ([p1,p2,p3,p4,p5,p6].zip us)
 | [_,_,_,_,_,_],_=>h _ _ _ _ _ _
theorem all_mk {l:OpenLaw} {w:World} {K:Frag} {h:Heap} {mg:Str->Option Value} {fa f0 f1 f2 f3 f4 f5 f6 f7 f8 f9 f10 f11 f12 f13 f14 f15 f16 f17 f18 f19 f20 f21 f22 f23 f24 f25 f26 f27 f28 f29 f30 f31 f32 f33 f34 f35 f36 f37 f38 f39 f40 f41 f42 f43 f44 f45 f46 f47 f48 f49 f50 f51 f52 f53 f54 f55 f56 f57 f58 f59 f60 f61 f62 f63 f64 f65 f66 f67 f68 f69 f70 f71 f72 f73 f74 f75 f76 f77 f78 f79 f80 f81 xC xSC xPL xWC xNP xNL xNW xNI xFA:Addr} (X:K.In h) (G:h.Ns mainGlobals mg) (hfa:mg "law"=some (.ref fa))
  {od0 an0 od1 an1 od2 an2 od3 an3 od4 an4 od5 an5 od6 an6 od7 an7 od8 an8 od9 an9 od10 an10 od11 an11 od12 an12 od13 an13 od14 an14 od15 an15 od16 an16 od17 an17 od18 an18 od19 an19 od20 an20 od21 an21 od22 an22 od23 an23 od24 an24 od25 an25 od26 an26 od27 an27 od28 an28 od29 an29 od30 an30 od31 an31 od32 an32 od33 an33 od34 an34 od35 an35 od36 an36 od37 an37 od38 an38 od39 an39 od40 an40 od41 an41 od42 an42 od43 an43 od44 an44 od45 an45 od46 an46 od47 an47 od48 an48 od49 an49 od50 an50 od51 an51 od52 an52 od53 an53 od54 an54 od55 an55 od56 an56 od57 an57 od58 an58 od59 an59 od60 an60 od61 an61 od62 an62 od63 an63 od64 an64 od65 an65 od66 an66 od67 an67 od68 an68 od69 an69 od70 an70 od71 an71 od72 an72 od73 an73 od74 an74 od75 an75 od76 an76 od77 an77 od78 an78 od79 an79 od80 an80 od81 an81:Option Addr} {sl0 sl1 sl2 sl3 sl4 sl5 sl6 sl7 sl8 sl9 sl10 sl11 sl12 sl13 sl14 sl15 sl16 sl17 sl18 sl19 sl20 sl21 sl22 sl23 sl24 sl25 sl26 sl27 sl28 sl29 sl30 sl31 sl32 sl33 sl34 sl35 sl36 sl37 sl38 sl39 sl40 sl41 sl42 sl43 sl44 sl45 sl46 sl47 sl48 sl49 sl50 sl51 sl52 sl53 sl54 sl55 sl56 sl57 sl58 sl59 sl60 sl61 sl62 sl63 sl64 sl65 sl66 sl67 sl68 sl69 sl70 sl71 sl72 sl73 sl74 sl75 sl76 sl77 sl78 sl79 sl80 sl81:Array (Option Value)} {oc0 kV0 dc0 pm0 cd0 ct0 oc1 kV1 dc1 pm1 cd1 ct1 oc2 kV2 dc2 pm2 cd2 ct2 oc3 kV3 dc3 pm3 cd3 ct3 oc4 kV4 dc4 pm4 cd4 ct4 oc5 kV5 dc5 pm5 cd5 ct5 oc6 kV6 dc6 pm6 cd6 ct6 oc7 kV7 dc7 pm7 cd7 ct7 oc8 kV8 dc8 pm8 cd8 ct8 oc9 kV9 dc9 pm9 cd9 ct9 oc10 kV10 dc10 pm10 cd10 ct10 oc11 kV11 dc11 pm11 cd11 ct11 oc12 kV12 dc12 pm12 cd12 ct12 oc13 kV13 dc13 pm13 cd13 ct13 oc14 kV14 dc14 pm14 cd14 ct14 oc15 kV15 dc15 pm15 cd15 ct15 oc16 kV16 dc16 pm16 cd16 ct16 oc17 kV17 dc17 pm17 cd17 ct17 oc18 kV18 dc18 pm18 cd18 ct18 oc19 kV19 dc19 pm19 cd19 ct19 oc20 kV20 dc20 pm20 cd20 ct20 oc21 kV21 dc21 pm21 cd21 ct21 oc22 kV22 dc22 pm22 cd22 ct22 oc23 kV23 dc23 pm23 cd23 ct23 oc24 kV24 dc24 pm24 cd24 ct24 oc25 kV25 dc25 pm25 cd25 ct25 oc26 kV26 dc26 pm26 cd26 ct26 oc27 kV27 dc27 pm27 cd27 ct27 oc28 kV28 dc28 pm28 cd28 ct28 oc29 kV29 dc29 pm29 cd29 ct29 oc30 kV30 dc30 pm30 cd30 ct30 oc31 kV31 dc31 pm31 cd31 ct31 oc32 kV32 dc32 pm32 cd32 ct32 oc33 kV33 dc33 pm33 cd33 ct33 oc34 kV34 dc34 pm34 cd34 ct34 oc35 kV35 dc35 pm35 cd35 ct35 oc36 kV36 dc36 pm36 cd36 ct36 oc37 kV37 dc37 pm37 cd37 ct37 oc38 kV38 dc38 pm38 cd38 ct38 oc39 kV39 dc39 pm39 cd39 ct39 oc40 kV40 dc40 pm40 cd40 ct40 oc41 kV41 dc41 pm41 cd41 ct41 oc42 kV42 dc42 pm42 cd42 ct42 oc43 kV43 dc43 pm43 cd43 ct43 oc44 kV44 dc44 pm44 cd44 ct44 oc45 kV45 dc45 pm45 cd45 ct45 oc46 kV46 dc46 pm46 cd46 ct46 oc47 kV47 dc47 pm47 cd47 ct47 oc48 kV48 dc48 pm48 cd48 ct48 oc49 kV49 dc49 pm49 cd49 ct49 oc50 kV50 dc50 pm50 cd50 ct50 oc51 kV51 dc51 pm51 cd51 ct51 oc52 kV52 dc52 pm52 cd52 ct52 oc53 kV53 dc53 pm53 cd53 ct53 oc54 kV54 dc54 pm54 cd54 ct54 oc55 kV55 dc55 pm55 cd55 ct55 oc56 kV56 dc56 pm56 cd56 ct56 oc57 kV57 dc57 pm57 cd57 ct57 oc58 kV58 dc58 pm58 cd58 ct58 oc59 kV59 dc59 pm59 cd59 ct59 oc60 kV60 dc60 pm60 cd60 ct60 oc61 kV61 dc61 pm61 cd61 ct61 oc62 kV62 dc62 pm62 cd62 ct62 oc63 kV63 dc63 pm63 cd63 ct63 oc64 kV64 dc64 pm64 cd64 ct64 oc65 kV65 dc65 pm65 cd65 ct65 oc66 kV66 dc66 pm66 cd66 ct66 oc67 kV67 dc67 pm67 cd67 ct67 oc68 kV68 dc68 pm68 cd68 ct68 oc69 kV69 dc69 pm69 cd69 ct69 oc70 kV70 dc70 pm70 cd70 ct70 oc71 kV71 dc71 pm71 cd71 ct71 oc72 kV72 dc72 pm72 cd72 ct72 oc73 kV73 dc73 pm73 cd73 ct73 oc74 kV74 dc74 pm74 cd74 ct74 oc75 kV75 dc75 pm75 cd75 ct75 oc76 kV76 dc76 pm76 cd76 ct76 oc77 kV77 dc77 pm77 cd77 ct77 oc78 kV78 dc78 pm78 cd78 ct78 oc79 kV79 dc79 pm79 cd79 ct79 oc80 kV80 dc80 pm80 cd80 ct80 oc81 kV81 dc81 pm81 cd81 ct81:Value} {tk0 tk1 tk2 tk3 tk4 tk5 tk6 tk7 tk8 tk9 tk10 tk11:Tok}
  (n_C:nsIn K mainGlobals "Memory"=some (some (.ref xC)))
  (n_SC:nsIn K mainGlobals "Shelf"=some (some (.ref xSC)))
  (n_PL:nsIn K mainGlobals "Plain"=some (some (.ref xPL)))
  (n_WC:nsIn K mainGlobals "Ways"=some (some (.ref xWC)))
  (n_NP:nsIn K mainGlobals "NoPage"=some (some (.ref xNP)))
  (n_NL:nsIn K mainGlobals "NoPlace"=some (some (.ref xNL)))
  (n_NW:nsIn K mainGlobals "NoWord"=some (some (.ref xNW)))
  (n_NI:nsIn K mainGlobals "NoImage"=some (some (.ref xNI)))
  (n_FA:nsIn K mainGlobals "Fault"=some (some (.ref xFA)))
  (a0:nsIn K mainGlobals "is_whole"=some (some (.ref f0)))
  (l0:K.lookup f0=some ⟨oc0,od0,.func (fnOf "is_whole" "is_whole" (Ab4 Aq5) (Aa9 Aq5) (Aa1 Aq5) .none kV0 dc0 pm0 an0 cd0 ct0),sl0⟩)
  (c0:codeIn K cd0 "is_whole"=true)
  (k0:keepIn K (.ref f0)=true)
  (a1:nsIn K mainGlobals "is_below"=some (some (.ref f1)))
  (l1:K.lookup f1=some ⟨oc1,od1,.func (fnOf "is_below" "is_below" (Ab4 Aj5) (Aa9 Aj5) (Aa1 Aj5) .none kV1 dc1 pm1 an1 cd1 ct1),sl1⟩)
  (c1:codeIn K cd1 "is_below"=true)
  (k1:keepIn K (.ref f1)=true)
  (a2:nsIn K mainGlobals "is_word"=some (some (.ref f2)))
  (l2:K.lookup f2=some ⟨oc2,od2,.func (fnOf "is_word" "is_word" (Ab4 Ay1) (Aa9 Ay1) (Aa1 Ay1) .none kV2 dc2 pm2 an2 cd2 ct2),sl2⟩)
  (c2:codeIn K cd2 "is_word"=true)
  (k2:keepIn K (.ref f2)=true)
  (a3:findIn K (.ref xC) "size"=some (some (.ref f3)))
  (l3:K.lookup f3=some ⟨oc3,od3,.func (fnOf "size" "Memory.size" (Ab4 Ay2) (Aa9 Ay2) (Aa1 Ay2) .none kV3 dc3 pm3 an3 cd3 ct3),sl3⟩)
  (c3:codeIn K cd3 "Memory.size"=true)
  (k3:keepIn K (.ref f3)=true)
  (a4:findIn K (.ref xC) "has"=some (some (.ref f4)))
  (l4:K.lookup f4=some ⟨oc4,od4,.func (fnOf "has" "Memory.has" (Ab4 sHas) (Aa9 sHas) (Aa1 sHas) .none kV4 dc4 pm4 an4 cd4 ct4),sl4⟩)
  (c4:codeIn K cd4 "Memory.has"=true)
  (k4:keepIn K (.ref f4)=true)
  (a5:findIn K (.ref xC) "check_page"=some (some (.ref f5)))
  (l5:K.lookup f5=some ⟨oc5,od5,.func (fnOf "check_page" "Store.check_page" (Ab4 Am8) (Aa9 Am8) (Aa1 Am8) .none kV5 dc5 pm5 an5 cd5 ct5),sl5⟩)
  (c5:codeIn K cd5 "Store.check_page"=true)
  (k5:keepIn K (.ref f5)=true)
  (a6:findIn K (.ref xC) "word_at"=some (some (.ref f6)))
  (l6:K.lookup f6=some ⟨oc6,od6,.func (fnOf "word_at" "Memory.word_at" (Ab4 An3) (Aa9 An3) (Aa1 An3) .none kV6 dc6 pm6 an6 cd6 ct6),sl6⟩)
  (c6:codeIn K cd6 "Memory.word_at"=true)
  (k6:keepIn K (.ref f6)=true)
  (a7:findIn K (.ref xC) "put_word"=some (some (.ref f7)))
  (l7:K.lookup f7=some ⟨oc7,od7,.func (fnOf "put_word" "Memory.put_word" (Ab4 Ak5) (Aa9 Ak5) (Aa1 Ak5) .none kV7 dc7 pm7 an7 cd7 ct7),sl7⟩)
  (c7:codeIn K cd7 "Memory.put_word"=true)
  (k7:keepIn K (.ref f7)=true)
  (a8:nsIn K mainGlobals "check_word"=some (some (.ref f8)))
  (l8:K.lookup f8=some ⟨oc8,od8,.func (fnOf "check_word" "check_word" (Ab4 Aq8) (Aa9 Aq8) (Aa1 Aq8) .none kV8 dc8 pm8 an8 cd8 ct8),sl8⟩)
  (c8:codeIn K cd8 "check_word"=true)
  (k8:keepIn K (.ref f8)=true)
  (a9:nsIn K mainGlobals "is_eight_words"=some (some (.ref f9)))
  (l9:K.lookup f9=some ⟨oc9,od9,.func (fnOf "is_eight_words" "is_eight_words" (Ab4 Ao6) (Aa9 Ao6) (Aa1 Ao6) .none kV9 dc9 pm9 an9 cd9 ct9),sl9⟩)
  (c9:codeIn K cd9 "is_eight_words"=true)
  (k9:keepIn K (.ref f9)=true)
  (a10:nsIn K mainGlobals "check_image"=some (some (.ref f10)))
  (l10:K.lookup f10=some ⟨oc10,od10,.func (fnOf "check_image" "check_image" (Ab4 At5) (Aa9 At5) (Aa1 At5) .none kV10 dc10 pm10 an10 cd10 ct10),sl10⟩)
  (c10:codeIn K cd10 "check_image"=true)
  (k10:keepIn K (.ref f10)=true)
  (a11:findIn K (.ref xC) "__init__"=some (some (.ref f11)))
  (l11:K.lookup f11=some ⟨oc11,od11,.func (fnOf "__init__" "Memory.__init__" (Ab4 Bp8) (Aa9 Bp8) (Aa1 Bp8) .none kV11 dc11 pm11 an11 cd11 ct11),sl11⟩)
  (c11:codeIn K cd11 "Memory.__init__"=true)
  (k11:keepIn K (.ref f11)=true)
  (a12:findIn K (.ref xC) "give"=some (some (.ref f12)))
  (l12:K.lookup f12=some ⟨oc12,od12,.func (fnOf "give" "Memory.give" (Ab4 Bh6) (Aa9 Bh6) (Aa1 Bh6) .none kV12 dc12 pm12 an12 cd12 ct12),sl12⟩)
  (c12:codeIn K cd12 "Memory.give"=true)
  (k12:keepIn K (.ref f12)=true)
  (a13:findIn K (.ref xC) "lay"=some (some (.ref f13)))
  (l13:K.lookup f13=some ⟨oc13,od13,.func (fnOf "lay" "Memory.lay" (Ab4 sLay) (Aa9 sLay) (Aa1 sLay) .none kV13 dc13 pm13 an13 cd13 ct13),sl13⟩)
  (c13:codeIn K cd13 "Memory.lay"=true)
  (k13:keepIn K (.ref f13)=true)
  (a14:findIn K (.ref xSC) "__init__"=some (some (.ref f14)))
  (l14:K.lookup f14=some ⟨oc14,od14,.func (fnOf "__init__" "Shelf.__init__" (Ab4 Av4) (Aa9 Av4) (Aa1 Av4) .none kV14 dc14 pm14 an14 cd14 ct14),sl14⟩)
  (c14:codeIn K cd14 "Shelf.__init__"=true)
  (k14:keepIn K (.ref f14)=true)
  (a15:findIn K (.ref xSC) "told"=some (some (.ref f15)))
  (l15:K.lookup f15=some ⟨oc15,od15,.func (fnOf "told" "Shelf.told" (Ab4 At3) (Aa9 At3) (Aa1 At3) .none kV15 dc15 pm15 an15 cd15 ct15),sl15⟩)
  (c15:codeIn K cd15 "Shelf.told"=true)
  (k15:keepIn K (.ref f15)=true)
  (a16:findIn K (.ref xPL) "size"=some (some (.ref f16)))
  (l16:K.lookup f16=some ⟨oc16,od16,.func (fnOf "size" "Plain.size" (Ab4 Aq7) (Aa9 Aq7) (Aa1 Aq7) .none kV16 dc16 pm16 an16 cd16 ct16),sl16⟩)
  (c16:codeIn K cd16 "Plain.size"=true)
  (k16:keepIn K (.ref f16)=true)
  (a17:findIn K (.ref xPL) "has"=some (some (.ref f17)))
  (l17:K.lookup f17=some ⟨oc17,od17,.func (fnOf "has" "Plain.has" (Ab4 Ao5) (Aa9 Ao5) (Aa1 Ao5) .none kV17 dc17 pm17 an17 cd17 ct17),sl17⟩)
  (c17:codeIn K cd17 "Plain.has"=true)
  (k17:keepIn K (.ref f17)=true)
  (a18:findIn K (.ref xPL) "word_at"=some (some (.ref f18)))
  (l18:K.lookup f18=some ⟨oc18,od18,.func (fnOf "word_at" "Plain.word_at" (Ab4 Aj4) (Aa9 Aj4) (Aa1 Aj4) .none kV18 dc18 pm18 an18 cd18 ct18),sl18⟩)
  (c18:codeIn K cd18 "Plain.word_at"=true)
  (k18:keepIn K (.ref f18)=true)
  (a19:findIn K (.ref xPL) "give_up"=some (some (.ref f19)))
  (l19:K.lookup f19=some ⟨oc19,od19,.func (fnOf "give_up" "Plain.give_up" (Ab4 An5) (Aa9 An5) (Aa1 An5) .none kV19 dc19 pm19 an19 cd19 ct19),sl19⟩)
  (c19:codeIn K cd19 "Plain.give_up"=true)
  (k19:keepIn K (.ref f19)=true)
  (a20:findIn K (.ref xPL) "come_back"=some (some (.ref f20)))
  (l20:K.lookup f20=some ⟨oc20,od20,.func (fnOf "come_back" "Plain.come_back" (Ab4 Bh9) (Aa9 Bh9) (Aa1 Bh9) .none kV20 dc20 pm20 an20 cd20 ct20),sl20⟩)
  (c20:codeIn K cd20 "Plain.come_back"=true)
  (k20:keepIn K (.ref f20)=true)
  (a21:findIn K (.ref xPL) "ask_house"=some (some (.ref f21)))
  (l21:K.lookup f21=some ⟨oc21,od21,.func (fnOf "ask_house" "Plain.ask_house" (Ab4 sAsk) (Aa9 sAsk) (Aa1 sAsk) .none kV21 dc21 pm21 an21 cd21 ct21),sl21⟩)
  (c21:codeIn K cd21 "Plain.ask_house"=true)
  (k21:keepIn K (.ref f21)=true)
  (a22:findIn K (.ref xPL) "give"=some (some (.ref f22)))
  (l22:K.lookup f22=some ⟨oc22,od22,.func (fnOf "give" "Ways.give" (Ab4 At0) (Aa9 At0) (Aa1 At0) .none kV22 dc22 pm22 an22 cd22 ct22),sl22⟩)
  (c22:codeIn K cd22 "Ways.give"=true)
  (k22:keepIn K (.ref f22)=true)
  (a23:findIn K (.ref xPL) "root"=some (some (.ref f23)))
  (l23:K.lookup f23=some ⟨oc23,od23,.func (fnOf "root" "Ways.root" (Ab4 Bg5) (Aa9 Bg5) (Aa1 Bg5) .none kV23 dc23 pm23 an23 cd23 ct23),sl23⟩)
  (c23:codeIn K cd23 "Ways.root"=true)
  (k23:keepIn K (.ref f23)=true)
  (a24:findIn K (.ref xPL) "shelf"=some (some (.ref f24)))
  (l24:K.lookup f24=some ⟨oc24,od24,.func (fnOf "shelf" "Ways.shelf" (Ab4 At2) (Aa9 At2) (Aa1 At2) .none kV24 dc24 pm24 an24 cd24 ct24),sl24⟩)
  (c24:codeIn K cd24 "Ways.shelf"=true)
  (k24:keepIn K (.ref f24)=true)
  (a25:findIn K (.ref xPL) "want"=some (some (.ref f25)))
  (l25:K.lookup f25=some ⟨oc25,od25,.func (fnOf "want" "Ways.want" (Ab4 Bg0) (Aa9 Bg0) (Aa1 Bg0) .none kV25 dc25 pm25 an25 cd25 ct25),sl25⟩)
  (c25:codeIn K cd25 "Ways.want"=true)
  (k25:keepIn K (.ref f25)=true)
  (a26:findIn K (.ref xPL) "words_of"=some (some (.ref f26)))
  (l26:K.lookup f26=some ⟨oc26,od26,.func (fnOf "words_of" "Store.words_of" (Ab4 As8) (Aa9 As8) (Aa1 As8) .none kV26 dc26 pm26 an26 cd26 ct26),sl26⟩)
  (c26:codeIn K cd26 "Store.words_of"=true)
  (k26:keepIn K (.ref f26)=true)
  (a27:findIn K (.ref xPL) "pages"=some (some (.ref f27)))
  (l27:K.lookup f27=some ⟨oc27,od27,.func (fnOf "pages" "Ways.pages" (Ab4 An4) (Aa9 An4) (Aa1 An4) .none kV27 dc27 pm27 an27 cd27 ct27),sl27⟩)
  (c27:codeIn K cd27 "Ways.pages"=true)
  (k27:keepIn K (.ref f27)=true)
  (a28:findCls K (.ref xWC) (.type "type") "__init__"=some (.val (.ref f28)))
  (l28:K.lookup f28=some ⟨oc28,od28,.func (fnOf "__init__" "Ways.__init__" (Ab4 Av3) (Aa9 Av3) (Aa1 Av3) .none kV28 dc28 pm28 an28 cd28 ct28),sl28⟩)
  (c28:codeIn K cd28 "Ways.__init__"=true)
  (k28:keepIn K (.ref f28)=true)
  (a29:findIn K (.ref xPL) "__init__"=some (some (.ref f29)))
  (l29:K.lookup f29=some ⟨oc29,od29,.func (fnOf "__init__" "Plain.__init__" (Ab4 Av5) (Aa9 Av5) (Aa1 Av5) .none kV29 dc29 pm29 an29 cd29 ct29),sl29⟩)
  (c29:codeIn K cd29 "Plain.__init__"=true)
  (k29:keepIn K (.ref f29)=true)
  (a30:findIn K (.ref xPL) "put_word"=some (some (.ref f30)))
  (l30:K.lookup f30=some ⟨oc30,od30,.func (fnOf "put_word" "Plain.put_word" (Ab4 Bg9) (Aa9 Bg9) (Aa1 Bg9) .none kV30 dc30 pm30 an30 cd30 ct30),sl30⟩)
  (c30:codeIn K cd30 "Plain.put_word"=true)
  (k30:keepIn K (.ref f30)=true)
  (a31:findIn K (.ref xPL) "check_spot"=some (some (.ref f31)))
  (l31:K.lookup f31=some ⟨oc31,od31,.func (fnOf "check_spot" "Store.check_spot" (Ab4 Ba5) (Aa9 Ba5) (Aa1 Ba5) .none kV31 dc31 pm31 an31 cd31 ct31),sl31⟩)
  (c31:codeIn K cd31 "Store.check_spot"=true)
  (k31:keepIn K (.ref f31)=true)
  (a32:findIn K (.ref xPL) "read"=some (some (.ref f32)))
  (l32:K.lookup f32=some ⟨oc32,od32,.func (fnOf "read" "Store.read" (Ab4 Av1) (Aa9 Av1) (Aa1 Av1) .none kV32 dc32 pm32 an32 cd32 ct32),sl32⟩)
  (c32:codeIn K cd32 "Store.read"=true)
  (k32:keepIn K (.ref f32)=true)
  (a33:findIn K (.ref xPL) "write"=some (some (.ref f33)))
  (l33:K.lookup f33=some ⟨oc33,od33,.func (fnOf "write" "Store.write" (Ab4 Ao0) (Aa9 Ao0) (Aa1 Ao0) .none kV33 dc33 pm33 an33 cd33 ct33),sl33⟩)
  (c33:codeIn K cd33 "Store.write"=true)
  (k33:keepIn K (.ref f33)=true)
  (a34:findIn K (.ref xFA) "__init__"=some (some (.ref f34)))
  (l34:K.lookup f34=some ⟨oc34,od34,.func (fnOf "__init__" "Fault.__init__" (Ab4 sFI) (Aa9 sFI) (Aa1 sFI) .none kV34 dc34 pm34 an34 cd34 ct34),sl34⟩)
  (c34:codeIn K cd34 "Fault.__init__"=true)
  (k34:keepIn K (.ref f34)=true)
  (a35:findIn K (.ref xPL) "check_beyond"=some (some (.ref f35)))
  (l35:K.lookup f35=some ⟨oc35,od35,.func (fnOf "check_beyond" "Ways.check_beyond" (Ab4 sCkb) (Aa9 sCkb) (Aa1 sCkb) .none kV35 dc35 pm35 an35 cd35 ct35),sl35⟩)
  (c35:codeIn K cd35 "Ways.check_beyond"=true)
  (k35:keepIn K (.ref f35)=true)
  (a36:findIn K (.ref xPL) "peek"=some (some (.ref f36)))
  (l36:K.lookup f36=some ⟨oc36,od36,.func (fnOf "peek" "Ways.peek" (Ab4 Bg8) (Aa9 Bg8) (Aa1 Bg8) .none kV36 dc36 pm36 an36 cd36 ct36),sl36⟩)
  (c36:codeIn K cd36 "Ways.peek"=true)
  (k36:keepIn K (.ref f36)=true)
  (a37:findIn K (.ref xPL) "poke"=some (some (.ref f37)))
  (l37:K.lookup f37=some ⟨oc37,od37,.func (fnOf "poke" "Ways.poke" (Ab4 Bg7) (Aa9 Bg7) (Aa1 Bg7) .none kV37 dc37 pm37 an37 cd37 ct37),sl37⟩)
  (c37:codeIn K cd37 "Ways.poke"=true)
  (k37:keepIn K (.ref f37)=true)
  (a38:nsIn K mainGlobals "page_of"=some (some (.ref f38)))
  (l38:K.lookup f38=some ⟨oc38,od38,.func (fnOf "page_of" "page_of" (Ab4 Ba7) (Aa9 Ba7) (Aa1 Ba7) .none kV38 dc38 pm38 an38 cd38 ct38),sl38⟩)
  (c38:codeIn K cd38 "page_of"=true)
  (k38:keepIn K (.ref f38)=true)
  (a39:nsIn K mainGlobals "has"=some (some (.ref f39)))
  (l39:K.lookup f39=some ⟨oc39,od39,.func (fnOf "has" "has" (Ab4 Ay4) (Aa9 Ay4) (Aa1 Ay4) .none kV39 dc39 pm39 an39 cd39 ct39),sl39⟩)
  (c39:codeIn K cd39 "has"=true)
  (k39:keepIn K (.ref f39)=true)
  (a40:nsIn K mainGlobals "put"=some (some (.ref f40)))
  (l40:K.lookup f40=some ⟨oc40,od40,.func (fnOf "put" "put" (Ab4 Ay3) (Aa9 Ay3) (Aa1 Ay3) .none kV40 dc40 pm40 an40 cd40 ct40),sl40⟩)
  (c40:codeIn K cd40 "put"=true)
  (k40:keepIn K (.ref f40)=true)
  (a41:nsIn K mainGlobals "rights_of"=some (some (.ref f41)))
  (l41:K.lookup f41=some ⟨oc41,od41,.func (fnOf "rights_of" "rights_of" (Ab4 sRig) (Aa9 sRig) (Aa1 sRig) .none kV41 dc41 pm41 an41 cd41 ct41),sl41⟩)
  (c41:codeIn K cd41 "rights_of"=true)
  (k41:keepIn K (.ref f41)=true)
  (a42:nsIn K mainGlobals "lets"=some (some (.ref f42)))
  (l42:K.lookup f42=some ⟨oc42,od42,.func (fnOf "lets" "lets" (Ab4 Bh3) (Aa9 Bh3) (Aa1 Bh3) .none kV42 dc42 pm42 an42 cd42 ct42),sl42⟩)
  (c42:codeIn K cd42 "lets"=true)
  (k42:keepIn K (.ref f42)=true)
  (a43:nsIn K mainGlobals "number_of"=some (some (.ref f43)))
  (l43:K.lookup f43=some ⟨oc43,od43,.func (fnOf "number_of" "number_of" (Ab4 sNum) (Aa9 sNum) (Aa1 sNum) .none kV43 dc43 pm43 an43 cd43 ct43),sl43⟩)
  (c43:codeIn K cd43 "number_of"=true)
  (k43:keepIn K (.ref f43)=true)
  (a44:nsIn K mainGlobals "parts_of"=some (some (.ref f44)))
  (l44:K.lookup f44=some ⟨oc44,od44,.func (fnOf "parts_of" "parts_of" (Ab4 Ao4) (Aa9 Ao4) (Aa1 Ao4) .none kV44 dc44 pm44 an44 cd44 ct44),sl44⟩)
  (c44:codeIn K cd44 "parts_of"=true)
  (k44:keepIn K (.ref f44)=true)
  (a45:nsIn K mainGlobals "check_row"=some (some (.ref f45)))
  (l45:K.lookup f45=some ⟨oc45,od45,.func (fnOf "check_row" "check_row" (Ab4 Bi0) (Aa9 Bi0) (Aa1 Bi0) .none kV45 dc45 pm45 an45 cd45 ct45),sl45⟩)
  (c45:codeIn K cd45 "check_row"=true)
  (k45:keepIn K (.ref f45)=true)
  (a46:nsIn K mainGlobals "look"=some (some (.ref f46)))
  (l46:K.lookup f46=some ⟨oc46,od46,.func (fnOf "look" "look" (Ab4 Bh1) (Aa9 Bh1) (Aa1 Bh1) .none kV46 dc46 pm46 an46 cd46 ct46),sl46⟩)
  (c46:codeIn K cd46 "look"=true)
  (k46:keepIn K (.ref f46)=true)
  (a47:nsIn K mainGlobals "put_marks"=some (some (.ref f47)))
  (l47:K.lookup f47=some ⟨oc47,od47,.func (fnOf "put_marks" "put_marks" (Ab4 Bg6) (Aa9 Bg6) (Aa1 Bg6) .none kV47 dc47 pm47 an47 cd47 ct47),sl47⟩)
  (c47:codeIn K cd47 "put_marks"=true)
  (k47:keepIn K (.ref f47)=true)
  (a48:nsIn K mainGlobals "mark"=some (some (.ref f48)))
  (l48:K.lookup f48=some ⟨oc48,od48,.func (fnOf "mark" "mark" (Ab4 Bh0) (Aa9 Bh0) (Aa1 Bh0) .none kV48 dc48 pm48 an48 cd48 ct48),sl48⟩)
  (c48:codeIn K cd48 "mark"=true)
  (k48:keepIn K (.ref f48)=true)
  (a49:findIn K (.ref xSC) "seek"=some (some (.ref f49)))
  (l49:K.lookup f49=some ⟨oc49,od49,.func (fnOf "seek" "Shelf.seek" (Ab4 Bg3) (Aa9 Bg3) (Aa1 Bg3) .none kV49 dc49 pm49 an49 cd49 ct49),sl49⟩)
  (c49:codeIn K cd49 "Shelf.seek"=true)
  (k49:keepIn K (.ref f49)=true)
  (a50:findIn K (.ref xSC) "drop"=some (some (.ref f50)))
  (l50:K.lookup f50=some ⟨oc50,od50,.func (fnOf "drop" "Shelf.drop" (Ab4 Aq6) (Aa9 Aq6) (Aa1 Aq6) .none kV50 dc50 pm50 an50 cd50 ct50),sl50⟩)
  (c50:codeIn K cd50 "Shelf.drop"=true)
  (k50:keepIn K (.ref f50)=true)
  (a51:findIn K (.ref xSC) "keep"=some (some (.ref f51)))
  (l51:K.lookup f51=some ⟨oc51,od51,.func (fnOf "keep" "Shelf.keep" (Ab4 Bh5) (Aa9 Bh5) (Aa1 Bh5) .none kV51 dc51 pm51 an51 cd51 ct51),sl51⟩)
  (c51:codeIn K cd51 "Shelf.keep"=true)
  (k51:keepIn K (.ref f51)=true)
  (a52:findIn K (.ref xSC) "empty"=some (some (.ref f52)))
  (l52:K.lookup f52=some ⟨oc52,od52,.func (fnOf "empty" "Shelf.empty" (Ab4 At6) (Aa9 At6) (Aa1 At6) .none kV52 dc52 pm52 an52 cd52 ct52),sl52⟩)
  (c52:codeIn K cd52 "Shelf.empty"=true)
  (k52:keepIn K (.ref f52)=true)
  (a53:findIn K (.ref xPL) "remembered"=some (some (.ref f53)))
  (l53:K.lookup f53=some ⟨oc53,od53,.func (fnOf "remembered" "Ways.remembered" (Ab4 sRem) (Aa9 sRem) (Aa1 sRem) .none kV53 dc53 pm53 an53 cd53 ct53),sl53⟩)
  (c53:codeIn K cd53 "Ways.remembered"=true)
  (k53:keepIn K (.ref f53)=true)
  (a54:findIn K (.ref xPL) "walked"=some (some (.ref f54)))
  (l54:K.lookup f54=some ⟨oc54,od54,.func (fnOf "walked" "Ways.walked" (Ab4 Bg1) (Aa9 Bg1) (Aa1 Bg1) .none kV54 dc54 pm54 an54 cd54 ct54),sl54⟩)
  (c54:codeIn K cd54 "Ways.walked"=true)
  (k54:keepIn K (.ref f54)=true)
  (a55:findIn K (.ref xPL) "reach"=some (some (.ref f55)))
  (l55:K.lookup f55=some ⟨oc55,od55,.func (fnOf "reach" "Ways.reach" (Ab4 Ao3) (Aa9 Ao3) (Aa1 Ao3) .none kV55 dc55 pm55 an55 cd55 ct55),sl55⟩)
  (c55:codeIn K cd55 "Ways.reach"=true)
  (k55:keepIn K (.ref f55)=true)
  (a56:findIn K (.ref xPL) "load"=some (some (.ref f56)))
  (l56:K.lookup f56=some ⟨oc56,od56,.func (fnOf "load" "Ways.load" (Ab4 Bh2) (Aa9 Bh2) (Aa1 Bh2) .none kV56 dc56 pm56 an56 cd56 ct56),sl56⟩)
  (c56:codeIn K cd56 "Ways.load"=true)
  (k56:keepIn K (.ref f56)=true)
  (a57:findIn K (.ref xPL) "drop"=some (some (.ref f57)))
  (l57:K.lookup f57=some ⟨oc57,od57,.func (fnOf "drop" "Ways.drop" (Ab4 At1) (Aa9 At1) (Aa1 At1) .none kV57 dc57 pm57 an57 cd57 ct57),sl57⟩)
  (c57:codeIn K cd57 "Ways.drop"=true)
  (k57:keepIn K (.ref f57)=true)
  (a58:findIn K (.ref xPL) "turn_root"=some (some (.ref f58)))
  (l58:K.lookup f58=some ⟨oc58,od58,.func (fnOf "turn_root" "Ways.turn_root" (Ab4 Bg2) (Aa9 Bg2) (Aa1 Bg2) .none kV58 dc58 pm58 an58 cd58 ct58),sl58⟩)
  (c58:codeIn K cd58 "Ways.turn_root"=true)
  (k58:keepIn K (.ref f58)=true)
  (a59:findIn K (.ref xPL) "save"=some (some (.ref f59)))
  (l59:K.lookup f59=some ⟨oc59,od59,.func (fnOf "save" "Ways.save" (Ab4 Bg4) (Aa9 Bg4) (Aa1 Bg4) .none kV59 dc59 pm59 an59 cd59 ct59),sl59⟩)
  (c59:codeIn K cd59 "Ways.save"=true)
  (k59:keepIn K (.ref f59)=true)
  (a60:nsIn K mainGlobals "_law_cell_at"=some (some (.ref f60)))
  (l60:K.lookup f60=some ⟨oc60,od60,.func (fnOf "_law_cell_at" "_law_cell_at" (Ab4 Ba8) (Aa9 Ba8) (Aa1 Ba8) .none kV60 dc60 pm60 an60 cd60 ct60),sl60⟩)
  (c60:codeIn K cd60 "_law_cell_at"=true)
  (k60:keepIn K (.ref f60)=true)
  (a61:nsIn K mainGlobals "_law_whole"=some (some (.ref f61)))
  (l61:K.lookup f61=some ⟨oc61,od61,.func (fnOf "_law_whole" "_law_whole" (Ab4 Ak6) (Aa9 Ak6) (Aa1 Ak6) .none kV61 dc61 pm61 an61 cd61 ct61),sl61⟩)
  (c61:codeIn K cd61 "_law_whole"=true)
  (k61:keepIn K (.ref f61)=true)
  (a62:nsIn K mainGlobals "_law_row_by"=some (some (.ref f62)))
  (l62:K.lookup f62=some ⟨oc62,od62,.func (fnOf "_law_row_by" "_law_row_by" (Ab4 sRow) (Aa9 sRow) (Aa1 sRow) .none kV62 dc62 pm62 an62 cd62 ct62),sl62⟩)
  (c62:codeIn K cd62 "_law_row_by"=true)
  (k62:keepIn K (.ref f62)=true)
  (a63:nsIn K mainGlobals "_law_there"=some (some (.ref f63)))
  (l63:K.lookup f63=some ⟨oc63,od63,.func (fnOf "_law_there" "_law_there" (Ab4 Ao1) (Aa9 Ao1) (Aa1 Ao1) .none kV63 dc63 pm63 an63 cd63 ct63),sl63⟩)
  (c63:codeIn K cd63 "_law_there"=true)
  (k63:keepIn K (.ref f63)=true)
  (a64:nsIn K mainGlobals "_law_copy"=some (some (.ref f64)))
  (l64:K.lookup f64=some ⟨oc64,od64,.func (fnOf "_law_copy" "_law_copy" (Ab4 Bh8) (Aa9 Bh8) (Aa1 Bh8) .none kV64 dc64 pm64 an64 cd64 ct64),sl64⟩)
  (c64:codeIn K cd64 "_law_copy"=true)
  (k64:keepIn K (.ref f64)=true)
  (a65:nsIn K mainGlobals "_law_is_image"=some (some (.ref f65)))
  (l65:K.lookup f65=some ⟨oc65,od65,.func (fnOf "_law_is_image" "_law_is_image" (Ab4 sIsI) (Aa9 sIsI) (Aa1 sIsI) .none kV65 dc65 pm65 an65 cd65 ct65),sl65⟩)
  (c65:codeIn K cd65 "_law_is_image"=true)
  (k65:keepIn K (.ref f65)=true)
  (a66:nsIn K mainGlobals "_law_own"=some (some (.ref f66)))
  (l66:K.lookup f66=some ⟨oc66,od66,.func (fnOf "_law_own" "_law_own" (Ab4 sOwn) (Aa9 sOwn) (Aa1 sOwn) .none kV66 dc66 pm66 an66 cd66 ct66),sl66⟩)
  (c66:codeIn K cd66 "_law_own"=true)
  (k66:keepIn K (.ref f66)=true)
  (a67:nsIn K mainGlobals "_law_pages"=some (some (.ref f67)))
  (l67:K.lookup f67=some ⟨oc67,od67,.func (fnOf "_law_pages" "_law_pages" (Ab4 sPgs) (Aa9 sPgs) (Aa1 sPgs) .none kV67 dc67 pm67 an67 cd67 ct67),sl67⟩)
  (c67:codeIn K cd67 "_law_pages"=true)
  (k67:keepIn K (.ref f67)=true)
  (a68:nsIn K mainGlobals "_law_place"=some (some (.ref f68)))
  (l68:K.lookup f68=some ⟨oc68,od68,.func (fnOf "_law_place" "_law_place" (Ab4 At4) (Aa9 At4) (Aa1 At4) .none kV68 dc68 pm68 an68 cd68 ct68),sl68⟩)
  (c68:codeIn K cd68 "_law_place"=true)
  (k68:keepIn K (.ref f68)=true)
  (a69:nsIn K mainGlobals "_law_is_shelf"=some (some (.ref f69)))
  (l69:K.lookup f69=some ⟨oc69,od69,.func (fnOf "_law_is_shelf" "_law_is_shelf" (Ab4 sIsS) (Aa9 sIsS) (Aa1 sIsS) .none kV69 dc69 pm69 an69 cd69 ct69),sl69⟩)
  (c69:codeIn K cd69 "_law_is_shelf"=true)
  (k69:keepIn K (.ref f69)=true)
  (a70:nsIn K mainGlobals "_law_alike"=some (some (.ref f70)))
  (l70:K.lookup f70=some ⟨oc70,od70,.func (fnOf "_law_alike" "_law_alike" (Ab4 At8) (Aa9 At8) (Aa1 At8) .none kV70 dc70 pm70 an70 cd70 ct70),sl70⟩)
  (c70:codeIn K cd70 "_law_alike"=true)
  (k70:keepIn K (.ref f70)=true)
  (a71:nsIn K mainGlobals "_law_walk"=some (some (.ref f71)))
  (l71:K.lookup f71=some ⟨oc71,od71,.func (fnOf "_law_walk" "_law_walk" (Ab4 As9) (Aa9 As9) (Aa1 As9) .none kV71 dc71 pm71 an71 cd71 ct71),sl71⟩)
  (c71:codeIn K cd71 "_law_walk"=true)
  (k71:keepIn K (.ref f71)=true)
  (a72:nsIn K mainGlobals "_law_marked"=some (some (.ref f72)))
  (l72:K.lookup f72=some ⟨oc72,od72,.func (fnOf "_law_marked" "_law_marked" (Ab4 sMkd) (Aa9 sMkd) (Aa1 sMkd) .none kV72 dc72 pm72 an72 cd72 ct72),sl72⟩)
  (c72:codeIn K cd72 "_law_marked"=true)
  (k72:keepIn K (.ref f72)=true)
  (a73:nsIn K mainGlobals "_law_call"=some (some (.ref f73)))
  (l73:K.lookup f73=some ⟨oc73,od73,.func (fnOf "_law_call" "_law_call" (Ab4 At7) (Aa9 At7) (Aa1 At7) .none kV73 dc73 pm73 an73 cd73 ct73),sl73⟩)
  (c73:codeIn K cd73 "_law_call"=true)
  (k73:keepIn K (.ref f73)=true)
  (a74:nsIn K mainGlobals "_law_do"=some (some (.ref f74)))
  (l74:K.lookup f74=some ⟨oc74,od74,.func (fnOf "_law_do" "_law_do" (Ab4 sDoL) (Aa9 sDoL) (Aa1 sDoL) .none kV74 dc74 pm74 an74 cd74 ct74),sl74⟩)
  (c74:codeIn K cd74 "_law_do"=true)
  (k74:keepIn K (.ref f74)=true)
  (a75:nsIn K mainGlobals "_law_kept"=some (some (.ref f75)))
  (l75:K.lookup f75=some ⟨oc75,od75,.func (fnOf "_law_kept" "_law_kept" (Ab4 Bh4) (Aa9 Bh4) (Aa1 Bh4) .none kV75 dc75 pm75 an75 cd75 ct75),sl75⟩)
  (c75:codeIn K cd75 "_law_kept"=true)
  (k75:keepIn K (.ref f75)=true)
  (a76:nsIn K mainGlobals "_law_reached"=some (some (.ref f76)))
  (l76:K.lookup f76=some ⟨oc76,od76,.func (fnOf "_law_reached" "_law_reached" (Ab4 Ba6) (Aa9 Ba6) (Aa1 Ba6) .none kV76 dc76 pm76 an76 cd76 ct76),sl76⟩)
  (c76:codeIn K cd76 "_law_reached"=true)
  (k76:keepIn K (.ref f76)=true)
  (a77:nsIn K mainGlobals "_law_at_place"=some (some (.ref f77)))
  (l77:K.lookup f77=some ⟨oc77,od77,.func (fnOf "_law_at_place" "_law_at_place" (Ab4 sAtP) (Aa9 sAtP) (Aa1 sAtP) .none kV77 dc77 pm77 an77 cd77 ct77),sl77⟩)
  (c77:codeIn K cd77 "_law_at_place"=true)
  (k77:keepIn K (.ref f77)=true)
  (a78:nsIn K mainGlobals "_law_due"=some (some (.ref f78)))
  (l78:K.lookup f78=some ⟨oc78,od78,.func (fnOf "_law_due" "_law_due" (Ab4 Bh7) (Aa9 Bh7) (Aa1 Bh7) .none kV78 dc78 pm78 an78 cd78 ct78),sl78⟩)
  (c78:codeIn K cd78 "_law_due"=true)
  (k78:keepIn K (.ref f78)=true)
  (a79:nsIn K mainGlobals "_law_deed"=some (some (.ref f79)))
  (l79:K.lookup f79=some ⟨oc79,od79,.func (fnOf "_law_deed" "_law_deed" (Ab4 Ay5) (Aa9 Ay5) (Aa1 Ay5) .none kV79 dc79 pm79 an79 cd79 ct79),sl79⟩)
  (c79:codeIn K cd79 "_law_deed"=true)
  (k79:keepIn K (.ref f79)=true)
  (a80:nsIn K mainGlobals "_law_step"=some (some (.ref f80)))
  (l80:K.lookup f80=some ⟨oc80,od80,.func (fnOf "_law_step" "_law_step" (Ab4 Ao2) (Aa9 Ao2) (Aa1 Ao2) .none kV80 dc80 pm80 an80 cd80 ct80),sl80⟩)
  (c80:codeIn K cd80 "_law_step"=true)
  (k80:keepIn K (.ref f80)=true)
  (a81:nsIn K mainGlobals "law"=some (some (.ref f81)))
  (l81:K.lookup f81=some ⟨oc81,od81,.func (fnOf "law" "law" (Ab4 sLaw) (Aa9 sLaw) (Aa1 sLaw) .none kV81 dc81 pm81 an81 cd81 ct81),sl81⟩)
  (c81:codeIn K cd81 "law"=true)
  (k81:keepIn K (.ref f81)=true)
  (v0:nsIn K mainGlobals "WORDS"=some (some (.int 281474976710656 tk0)))
  (v1:nsIn K mainGlobals "CELLS"=some (some (.int 8 tk1)))
  (v2:nsIn K mainGlobals "MOST_PAGES"=some (some (.int 24 tk2)))
  (v3:nsIn K mainGlobals "SEATS"=some (some (.int 12 tk3)))
  (v4:nsIn K mainGlobals "MARKS"=some (some (.int 256 tk4)))
  (v5:nsIn K mainGlobals "PARTS"=some (some (.int 8 tk5)))
  (v6:nsIn K mainGlobals "PLACES"=some (some (.int 512 tk6)))
  (v7:nsIn K mainGlobals "PRESENT"=some (some (.int 1 tk7)))
  (v8:nsIn K mainGlobals "WRITABLE"=some (some (.int 2 tk8)))
  (v9:nsIn K mainGlobals "KERNEL"=some (some (.int 4 tk9)))
  (v10:nsIn K mainGlobals "TOUCHED"=some (some (.int 8 tk10)))
  (v11:nsIn K mainGlobals "SOILED"=some (some (.int 16 tk11)))
  (z_isinstance:nsIn K mainGlobals "isinstance"=some none)
  (z_int:nsIn K mainGlobals "int"=some none)
  (z_bool:nsIn K mainGlobals "bool"=some none)
  (z_list:nsIn K mainGlobals "list"=some none)
  (z_len:nsIn K mainGlobals "len"=some none)
  (z_all:nsIn K mainGlobals "all"=some none)
  (z_range:nsIn K mainGlobals "range"=some none)
  (z_tuple:nsIn K mainGlobals "tuple"=some none)
  (z_max:nsIn K mainGlobals "max"=some none)
  (xi_NP:L2.excIn K xNP=true)
  (xi_NL:L2.excIn K xNL=true)
  (xi_NW:L2.excIn K xNW=true)
  (xi_NI:L2.excIn K xNI=true)
  (nh:findIn K (.ref xC) "held"=some none)
  (nmo:findIn K (.ref xSC) "most"=some none)
  (nse:findIn K (.ref xSC) "seats"=some none)
  (nme:findIn K (.ref xPL) "memory"=some none)
  (nba:findIn K (.ref xPL) "base"=some none)
  (nra:findIn K (.ref xPL) "rack"=some none)
  (nan:findIn K (.ref xPL) "answers"=some none)
  (nfk:findIn K (.ref xFA) "kind"=some none)
  (nfp:findIn K (.ref xFA) "place"=some none)
  (nfl:findIn K (.ref xFA) "level"=some none)
  (fsa:findIn K (.ref xFA) "__setattr__"=some (some (.builtin "object.__setattr__")))
  (fov:L2.overIn K xFA=true)
  (fhd:hasDictIn K xFA=true)
  (fga:findIn K (.ref xFA) "__getattribute__"=some (some (.builtin "BaseException.__getattribute__")))
  (fgh:findIn K (.ref xFA) "__getattr__"=some none)
  (fmb:mroIn K xFA (.type "BaseException")=some true)
  (fxm:exmOne K (.ref xFA) (.ref xFA)=some true)
  (fex:L2.excInI K xFA f34=true)
  (i3:isFn K (.ref f3)=true)
  (i4:isFn K (.ref f4)=true)
  (a5_PLme:findIn K (.ref xPL) "check_page"=some (some (.ref f5)))
  (i5:isFn K (.ref f5)=true)
  (i6:isFn K (.ref f6)=true)
  (i7:isFn K (.ref f7)=true)
  (i11:isFn K (.ref f11)=true)
  (i12:isFn K (.ref f12)=true)
  (i13:isFn K (.ref f13)=true)
  (i14:isFn K (.ref f14)=true)
  (i15:isFn K (.ref f15)=true)
  (i16:isFn K (.ref f16)=true)
  (i17:isFn K (.ref f17)=true)
  (i18:isFn K (.ref f18)=true)
  (i19:isFn K (.ref f19)=true)
  (i20:isFn K (.ref f20)=true)
  (i21:isFn K (.ref f21)=true)
  (i22:isFn K (.ref f22)=true)
  (i23:isFn K (.ref f23)=true)
  (i24:isFn K (.ref f24)=true)
  (i25:isFn K (.ref f25)=true)
  (i26:isFn K (.ref f26)=true)
  (i27:isFn K (.ref f27)=true)
  (i29:isFn K (.ref f29)=true)
  (i30:isFn K (.ref f30)=true)
  (i31:isFn K (.ref f31)=true)
  (i32:isFn K (.ref f32)=true)
  (i33:isFn K (.ref f33)=true)
  (i34:isFn K (.ref f34)=true)
  (i35:isFn K (.ref f35)=true)
  (i36:isFn K (.ref f36)=true)
  (i37:isFn K (.ref f37)=true)
  (i49:isFn K (.ref f49)=true)
  (i50:isFn K (.ref f50)=true)
  (i51:isFn K (.ref f51)=true)
  (i52:isFn K (.ref f52)=true)
  (i53:isFn K (.ref f53)=true)
  (i54:isFn K (.ref f54)=true)
  (i55:isFn K (.ref f55)=true)
  (i56:isFn K (.ref f56)=true)
  (i57:isFn K (.ref f57)=true)
  (i58:isFn K (.ref f58)=true)
  (i59:isFn K (.ref f59)=true)
  (pg_C:plainGet K xC Str.empty=true)
  (hd_C:hasDictIn K xC=true)
  (po_C:plainOver K xC=true)
  (sa_C:findIn K (.ref xC) "__setattr__"=some (some (.builtin "object.__setattr__")))
  (pg_PL:plainGet K xPL Str.empty=true)
  (hd_PL:hasDictIn K xPL=true)
  (po_PL:plainOver K xPL=true)
  (sa_PL:findIn K (.ref xPL) "__setattr__"=some (some (.builtin "object.__setattr__")))
  (pg_SC:plainGet K xSC Str.empty=true)
  (hd_SC:hasDictIn K xSC=true)
  (po_SC:plainOver K xSC=true)
  (sa_SC:findIn K (.ref xSC) "__setattr__"=some (some (.builtin "object.__setattr__")))
  (mk_C:makesIn K xC=true)
  (kc_C:keepIn K (.ref xC)=true)
  (mk_PL:makesIn K xPL=true)
  (kc_PL:keepIn K (.ref xPL)=true)
  (mk_SC:makesIn K xSC=true)
  (kc_SC:keepIn K (.ref xSC)=true)
  (sp_WC:specialIn K (.ref xWC) "__getattribute__"=some (some (.builtin "type.__getattribute__")))
  (rd_WC:readsIn K xWC (.type "type")=true)
  : ∃ fd:FuncData,(∀ (s:Shared) (v:Value),BindsTo s fd ⟨[v],[]⟩ [("_law_script",v)])/\∀ base:Heap,K.In base->base.Ns mainGlobals mg->FnOk l.prog w K mg base CX0 16 fa fd ["_law_script"] (Cd0 K):=by
 have e:=hfa.symm.trans (mg_of X G a81)
 cases e
 have F0:=Ac2 (st:=Aq5) l0 c0 k0
 have D0:Dn K mg _ _ _ _ _:=⟨F0,mg_of X G a0,F0.binds (ps:=["thing"]) λ_ _ _ _ _ _ us hl=>ba1 (λ_=>rfl) us hl⟩
 have F1:=Ac2 (st:=Aj5) l1 c1 k1
 have D1:Dn K mg _ _ _ _ _:=⟨F1,mg_of X G a1,F1.binds (ps:=["thing","bound"]) λ_ _ _ _ _ _ us hl=>ba2 (λ_ _=>rfl) us hl⟩
 have F2:=Ac2 (st:=Ay1) l2 c2 k2
 have D2:Dn K mg _ _ _ _ _:=⟨F2,mg_of X G a2,F2.binds (ps:=["thing"]) λ_ _ _ _ _ _ us hl=>ba1 (λ_=>rfl) us hl⟩
 have F3:=Ac2 (st:=Ay2) l3 c3 k3
 have B3:=F3.binds (ps:=["self"]) λ_ _ _ _ _ _ us hl=>ba1 (λ_=>rfl) us hl
 have F4:=Ac2 (st:=sHas) l4 c4 k4
 have B4:=F4.binds (ps:=["self","page"]) λ_ _ _ _ _ _ us hl=>ba2 (λ_ _=>rfl) us hl
 have F5:=Ac2 (st:=Am8) l5 c5 k5
 have B5:=F5.binds (ps:=["self","page"]) λ_ _ _ _ _ _ us hl=>ba2 (λ_ _=>rfl) us hl
 have F6:=Ac2 (st:=An3) l6 c6 k6
 have B6:=F6.binds (ps:=["self","page","cell"]) λ_ _ _ _ _ _ us hl=>ba3 (λ_ _ _=>rfl) us hl
 have F7:=Ac2 (st:=Ak5) l7 c7 k7
 have B7:=F7.binds (ps:=["self","page","cell","word"]) λ_ _ _ _ _ _ us hl=>ba4 (λ_ _ _ _=>rfl) us hl
 have F8:=Ac2 (st:=Aq8) l8 c8 k8
 have D8:Dn K mg _ _ _ _ _:=⟨F8,mg_of X G a8,F8.binds (ps:=["word"]) λ_ _ _ _ _ _ us hl=>ba1 (λ_=>rfl) us hl⟩
 have F9:=Ac2 (st:=Ao6) l9 c9 k9
 have D9:Dn K mg _ _ _ _ _:=⟨F9,mg_of X G a9,F9.binds (ps:=["thing"]) λ_ _ _ _ _ _ us hl=>ba1 (λ_=>rfl) us hl⟩
 have F10:=Ac2 (st:=At5) l10 c10 k10
 have D10:Dn K mg _ _ _ _ _:=⟨F10,mg_of X G a10,F10.binds (ps:=["pages"]) λ_ _ _ _ _ _ us hl=>ba1 (λ_=>rfl) us hl⟩
 have F11:=Ac2 (st:=Bp8) l11 c11 k11
 have B11:=F11.binds (ps:=["self","pages"]) λ_ _ _ _ _ _ us hl=>ba2 (λ_ _=>rfl) us hl
 have F12:=Ac2 (st:=Bh6) l12 c12 k12
 have B12:=F12.binds (ps:=["self","page"]) λ_ _ _ _ _ _ us hl=>ba2 (λ_ _=>rfl) us hl
 have F13:=Ac2 (st:=sLay) l13 c13 k13
 have B13:=F13.binds (ps:=["self","page","words"]) λ_ _ _ _ _ _ us hl=>ba3 (λ_ _ _=>rfl) us hl
 have F14:=Ac2 (st:=Av4) l14 c14 k14
 have B14:=F14.binds (ps:=["self","most"]) λ_ _ _ _ _ _ us hl=>ba2 (λ_ _=>rfl) us hl
 have F15:=Ac2 (st:=At3) l15 c15 k15
 have B15:=F15.binds (ps:=["self"]) λ_ _ _ _ _ _ us hl=>ba1 (λ_=>rfl) us hl
 have F16:=Ac2 (st:=Aq7) l16 c16 k16
 have B16:=F16.binds (ps:=["self"]) λ_ _ _ _ _ _ us hl=>ba1 (λ_=>rfl) us hl
 have F17:=Ac2 (st:=Ao5) l17 c17 k17
 have B17:=F17.binds (ps:=["self","page"]) λ_ _ _ _ _ _ us hl=>ba2 (λ_ _=>rfl) us hl
 have F18:=Ac2 (st:=Aj4) l18 c18 k18
 have B18:=F18.binds (ps:=["self","page","cell"]) λ_ _ _ _ _ _ us hl=>ba3 (λ_ _ _=>rfl) us hl
 have F19:=Ac2 (st:=An5) l19 c19 k19
 have B19:=F19.binds (ps:=["self","page"]) λ_ _ _ _ _ _ us hl=>ba2 (λ_ _=>rfl) us hl
 have F20:=Ac2 (st:=Bh9) l20 c20 k20
 have B20:=F20.binds (ps:=["self","page"]) λ_ _ _ _ _ _ us hl=>ba2 (λ_ _=>rfl) us hl
 have F21:=Ac2 (st:=sAsk) l21 c21 k21
 have B21:=F21.binds (ps:=["self"]) λ_ _ _ _ _ _ us hl=>ba1 (λ_=>rfl) us hl
 have F22:=Ac2 (st:=At0) l22 c22 k22
 have B22:=F22.binds (ps:=["self","page"]) λ_ _ _ _ _ _ us hl=>ba2 (λ_ _=>rfl) us hl
 have F23:=Ac2 (st:=Bg5) l23 c23 k23
 have B23:=F23.binds (ps:=["self"]) λ_ _ _ _ _ _ us hl=>ba1 (λ_=>rfl) us hl
 have F24:=Ac2 (st:=At2) l24 c24 k24
 have B24:=F24.binds (ps:=["self"]) λ_ _ _ _ _ _ us hl=>ba1 (λ_=>rfl) us hl
 have F25:=Ac2 (st:=Bg0) l25 c25 k25
 have B25:=F25.binds (ps:=["self","page"]) λ_ _ _ _ _ _ us hl=>ba2 (λ_ _=>rfl) us hl
 have F26:=Ac2 (st:=As8) l26 c26 k26
 have B26:=F26.binds (ps:=["self","page"]) λ_ _ _ _ _ _ us hl=>ba2 (λ_ _=>rfl) us hl
 have F27:=Ac2 (st:=An4) l27 c27 k27
 have B27:=F27.binds (ps:=["self"]) λ_ _ _ _ _ _ us hl=>ba1 (λ_=>rfl) us hl
 have F28:=Ac2 (st:=Av3) l28 c28 k28
 have B28:=F28.binds (ps:=["self","most"]) λ_ _ _ _ _ _ us hl=>ba2 (λ_ _=>rfl) us hl
 have F29:=Ac2 (st:=Av5) l29 c29 k29
 have B29:=F29.binds (ps:=["self","pages","most","words"]) λ_ _ _ _ _ _ us hl=>ba4 (λ_ _ _ _=>rfl) us hl
 have F30:=Ac2 (st:=Bg9) l30 c30 k30
 have B30:=F30.binds (ps:=["self","page","cell","word"]) λ_ _ _ _ _ _ us hl=>ba4 (λ_ _ _ _=>rfl) us hl
 have F31:=Ac2 (st:=Ba5) l31 c31 k31
 have B31:=F31.binds (ps:=["self","page","cell"]) λ_ _ _ _ _ _ us hl=>ba3 (λ_ _ _=>rfl) us hl
 have F32:=Ac2 (st:=Av1) l32 c32 k32
 have B32:=F32.binds (ps:=["self","page","cell"]) λ_ _ _ _ _ _ us hl=>ba3 (λ_ _ _=>rfl) us hl
 have F33:=Ac2 (st:=Ao0) l33 c33 k33
 have B33:=F33.binds (ps:=["self","page","cell","word"]) λ_ _ _ _ _ _ us hl=>ba4 (λ_ _ _ _=>rfl) us hl
 have F34:=Ac2 (st:=sFI) l34 c34 k34
 have B34:=F34.binds (ps:=["self","kind","place","level"]) λ_ _ _ _ _ _ us hl=>ba4 (λ_ _ _ _=>rfl) us hl
 have F35:=Ac2 (st:=sCkb) l35 c35 k35
 have B35:=F35.binds (ps:=["self","spot"]) λ_ _ _ _ _ _ us hl=>ba2 (λ_ _=>rfl) us hl
 have F36:=Ac2 (st:=Bg8) l36 c36 k36
 have B36:=F36.binds (ps:=["self","spot"]) λ_ _ _ _ _ _ us hl=>ba2 (λ_ _=>rfl) us hl
 have F37:=Ac2 (st:=Bg7) l37 c37 k37
 have B37:=F37.binds (ps:=["self","spot","word"]) λ_ _ _ _ _ _ us hl=>ba3 (λ_ _ _=>rfl) us hl
 have F38:=Ac2 (st:=Ba7) l38 c38 k38
 have D38:Dn K mg _ _ _ _ _:=⟨F38,mg_of X G a38,F38.binds (ps:=["row"]) λ_ _ _ _ _ _ us hl=>ba1 (λ_=>rfl) us hl⟩
 have F39:=Ac2 (st:=Ay4) l39 c39 k39
 have D39:Dn K mg _ _ _ _ _:=⟨F39,mg_of X G a39,F39.binds (ps:=["row","marks"]) λ_ _ _ _ _ _ us hl=>ba2 (λ_ _=>rfl) us hl⟩
 have F40:=Ac2 (st:=Ay3) l40 c40 k40
 have D40:Dn K mg _ _ _ _ _:=⟨F40,mg_of X G a40,F40.binds (ps:=["row","marks"]) λ_ _ _ _ _ _ us hl=>ba2 (λ_ _=>rfl) us hl⟩
 have F41:=Ac2 (st:=sRig) l41 c41 k41
 have D41:Dn K mg _ _ _ _ _:=⟨F41,mg_of X G a41,F41.binds (ps:=["top_row","low_row"]) λ_ _ _ _ _ _ us hl=>ba2 (λ_ _=>rfl) us hl⟩
 have F42:=Ac2 (st:=Bh3) l42 c42 k42
 have D42:Dn K mg _ _ _ _ _:=⟨F42,mg_of X G a42,F42.binds (ps:=["rights","write","kernel"]) λ_ _ _ _ _ _ us hl=>ba3 (λ_ _ _=>rfl) us hl⟩
 have F43:=Ac2 (st:=sNum) l43 c43 k43
 have D43:Dn K mg _ _ _ _ _:=⟨F43,mg_of X G a43,F43.binds (ps:=["place"]) λ_ _ _ _ _ _ us hl=>ba1 (λ_=>rfl) us hl⟩
 have F44:=Ac2 (st:=Ao4) l44 c44 k44
 have D44:Dn K mg _ _ _ _ _:=⟨F44,mg_of X G a44,F44.binds (ps:=["place"]) λ_ _ _ _ _ _ us hl=>ba1 (λ_=>rfl) us hl⟩
 have F45:=Ac2 (st:=Bi0) l45 c45 k45
 have D45:Dn K mg _ _ _ _ _:=⟨F45,mg_of X G a45,F45.binds (ps:=["store","row","write","kernel","place","level"]) λ_ _ _ _ _ _ us hl=>ba6 (λ_ _ _ _ _ _=>rfl) us hl⟩
 have F46:=Ac2 (st:=Bh1) l46 c46 k46
 have D46:Dn K mg _ _ _ _ _:=⟨F46,mg_of X G a46,F46.binds (ps:=["store","root","place","write","kernel"]) λ_ _ _ _ _ _ us hl=>ba5 (λ_ _ _ _ _=>rfl) us hl⟩
 have F47:=Ac2 (st:=Bg6) l47 c47 k47
 have D47:Dn K mg _ _ _ _ _:=⟨F47,mg_of X G a47,F47.binds (ps:=["store","spot","marks"]) λ_ _ _ _ _ _ us hl=>ba3 (λ_ _ _=>rfl) us hl⟩
 have F48:=Ac2 (st:=Bh0) l48 c48 k48
 have D48:Dn K mg _ _ _ _ _:=⟨F48,mg_of X G a48,F48.binds (ps:=["store","trail","write"]) λ_ _ _ _ _ _ us hl=>ba3 (λ_ _ _=>rfl) us hl⟩
 have F49:=Ac2 (st:=Bg3) l49 c49 k49
 have B49:=F49.binds (ps:=["self","number"]) λ_ _ _ _ _ _ us hl=>ba2 (λ_ _=>rfl) us hl
 have F50:=Ac2 (st:=Aq6) l50 c50 k50
 have B50:=F50.binds (ps:=["self","number"]) λ_ _ _ _ _ _ us hl=>ba2 (λ_ _=>rfl) us hl
 have F51:=Ac2 (st:=Bh5) l51 c51 k51
 have B51:=F51.binds (ps:=["self","number","page","rights"]) λ_ _ _ _ _ _ us hl=>ba4 (λ_ _ _ _=>rfl) us hl
 have F52:=Ac2 (st:=At6) l52 c52 k52
 have B52:=F52.binds (ps:=["self"]) λ_ _ _ _ _ _ us hl=>ba1 (λ_=>rfl) us hl
 have F53:=Ac2 (st:=sRem) l53 c53 k53
 have B53:=F53.binds (ps:=["self","place","write","kernel"]) λ_ _ _ _ _ _ us hl=>ba4 (λ_ _ _ _=>rfl) us hl
 have F54:=Ac2 (st:=Bg1) l54 c54 k54
 have B54:=F54.binds (ps:=["self","place","write","kernel"]) λ_ _ _ _ _ _ us hl=>ba4 (λ_ _ _ _=>rfl) us hl
 have F55:=Ac2 (st:=Ao3) l55 c55 k55
 have B55:=F55.binds (ps:=["self","place","write","kernel"]) λ_ _ _ _ _ _ us hl=>ba4 (λ_ _ _ _=>rfl) us hl
 have F56:=Ac2 (st:=Bh2) l56 c56 k56
 have B56:=F56.binds (ps:=["self","place","kernel"]) λ_ _ _ _ _ _ us hl=>ba3 (λ_ _ _=>rfl) us hl
 have F57:=Ac2 (st:=At1) l57 c57 k57
 have B57:=F57.binds (ps:=["self","place"]) λ_ _ _ _ _ _ us hl=>ba2 (λ_ _=>rfl) us hl
 have F58:=Ac2 (st:=Bg2) l58 c58 k58
 have B58:=F58.binds (ps:=["self","root"]) λ_ _ _ _ _ _ us hl=>ba2 (λ_ _=>rfl) us hl
 have F59:=Ac2 (st:=Bg4) l59 c59 k59
 have B59:=F59.binds (ps:=["self","place","word","kernel"]) λ_ _ _ _ _ _ us hl=>ba4 (λ_ _ _ _=>rfl) us hl
 have F60:=Ac2 (st:=Ba8) l60 c60 k60
 have D60:Dn K mg _ _ _ _ _:=⟨F60,mg_of X G a60,F60.binds (ps:=["_law_script","_law_k"]) λ_ _ _ _ _ _ us hl=>ba2 (λ_ _=>rfl) us hl⟩
 have F61:=Ac2 (st:=Ak6) l61 c61 k61
 have D61:Dn K mg _ _ _ _ _:=⟨F61,mg_of X G a61,F61.binds (ps:=["_law_found"]) λ_ _ _ _ _ _ us hl=>ba1 (λ_=>rfl) us hl⟩
 have F62:=Ac2 (st:=sRow) l62 c62 k62
 have D62:Dn K mg _ _ _ _ _:=⟨F62,mg_of X G a62,F62.binds (ps:=["_law_mixed","_law_many"]) λ_ _ _ _ _ _ us hl=>ba2 (λ_ _=>rfl) us hl⟩
 have F63:=Ac2 (st:=Ao1) l63 c63 k63
 have D63:Dn K mg _ _ _ _ _:=⟨F63,mg_of X G a63,F63.binds (ps:=["_law_pages_here","_law_page"]) λ_ _ _ _ _ _ us hl=>ba2 (λ_ _=>rfl) us hl⟩
 have F64:=Ac2 (st:=Bh8) l64 c64 k64
 have D64:Dn K mg _ _ _ _ _:=⟨F64,mg_of X G a64,F64.binds (ps:=["_law_pages_here"]) λ_ _ _ _ _ _ us hl=>ba1 (λ_=>rfl) us hl⟩
 have F65:=Ac2 (st:=sIsI) l65 c65 k65
 have D65:Dn K mg _ _ _ _ _:=⟨F65,mg_of X G a65,F65.binds (ps:=["_law_found","_law_due_here"]) λ_ _ _ _ _ _ us hl=>ba2 (λ_ _=>rfl) us hl⟩
 have F66:=Ac2 (st:=sOwn) l66 c66 k66
 have D66:Dn K mg _ _ _ _ _:=⟨F66,mg_of X G a66,F66.binds (ps:=["_law_cell","_law_k"]) λ_ _ _ _ _ _ us hl=>ba2 (λ_ _=>rfl) us hl⟩
 have F67:=Ac2 (st:=sPgs) l67 c67 k67
 have D67:Dn K mg _ _ _ _ _:=⟨F67,mg_of X G a67,F67.binds (ps:=["_law_script"]) λ_ _ _ _ _ _ us hl=>ba1 (λ_=>rfl) us hl⟩
 have F68:=Ac2 (st:=At4) l68 c68 k68
 have D68:Dn K mg _ _ _ _ _:=⟨F68,mg_of X G a68,F68.binds (ps:=["_law_cell"]) λ_ _ _ _ _ _ us hl=>ba1 (λ_=>rfl) us hl⟩
 have F69:=Ac2 (st:=sIsS) l69 c69 k69
 have D69:Dn K mg _ _ _ _ _:=⟨F69,mg_of X G a69,F69.binds (ps:=["_law_found","_law_due_here"]) λ_ _ _ _ _ _ us hl=>ba2 (λ_ _=>rfl) us hl⟩
 have F70:=Ac2 (st:=At8) l70 c70 k70
 have D70:Dn K mg _ _ _ _ _:=⟨F70,mg_of X G a70,F70.binds (ps:=["_law_found","_law_due_here"]) λ_ _ _ _ _ _ us hl=>ba2 (λ_ _=>rfl) us hl⟩
 have F71:=Ac2 (st:=As9) l71 c71 k71
 have D71:Dn K mg _ _ _ _ _:=⟨F71,mg_of X G a71,F71.binds (ps:=["_law_root","_law_pages_here","_law_place_here","_law_write","_law_kernel"]) λ_ _ _ _ _ _ us hl=>ba5 (λ_ _ _ _ _=>rfl) us hl⟩
 have F72:=Ac2 (st:=sMkd) l72 c72 k72
 have D72:Dn K mg _ _ _ _ _:=⟨F72,mg_of X G a72,F72.binds (ps:=["_law_pages_here","_law_trail","_law_write"]) λ_ _ _ _ _ _ us hl=>ba3 (λ_ _ _=>rfl) us hl⟩
 have F73:=Ac2 (st:=At7) l73 c73 k73
 have D73:Dn K mg _ _ _ _ _:=⟨F73,mg_of X G a73,F73.binds (ps:=["_law_way","_law_deed_here"]) λ_ _ _ _ _ _ us hl=>ba2 (λ_ _=>rfl) us hl⟩
 have F74:=Ac2 (st:=sDoL) l74 c74 k74
 have D74:Dn K mg _ _ _ _ _:=⟨F74,mg_of X G a74,F74.binds (ps:=["_law_way","_law_deed_here"]) λ_ _ _ _ _ _ us hl=>ba2 (λ_ _=>rfl) us hl⟩
 have F75:=Ac2 (st:=Bh4) l75 c75 k75
 have D75:Dn K mg _ _ _ _ _:=⟨F75,mg_of X G a75,F75.binds (ps:=["_law_rows","_law_most","_law_row"]) λ_ _ _ _ _ _ us hl=>ba3 (λ_ _ _=>rfl) us hl⟩
 have F76:=Ac2 (st:=Ba6) l76 c76 k76
 have D76:Dn K mg _ _ _ _ _:=⟨F76,mg_of X G a76,F76.binds (ps:=["_law_state","_law_place_here","_law_write","_law_kernel"]) λ_ _ _ _ _ _ us hl=>ba4 (λ_ _ _ _=>rfl) us hl⟩
 have F77:=Ac2 (st:=sAtP) l77 c77 k77
 have D77:Dn K mg _ _ _ _ _:=⟨F77,mg_of X G a77,F77.binds (ps:=["_law_state","_law_deed_here"]) λ_ _ _ _ _ _ us hl=>ba2 (λ_ _=>rfl) us hl⟩
 have F78:=Ac2 (st:=Bh7) l78 c78 k78
 have D78:Dn K mg _ _ _ _ _:=⟨F78,mg_of X G a78,F78.binds (ps:=["_law_state","_law_deed_here"]) λ_ _ _ _ _ _ us hl=>ba2 (λ_ _=>rfl) us hl⟩
 have F79:=Ac2 (st:=Ay5) l79 c79 k79
 have D79:Dn K mg _ _ _ _ _:=⟨F79,mg_of X G a79,F79.binds (ps:=["_law_cell","_law_many"]) λ_ _ _ _ _ _ us hl=>ba2 (λ_ _=>rfl) us hl⟩
 have F80:=Ac2 (st:=Ao2) l80 c80 k80
 have D80:Dn K mg _ _ _ _ _:=⟨F80,mg_of X G a80,F80.binds (ps:=["_law_way","_law_state","_law_deed_here","_law_cell"]) λ_ _ _ _ _ _ us hl=>ba4 (λ_ _ _ _=>rfl) us hl⟩
 have F81:=Ac2 (st:=sLaw) l81 c81 k81
 have D81:Dn K mg _ _ _ _ _:=⟨F81,mg_of X G a81,F81.binds (ps:=["_law_script"]) λ_ _ _ _ _ _ us hl=>ba1 (λ_=>rfl) us hl⟩
 have T:Txt K mg:=⟨mg_none_of X G z_isinstance,mg_none_of X G z_int,mg_none_of X G z_bool,mg_none_of X G z_list,mg_none_of X G z_len,mg_none_of X G z_all,mg_none_of X G z_range⟩
 have S0:Sto K mg xC xNP xNL xNW xNI:=⟨⟨pg_C,hd_C,po_C,sa_C⟩,nh,⟨tk0,mg_of X G v0⟩,⟨tk1,mg_of X G v1⟩,⟨tk2,mg_of X G v2⟩,mg_of X G n_NP,xi_NP,mg_of X G n_NL,xi_NL,mg_of X G n_NW,xi_NW,mg_of X G n_NI,xi_NI⟩
 have SS:Shf K mg xSC:=⟨⟨pg_SC,hd_SC,po_SC,sa_SC⟩,nmo,nse,⟨tk3,mg_of X G v3⟩⟩
 have RR:Rws0 K mg:=⟨⟨tk4,mg_of X G v4⟩,⟨tk5,mg_of X G v5⟩,⟨tk6,mg_of X G v6⟩,⟨tk7,mg_of X G v7⟩,⟨tk8,mg_of X G v8⟩,⟨tk9,mg_of X G v9⟩,⟨tk10,mg_of X G v10⟩,⟨tk11,mg_of X G v11⟩⟩
 have PC:Plc K xPL:=⟨⟨pg_PL,hd_PL,po_PL,sa_PL⟩,nme,nba,nra,nan⟩
 have FL:Flt K mg xFA f34:=⟨⟨fsa,fov,fhd,fga,fgh,fmb⟩,nfk,nfp,nfl,fex,i34,mg_of X G n_FA⟩
 have XF:exmOne K (.ref xFA) (.ref xFA)=some true:=fxm
 have M3_C:Me K xC _ _ _ _ _ _:=⟨F3,⟨a3,i3,k3⟩,B3⟩
 have M4_C:Me K xC _ _ _ _ _ _:=⟨F4,⟨a4,i4,k4⟩,B4⟩
 have M5_C:Me K xC _ _ _ _ _ _:=⟨F5,⟨a5,i5,k5⟩,B5⟩
 have M5_PL:Me K xPL _ _ _ _ _ _:=⟨F5,⟨a5_PLme,i5,k5⟩,B5⟩
 have M6_C:Me K xC _ _ _ _ _ _:=⟨F6,⟨a6,i6,k6⟩,B6⟩
 have M7_C:Me K xC _ _ _ _ _ _:=⟨F7,⟨a7,i7,k7⟩,B7⟩
 have M12_C:Me K xC _ _ _ _ _ _:=⟨F12,⟨a12,i12,k12⟩,B12⟩
 have M13_C:Me K xC _ _ _ _ _ _:=⟨F13,⟨a13,i13,k13⟩,B13⟩
 have M15_SC:Me K xSC _ _ _ _ _ _:=⟨F15,⟨a15,i15,k15⟩,B15⟩
 have M16_PL:Me K xPL _ _ _ _ _ _:=⟨F16,⟨a16,i16,k16⟩,B16⟩
 have M17_PL:Me K xPL _ _ _ _ _ _:=⟨F17,⟨a17,i17,k17⟩,B17⟩
 have M18_PL:Me K xPL _ _ _ _ _ _:=⟨F18,⟨a18,i18,k18⟩,B18⟩
 have M19_PL:Me K xPL _ _ _ _ _ _:=⟨F19,⟨a19,i19,k19⟩,B19⟩
 have M20_PL:Me K xPL _ _ _ _ _ _:=⟨F20,⟨a20,i20,k20⟩,B20⟩
 have M21_PL:Me K xPL _ _ _ _ _ _:=⟨F21,⟨a21,i21,k21⟩,B21⟩
 have M22_PL:Me K xPL _ _ _ _ _ _:=⟨F22,⟨a22,i22,k22⟩,B22⟩
 have M23_PL:Me K xPL _ _ _ _ _ _:=⟨F23,⟨a23,i23,k23⟩,B23⟩
 have M24_PL:Me K xPL _ _ _ _ _ _:=⟨F24,⟨a24,i24,k24⟩,B24⟩
 have M25_PL:Me K xPL _ _ _ _ _ _:=⟨F25,⟨a25,i25,k25⟩,B25⟩
 have M26_PL:Me K xPL _ _ _ _ _ _:=⟨F26,⟨a26,i26,k26⟩,B26⟩
 have M27_PL:Me K xPL _ _ _ _ _ _:=⟨F27,⟨a27,i27,k27⟩,B27⟩
 have M30_PL:Me K xPL _ _ _ _ _ _:=⟨F30,⟨a30,i30,k30⟩,B30⟩
 have M31_PL:Me K xPL _ _ _ _ _ _:=⟨F31,⟨a31,i31,k31⟩,B31⟩
 have M32_PL:Me K xPL _ _ _ _ _ _:=⟨F32,⟨a32,i32,k32⟩,B32⟩
 have M33_PL:Me K xPL _ _ _ _ _ _:=⟨F33,⟨a33,i33,k33⟩,B33⟩
 have M35_PL:Me K xPL _ _ _ _ _ _:=⟨F35,⟨a35,i35,k35⟩,B35⟩
 have M36_PL:Me K xPL _ _ _ _ _ _:=⟨F36,⟨a36,i36,k36⟩,B36⟩
 have M37_PL:Me K xPL _ _ _ _ _ _:=⟨F37,⟨a37,i37,k37⟩,B37⟩
 have M49_SC:Me K xSC _ _ _ _ _ _:=⟨F49,⟨a49,i49,k49⟩,B49⟩
 have M50_SC:Me K xSC _ _ _ _ _ _:=⟨F50,⟨a50,i50,k50⟩,B50⟩
 have M51_SC:Me K xSC _ _ _ _ _ _:=⟨F51,⟨a51,i51,k51⟩,B51⟩
 have M52_SC:Me K xSC _ _ _ _ _ _:=⟨F52,⟨a52,i52,k52⟩,B52⟩
 have M53_PL:Me K xPL _ _ _ _ _ _:=⟨F53,⟨a53,i53,k53⟩,B53⟩
 have M54_PL:Me K xPL _ _ _ _ _ _:=⟨F54,⟨a54,i54,k54⟩,B54⟩
 have M55_PL:Me K xPL _ _ _ _ _ _:=⟨F55,⟨a55,i55,k55⟩,B55⟩
 have M56_PL:Me K xPL _ _ _ _ _ _:=⟨F56,⟨a56,i56,k56⟩,B56⟩
 have M57_PL:Me K xPL _ _ _ _ _ _:=⟨F57,⟨a57,i57,k57⟩,B57⟩
 have M58_PL:Me K xPL _ _ _ _ _ _:=⟨F58,⟨a58,i58,k58⟩,B58⟩
 have M59_PL:Me K xPL _ _ _ _ _ _:=⟨F59,⟨a59,i59,k59⟩,B59⟩
 refine ⟨fnOf "law" "law" (Ab4 sLaw) (Aa9 sLaw) (Aa1 sLaw) .none kV81 dc81 pm81 an81 cd81 ct81,λs v=>.of_eq rfl,λbase _ _=>?_⟩
 have g0_whole:FnOk l.prog w K mg base _ _ f0 _ _ Ak3:=Bm7 F0 T
 have g1_below:FnOk l.prog w K mg base _ _ f1 _ _ Aj9:=Ci0 F1 D0 T
 have g2_word:FnOk l.prog w K mg base _ _ f2 _ _ As3:=Cp6 F2 D1 g1_below S0
 have g3_size:FnOk l.prog w K mg base _ _ f3 _ _ (Ba0 xC):=Cq0 F3 S0 T
 have g4_has:FnOk l.prog w K mg base _ _ f4 _ _ (Cd1 xC):=Cy7 F4 D1 g1_below M3_C g3_size S0
 have g5_cpage:FnOk l.prog w K mg base _ _ f5 _ _ (Bf8 xC xNP):=Ch8 F5 M4_C g4_has S0
 have g6_wordat:FnOk l.prog w K mg base _ _ f6 _ _ (Aw9 xC):=Bx0 F6 S0
 have g7_putword:FnOk l.prog w K mg base _ _ f7 _ _ (As6 xC):=Bq4 F7 S0
 have g8_cword:FnOk l.prog w K mg base _ _ f8 _ _ (Ax8 xNW):=Ch7 F8 D2 g2_word S0
 have g9_eight:FnOk l.prog w K mg base _ _ f9 _ _ Ax7:=Ch6 F9 D2 g2_word S0 T
 have g10_image:FnOk l.prog w K mg base _ _ f10 _ _ Bf4:=Ch3 F10 D9 g9_eight S0 T
 have g11_init:FnOk l.prog w K mg base _ _ f11 _ _ (Bu4 xC):=Cs0 F11 D10 g10_image S0 T
 have g9_eightN:FnOk l.prog w K mg base _ _ f9 _ _ Ax6:=Bx4 F9 D2 g2_word S0 T
 have g9_o13:FnOk l.prog w K mg base _ _ f9 _ _ Bl8:=FnOk.or g9_eight g9_eightN
 have g12_give:FnOk l.prog w K mg base _ _ f12 _ _ (Bu5 xC xNP):=Cs1 F12 M5_C g5_cpage S0
 have g13_lay:FnOk l.prog w K mg base _ _ f13 _ _ (Cm8 xC xNP xNW):=Cy3 F13 D1 g1_below D9 g9_o13 M3_C g3_size S0 T
 have g14_sinit:FnOk l.prog w K mg base _ _ f14 _ _ (Bf1 xSC):=Cg6 F14 D0 g0_whole SS
 have g15_stold:FnOk l.prog w K mg base _ _ f15 _ _ (Bf0 xSC):=Cg4 F15 SS
 have g16_psz:FnOk l.prog w K mg base _ _ f16 _ _ (Ax4 xC xSC xPL):=Cx9 F16 M3_C g3_size S0 PC
 have g17_phas:FnOk l.prog w K mg base _ _ f17 _ _ (Al5 xC xSC xPL):=Cr1 F17 M4_C g4_has S0 PC
 have g18_pwat:FnOk l.prog w K mg base _ _ f18 _ _ (Al4 xC xSC xPL):=Cq7 F18 M6_C g6_wordat S0 PC
 have g19_gup:FnOk l.prog w K mg base _ _ f19 _ _ (Ax5 xC xSC xPL):=Cy8 F19 M12_C g12_give S0 PC
 have g20_come:FnOk l.prog w K mg base _ _ f20 _ _ (Bu8 xC xSC xPL):=Cs6 F20 M13_C g13_lay S0 PC
 have g21_ask:FnOk l.prog w K mg base _ _ f21 _ _ (Cn3 xC xSC xPL):=Cz2 F21 PC T
 have g22_wgive:FnOk l.prog w K mg base _ _ f22 _ _ (Be6 xC xSC xPL):=Cg0 F22 M17_PL g17_phas M19_PL g19_gup PC
 have g23_root:FnOk l.prog w K mg base _ _ f23 _ _ (Bt3 xC xSC xPL):=Cq4 F23 PC
 have g24_shelf:FnOk l.prog w K mg base _ _ f24 _ _ (Be9 xC xSC xPL):=Cg7 F24 M15_SC g15_stold PC SS
 have g25_want:FnOk l.prog w K mg base _ _ f25 _ _ (Bs8 xC xSC xPL):=Cp7 F25 D1 g1_below M16_PL g16_psz M17_PL g17_phas M21_PL g21_ask M20_PL g20_come PC
 have g26_words:FnOk l.prog w K mg base _ _ f26 _ _ (Aw8 xC xSC xPL):=Cf8 F26 M18_PL g18_pwat S0 PC T
 have g27_wpages:FnOk l.prog w K mg base _ _ f27 _ _ (Ax1 xC xSC xPL):=Bw9 F27 M16_PL g16_psz M17_PL g17_phas M26_PL g26_words PC T
 have g28_winit:FnOk l.prog w K mg base _ _ f28 _ _ (Be5 xSC xPL):=Cf9 F28 ⟨mk_SC,a14,i14,kc_SC⟩ (mg_of X G n_SC) B14 g14_sinit PC
 have g29_plinit:FnOk l.prog w K mg base _ _ f29 _ _ (Bf3 xC xSC xPL):=Bx2 F29 ⟨mk_C,a11,i11,kc_C⟩ (mg_of X G n_C) B11 g11_init ⟨sp_WC,rd_WC,a28,k28⟩ (mg_of X G n_WC) B28 g28_winit PC T
 have g30_pput:FnOk l.prog w K mg base _ _ f30 _ _ (Bt7 xC xSC xPL):=Cq9 F30 M7_C g7_putword S0 PC
 have g5_wcpage:FnOk l.prog w K mg base _ _ f5 _ _ (Ax2 xC xSC xPL xNP):=Bx1 F5 M17_PL g17_phas S0 PC
 have g31_wspot:FnOk l.prog w K mg base _ _ f31 _ _ (Ax0 xC xSC xPL xNP xNL):=Cf6 F31 D1 g1_below M5_PL g5_wcpage S0 PC
 have g32_wread:FnOk l.prog w K mg base _ _ f32 _ _ (Ap7 xC xSC xPL xNP xNL):=Cf7 F32 M31_PL g31_wspot M18_PL g18_pwat PC
 have g33_wwrite:FnOk l.prog w K mg base _ _ f33 _ _ (An9 xC xSC xPL xNP xNL xNW):=Bw8 F33 M31_PL g31_wspot D8 g8_cword M30_PL g30_pput PC
 have g34_finit:FnOk l.prog w K mg base _ _ f34 _ _ (spXI xFA 3 ffF):=Ch4 F34 FL
 have g35_ckb:FnOk l.prog w K mg base _ _ f35 _ _ (Cd2 xC xSC xPL xFA):=Cz0 F35 M17_PL g17_phas FL g34_finit B34 S0 PC
 have g36_peek:FnOk l.prog w K mg base _ _ f36 _ _ (Bt6 xC xSC xPL xFA):=Cr3 F36 M35_PL g35_ckb M32_PL g32_wread S0 PC
 have g37_poke:FnOk l.prog w K mg base _ _ f37 _ _ (Bt5 xC xSC xPL xFA):=Cr0 F37 M35_PL g35_ckb M33_PL g33_wwrite S0 PC
 have g38_pgof:FnOk l.prog w K mg base _ _ f38 _ _ Bl7:=Cr2 F38 RR
 have g39_rhas:FnOk l.prog w K mg base _ _ f39 _ _ Ba2:=Cq5 F39 RR
 have g40_rput:FnOk l.prog w K mg base _ _ f40 _ _ Ba1:=Cq3 F40 RR
 have g41_rig:FnOk l.prog w K mg base _ _ f41 _ _ Cm4:=Cx7 F41 RR
 have g42_lets:FnOk l.prog w K mg base _ _ f42 _ _ Bu1:=Cr7 F42 D39 g39_rhas D40 g40_rput RR
 have g43_num:FnOk l.prog w K mg base _ _ f43 _ _ Bp6:=Cy1 F43 D1 g1_below RR
 have g44_parts:FnOk l.prog w K mg base _ _ f44 _ _ As7:=Ch1 F44 D43 g43_num RR
 have g45_crow:FnOk l.prog w K mg base _ _ f45 _ _ (Bu9 xC xSC xPL xFA):=Cs4 F45 D39 g39_rhas D38 g38_pgof M17_PL g17_phas FL g34_finit B34 PC RR
 have g46_look:FnOk l.prog w K mg base _ _ f46 _ _ (Bt9 xC xSC xPL xFA):=Cr5 F46 D44 g44_parts D38 g38_pgof D41 g41_rig M17_PL g17_phas M32_PL g32_wread D45 g45_crow FL g34_finit B34 PC RR
 have g47_putm:FnOk l.prog w K mg base _ _ f47 _ _ (Bt4 xC xSC xPL):=Cq8 F47 D39 g39_rhas D40 g40_rput M32_PL g32_wread M33_PL g33_wwrite PC RR
 have g48_mark:FnOk l.prog w K mg base _ _ f48 _ _ (Bt8 xC xSC xPL):=Cr4 F48 D47 g47_putm D40 g40_rput RR
 have g49_seek:FnOk l.prog w K mg base _ _ f49 _ _ (Bt1 xSC):=Cq1 F49 SS
 have g50_sdrop:FnOk l.prog w K mg base _ _ f50 _ _ (Ax3 xSC):=Cg8 F50 SS
 have g51_keep:FnOk l.prog w K mg base _ _ f51 _ _ (Bu3 xSC):=Cr9 F51 M50_SC g50_sdrop SS T
 have g52_empty:FnOk l.prog w K mg base _ _ f52 _ _ (Bf5 xSC):=Ch5 F52 SS
 have g53_rem:FnOk l.prog w K mg base _ _ f53 _ _ (Cm5 xC xSC xPL):=Cx8 F53 D1 g1_below D43 g43_num M49_SC g49_seek M17_PL g17_phas D42 g42_lets PC SS RR
 have g54_walk:FnOk l.prog w K mg base _ _ f54 _ _ (Bs9 xC xSC xPL xFA):=Cp8 F54 D46 g46_look D48 g48_mark D43 g43_num M51_SC g51_keep PC SS
 have g55_reach:FnOk l.prog w K mg base _ _ f55 _ _ (As5 xC xSC xPL xFA):=Cg9 F55 M53_PL g53_rem M54_PL g54_walk PC
 have g56_load:FnOk l.prog w K mg base _ _ f56 _ _ (Bu0 xC xSC xPL xFA):=Cr6 F56 M55_PL g55_reach M32_PL g32_wread D44 g44_parts PC
 have g57_wdrop:FnOk l.prog w K mg base _ _ f57 _ _ (Be7 xC xSC xPL):=Cg1 F57 D1 g1_below D43 g43_num M50_SC g50_sdrop PC SS RR
 have g58_turn:FnOk l.prog w K mg base _ _ f58 _ _ (Bt0 xC xSC xPL):=Cp9 F58 M52_SC g52_empty PC SS
 have g59_save:FnOk l.prog w K mg base _ _ f59 _ _ (Bt2 xC xSC xPL xFA):=Cq2 F59 D8 g8_cword M55_PL g55_reach M33_PL g33_wwrite D44 g44_parts PC
 have g60_cell:FnOk l.prog w K mg base _ _ f60 _ _ (Bl9 K):=Cs7 F60 T
 have g61_lwhole:FnOk l.prog w K mg base _ _ f61 _ _ Ak3:=Bx3 F61 T
 have g62_row:FnOk l.prog w K mg base _ _ f62 _ _ Cc8:=Cx6 F62
 have g63_there:FnOk l.prog w K mg base _ _ f63 _ _ As4:=Cg3 F63 T
 have g64_copy:FnOk l.prog w K mg base _ _ f64 _ _ Bu7:=Cs5 F64 T
 have g65_isi:FnOk l.prog w K mg base _ _ f65 _ _ Cn0:=Cy6 F65 D61 g61_lwhole T
 have g66_own:FnOk l.prog w K mg base _ _ f66 _ _ Cc9:=Cy0 F66 T
 have g67_pages:FnOk l.prog w K mg base _ _ f67 _ _ (Cm6 K):=Ch2 F67 D60 g60_cell D62 g62_row T
 have g68_place:FnOk l.prog w K mg base _ _ f68 _ _ Bf2:=Ch0 F68 D66 g66_own T
 have g69_iss:FnOk l.prog w K mg base _ _ f69 _ _ Cm9:=Cy5 F69 D61 g61_lwhole T (mg_none_of X G z_tuple)
 have g70_alike:FnOk l.prog w K mg base _ _ f70 _ _ Bf9:=Ci1 F70 D61 g61_lwhole T (mg_none_of X G z_tuple)
 have g71_walkl:FnOk l.prog w K mg base _ _ f71 _ _ Be4:=Cg2 F71 D63 g63_there T
 have g72_mkd:FnOk l.prog w K mg base _ _ f72 _ _ Cm7:=Cy2 F72 T
 have g73_calll:FnOk l.prog w K mg base _ _ f73 _ _ (Bf7 xC xSC xPL xFA):=Ch9 F73 M56_PL g56_load M59_PL g59_save M36_PL g36_peek M37_PL g37_poke M58_PL g58_turn M57_PL g57_wdrop M22_PL g22_wgive M25_PL g25_want PC
 have g74_dol:FnOk l.prog w K mg base _ _ f74 _ _ (Cn1 xC xSC xPL):=Cy9 F74 D73 g73_calll FL XF
 have g75_kept:FnOk l.prog w K mg base _ _ f75 _ _ Bu2:=Cr8 F75 T (mg_none_of X G z_max)
 have g76_rchl:FnOk l.prog w K mg base _ _ f76 _ _ Bl6:=Cq6 F76 D63 g63_there D71 g71_walkl D72 g72_mkd D75 g75_kept T
 have g77_atp:FnOk l.prog w K mg base _ _ f77 _ _ Cn2:=Cz1 F77 D76 g76_rchl T (mg_none_of X G z_tuple)
 have g78_duel:FnOk l.prog w K mg base _ _ f78 _ _ Bu6:=Cs2 F78 D77 g77_atp D63 g63_there T
 have g79_deed:FnOk l.prog w K mg base _ _ f79 _ _ Bf6:=Cs3 F79 D66 g66_own D68 g68_place D62 g62_row
 have g80_stepl:FnOk l.prog w K mg base _ _ f80 _ _ (Be8 xC xSC xPL):=Cg5 F80 D70 g70_alike D76 g76_rchl D74 g74_dol D78 g78_duel M55_PL g55_reach PC FL XF
 exact Cy4 F81 D60 g60_cell D67 g67_pages D64 g64_copy D79 g79_deed D80 g80_stepl D69 g69_iss D65 g65_isi M23_PL g23_root M24_PL g24_shelf M27_PL g27_wpages ⟨mk_PL,a29,i29,kc_PL⟩ (mg_of X G n_PL) B29 g29_plinit PC T
theorem walk {l:PySem.W.OpenLaw} {q:Program} {loose:List Str} {XP:(Str->Option Value)->Heap->Prop} {YP:World->Heap->Prop} {d:DefRec} {K:Params->PySem.W.Frag} (hn:l.most=some 63) (hdf:d.params.defaults=[])
  (hY:∀ (w:World) (h:Heap),YP w h->(K w.params).In h)
  (F:∀ (w:World) (mg:Str->Option Value) (fa:Addr) (h:Heap),(K w.params).In h->h.Ns mainGlobals mg->mg d.name=some (.ref fa) ->
   ∃ fd:FuncData,(∀ (s:Shared) (u:Value),BindsTo s fd ⟨[u],[]⟩ [("_law_script",u)])/\∀ base:Heap,(K w.params).In base->base.Ns mainGlobals mg->FnOk l.prog w (K w.params) mg base CX0 16 fa fd ["_law_script"] (Cd0 (K w.params))) :
  PySem.W.WalkO q loose XP YP l.row.toRowW d [] (λf vs=>PySem.call f vs) :=
 L2.walk_of (n:=63) (k:=16) (x:="_law_script") (CX:=λ_=>CX0) (sp:=λw=>Cd0 (K w.params)) hn (by decide) hdf ⟨rfl,by decide,by decide⟩ hY F (λ_ _ a ns hl _ hS=>⟨a,ns,rfl,hS,hl,λ_=>rfl⟩) λ_ _ _ _ _ z=>z
end K28
open PySem PySem.W PyProof.Rows
set_option maxRecDepth 100000 in
set_option maxHeartbeats 0 in
theorem PySem.Challenge.cw_shadowpages_k28_whole_plain_holds : PySem.Challenge.rw_shadowpages_k28_whole_plain.Holds := by
 w_on; o_law
 refine holds_open (q:=K28.vw) (loose:=[]) (Xt:=λs=>xlAt K28.vw [] s && recOk [] s) (XP:=XL K28.vw []) (Yf:=Hook.obs (kHook K28.KF K28.asF K28.hF)) (Ya:=Hook.val (kHook K28.KF K28.asF K28.hF)) (YP:=Hook.says (kHook K28.KF K28.asF K28.hF)) (N:=11244) ?hl (Hook.of (kHook K28.KF K28.asF K28.hF)) (Hook.keeps (kHook K28.KF K28.asF K28.hF)) (λs e=>xl_of s (Bool.and_eq_true_iff.mp e).1) XL.keeps (by rfl) (by rfl) (by rfl) (λs e=>recFacts_of (Bool.and_eq_true_iff.mp e).2) (by rfl) (by first | assumption | decide +kernel) (by decide +kernel) ⟨rfl,rfl,rfl,rfl,rfl,by decide +kernel⟩ ?hw ?hc
 case hl=>exact K28.hl
 case hw=>w_witness2
 k_fill
 refine K28.walk (l:=PySem.Challenge.rw_shadowpages_k28_whole_plain) rfl rfl (λw h Y=>PySem.W.kIn_of Y) ?F
 case F =>
  intro w mg fa h KX G hmg
  refine' K28.all_mk KX G hmg ?n_C ?n_SC ?n_PL ?n_WC ?n_NP ?n_NL ?n_NW ?n_NI ?n_FA ?a0 ?l0 ?c0 ?k0 ?a1 ?l1 ?c1 ?k1 ?a2 ?l2 ?c2 ?k2 ?a3 ?l3 ?c3 ?k3 ?a4 ?l4 ?c4 ?k4 ?a5 ?l5 ?c5 ?k5 ?a6 ?l6 ?c6 ?k6 ?a7 ?l7 ?c7 ?k7 ?a8 ?l8 ?c8 ?k8 ?a9 ?l9 ?c9 ?k9 ?a10 ?l10 ?c10 ?k10 ?a11 ?l11 ?c11 ?k11 ?a12 ?l12 ?c12 ?k12 ?a13 ?l13 ?c13 ?k13 ?a14 ?l14 ?c14 ?k14 ?a15 ?l15 ?c15 ?k15 ?a16 ?l16 ?c16 ?k16 ?a17 ?l17 ?c17 ?k17 ?a18 ?l18 ?c18 ?k18 ?a19 ?l19 ?c19 ?k19 ?a20 ?l20 ?c20 ?k20 ?a21 ?l21 ?c21 ?k21 ?a22 ?l22 ?c22 ?k22 ?a23 ?l23 ?c23 ?k23 ?a24 ?l24 ?c24 ?k24 ?a25 ?l25 ?c25 ?k25 ?a26 ?l26 ?c26 ?k26 ?a27 ?l27 ?c27 ?k27 ?a28 ?l28 ?c28 ?k28 ?a29 ?l29 ?c29 ?k29 ?a30 ?l30 ?c30 ?k30 ?a31 ?l31 ?c31 ?k31 ?a32 ?l32 ?c32 ?k32 ?a33 ?l33 ?c33 ?k33 ?a34 ?l34 ?c34 ?k34 ?a35 ?l35 ?c35 ?k35 ?a36 ?l36 ?c36 ?k36 ?a37 ?l37 ?c37 ?k37 ?a38 ?l38 ?c38 ?k38 ?a39 ?l39 ?c39 ?k39 ?a40 ?l40 ?c40 ?k40 ?a41 ?l41 ?c41 ?k41 ?a42 ?l42 ?c42 ?k42 ?a43 ?l43 ?c43 ?k43 ?a44 ?l44 ?c44 ?k44 ?a45 ?l45 ?c45 ?k45 ?a46 ?l46 ?c46 ?k46 ?a47 ?l47 ?c47 ?k47 ?a48 ?l48 ?c48 ?k48 ?a49 ?l49 ?c49 ?k49 ?a50 ?l50 ?c50 ?k50 ?a51 ?l51 ?c51 ?k51 ?a52 ?l52 ?c52 ?k52 ?a53 ?l53 ?c53 ?k53 ?a54 ?l54 ?c54 ?k54 ?a55 ?l55 ?c55 ?k55 ?a56 ?l56 ?c56 ?k56 ?a57 ?l57 ?c57 ?k57 ?a58 ?l58 ?c58 ?k58 ?a59 ?l59 ?c59 ?k59 ?a60 ?l60 ?c60 ?k60 ?a61 ?l61 ?c61 ?k61 ?a62 ?l62 ?c62 ?k62 ?a63 ?l63 ?c63 ?k63 ?a64 ?l64 ?c64 ?k64 ?a65 ?l65 ?c65 ?k65 ?a66 ?l66 ?c66 ?k66 ?a67 ?l67 ?c67 ?k67 ?a68 ?l68 ?c68 ?k68 ?a69 ?l69 ?c69 ?k69 ?a70 ?l70 ?c70 ?k70 ?a71 ?l71 ?c71 ?k71 ?a72 ?l72 ?c72 ?k72 ?a73 ?l73 ?c73 ?k73 ?a74 ?l74 ?c74 ?k74 ?a75 ?l75 ?c75 ?k75 ?a76 ?l76 ?c76 ?k76 ?a77 ?l77 ?c77 ?k77 ?a78 ?l78 ?c78 ?k78 ?a79 ?l79 ?c79 ?k79 ?a80 ?l80 ?c80 ?k80 ?a81 ?l81 ?c81 ?k81 ?v0 ?v1 ?v2 ?v3 ?v4 ?v5 ?v6 ?v7 ?v8 ?v9 ?v10 ?v11 ?z_isinstance ?z_int ?z_bool ?z_list ?z_len ?z_all ?z_range ?z_tuple ?z_max ?xi_NP ?xi_NL ?xi_NW ?xi_NI ?nh ?nmo ?nse ?nme ?nba ?nra ?nan ?nfk ?nfp ?nfl ?fsa ?fov ?fhd ?fga ?fgh ?fmb ?fxm ?fex ?i3 ?i4 ?a5_PLme ?i5 ?i6 ?i7 ?i11 ?i12 ?i13 ?i14 ?i15 ?i16 ?i17 ?i18 ?i19 ?i20 ?i21 ?i22 ?i23 ?i24 ?i25 ?i26 ?i27 ?i29 ?i30 ?i31 ?i32 ?i33 ?i34 ?i35 ?i36 ?i37 ?i49 ?i50 ?i51 ?i52 ?i53 ?i54 ?i55 ?i56 ?i57 ?i58 ?i59 ?pg_C ?hd_C ?po_C ?sa_C ?pg_PL ?hd_PL ?po_PL ?sa_PL ?pg_SC ?hd_SC ?po_SC ?sa_SC ?mk_C ?kc_C ?mk_PL ?kc_PL ?mk_SC ?kc_SC ?sp_WC ?rd_WC
  case n_C | n_SC | n_PL | n_WC | n_NP | n_NL | n_NW | n_NI | n_FA | a0 | l0 | c0 | k0 | a1 | l1 | c1 | k1 | a2 | l2 | c2 | k2 | a3 | l3 | c3 | k3 | a4 | l4 | c4 | k4 | a5 | l5 | c5 | k5 | a6 | l6 | c6 | k6 | a7 | l7 | c7 | k7 | a8 | l8 | c8 | k8 | a9 | l9 | c9 | k9 | a10 | l10 | c10 | k10 | a11 | l11 | c11 | k11 | a12 | l12 | c12 | k12 | a13 | l13 | c13 | k13 | a14 | l14 | c14 | k14 | a15 | l15 | c15 | k15 | a16 | l16 | c16 | k16 | a17 | l17 | c17 | k17 | a18 | l18 | c18 | k18 | a19 | l19 | c19 | k19 | a20 | l20 | c20 | k20 | a21 | l21 | c21 | k21 | a22 | l22 | c22 | k22 | a23 | l23 | c23 | k23 | a24 | l24 | c24 | k24 | a25 | l25 | c25 | k25 | a26 | l26 | c26 | k26 | a27 | l27 | c27 | k27 | a28 | l28 | c28 | k28 | a29 | l29 | c29 | k29 | a30 | l30 | c30 | k30 | a31 | l31 | c31 | k31 | a32 | l32 | c32 | k32 | a33 | l33 | c33 | k33 | a34 | l34 | c34 | k34 | a35 | l35 | c35 | k35 | a36 | l36 | c36 | k36 | a37 | l37 | c37 | k37 | a38 | l38 | c38 | k38 | a39 | l39 | c39 | k39 | a40 | l40 | c40 | k40 | a41 | l41 | c41 | k41 | a42 | l42 | c42 | k42 | a43 | l43 | c43 | k43 | a44 | l44 | c44 | k44 | a45 | l45 | c45 | k45 | a46 | l46 | c46 | k46 | a47 | l47 | c47 | k47 | a48 | l48 | c48 | k48 | a49 | l49 | c49 | k49 | a50 | l50 | c50 | k50 | a51 | l51 | c51 | k51 | a52 | l52 | c52 | k52 | a53 | l53 | c53 | k53 | a54 | l54 | c54 | k54 | a55 | l55 | c55 | k55 | a56 | l56 | c56 | k56 | a57 | l57 | c57 | k57 | a58 | l58 | c58 | k58 | a59 | l59 | c59 | k59 | a60 | l60 | c60 | k60 | a61 | l61 | c61 | k61 | a62 | l62 | c62 | k62 | a63 | l63 | c63 | k63 | a64 | l64 | c64 | k64 | a65 | l65 | c65 | k65 | a66 | l66 | c66 | k66 | a67 | l67 | c67 | k67 | a68 | l68 | c68 | k68 | a69 | l69 | c69 | k69 | a70 | l70 | c70 | k70 | a71 | l71 | c71 | k71 | a72 | l72 | c72 | k72 | a73 | l73 | c73 | k73 | a74 | l74 | c74 | k74 | a75 | l75 | c75 | k75 | a76 | l76 | c76 | k76 | a77 | l77 | c77 | k77 | a78 | l78 | c78 | k78 | a79 | l79 | c79 | k79 | a80 | l80 | c80 | k80 | a81 | l81 | c81 | k81 | v0 | v1 | v2 | v3 | v4 | v5 | v6 | v7 | v8 | v9 | v10 | v11 | z_isinstance | z_int | z_bool | z_list | z_len | z_all | z_range | z_tuple | z_max=>k_is
  case xi_NP | xi_NL | xi_NW | xi_NI=>kernel_rfl
  case nh | nmo | nse | nme | nba | nra | nan | nfk | nfp | nfl | fsa=>k_is
  case fov=>kernel_rfl
  case fhd | fga | fgh | fmb=>k_is
  case fxm | fex=>kernel_rfl
  case i3 | i4 | a5_PLme | i5 | i6 | i7 | i11 | i12 | i13 | i14 | i15 | i16 | i17 | i18 | i19 | i20 | i21 | i22 | i23 | i24 | i25 | i26 | i27 | i29 | i30 | i31 | i32 | i33 | i34 | i35 | i36 | i37 | i49 | i50 | i51 | i52 | i53 | i54 | i55 | i56 | i57 | i58 | i59 | pg_C | hd_C | po_C | sa_C | pg_PL | hd_PL | po_PL | sa_PL | pg_SC | hd_SC | po_SC | sa_SC | mk_C | kc_C | mk_PL | kc_PL | mk_SC | kc_SC | sp_WC | rd_WC=>k_is
end
