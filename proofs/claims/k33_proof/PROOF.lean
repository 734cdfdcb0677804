import PyProof.Rows.All
import Wide.All
import OpenK.AllK
import Wide.FinOn
import Lean
import PyProof.EqAt
import PyProof.EqKinds
import PyProof.TupleCall
import PySem.Challenge.RW_shadowpages_k33_rows_among_registers
set_option Elab.async false
set_option linter.all false
set_option maxRecDepth 100000
set_option maxHeartbeats 4000000
section
namespace L2
open PySem
def Aa9 (s:Stmt) (j:Nat):Stmt:=match s with
 | .ClassDef _ _ _ body _ _ _ _ _ _ _=>body.getD j (.Pass ⟨0,0,0,0⟩)
 | _=>.Pass ⟨0,0,0,0⟩
def Ab4 (s:Stmt):Arguments:=match s with
 | .FunctionDef _ a _ _ _ _ _ _ _ _=>a
 | _=>{ posonlyargs:=[],args:=[],vararg:=none,kwonlyargs:=[],kw_defaults:=[],kwarg:=none,defaults:=[] }
def Ab1 (s:Stmt):List Stmt:=match s with
 | .FunctionDef _ _ b _ _ _ _ _ _ _=>b
 | _=>[]
def Aa1 (s:Stmt):Scope:=match s with
 | .FunctionDef _ _ _ _ _ _ sc _ _ _=>sc
 | _=>{ kind:=.function,names:=[],isGenerator:=false,isCoroutine:=false }
end L2
end
section
namespace HT1
open PySem PySem.W PyProof.Rows
def Ao2 (tb:String->Option Builtin) (p:Program) (w:World) (n₀:Nat) (ann:Option Value):Nat->SharedT->Thread->Option SharedT
 | 0,_,_=>none
 | n+1,s,t=>match through t with
  | true=>some s
  | false=>match stepOk n₀ ann t with
   | false=>none
   | true=>match stepT (denote tb) p w s t with
    | some (s',t')=>Ao2 tb p w n₀ ann n s' t'
    | none=>none
theorem Ap8 {tb:String->Option Builtin} {p:Program} {w:World} {n₀:Nat} {ann:Option Value}:∀ {n:Nat} {s s':SharedT} {t:Thread},Ao2 tb p w n₀ ann n s t=some s'->topRun tb p w n₀ ann n s.abs t=some s'.abs
 | 0,_,_,_,h=>by cases h
 | n+1,s,s',t,h=>by
  unfold Ao2 at h
  unfold topRun
  cases ht:through t with
  | true=>rw [ht] at h; cases h; rfl
  | false =>
   rw [ht] at h
   cases hk:stepOk n₀ ann t with
   | false=>rw [hk] at h; cases h
   | true =>
    rw [hk] at h
    cases hs:stepT (denote tb) p w s t with
    | none=>rw [hs] at h; cases h
    | some r=>obtain ⟨s₂,t₂⟩:=r; rw [hs] at h; rw [stepT_spec hs]; exact Ap8 h
def ofL:List Obj->Nat->BT->BT
 | [],_,t=>t
 | o::l,n,t=>ofL l (n+1) (t.ins n o)
noncomputable def Bz2 (P:Params):BT:=ofL (boot_heap P).objs.toList 0 .nil
def Bz3:Nat:=11
noncomputable def Bw6 (w:World) (os:OsState):SharedT:=⟨Bz2 w.params,Bz3,(boot_heap w.params).life,Array.mk [],boot_drawn,boot_toks,os⟩
theorem Bg4 (w:World):((boot_heap w.params).isNs mainGlobals && (Array.mk []:Array GenState).size == 0,(boot_heap w.params).objs.size,(boot_heap w.params).nsMap mainGlobals "__annotations__")=(true,11,some (.ref 6)):=by kernel_rfl
theorem Bk4 (w:World) (os:OsState):(Bw6 w os).abs=⟨boot_heap w.params,Array.mk [],boot_drawn,boot_toks,os⟩:=by kernel_rfl
noncomputable def runS (p:Program) (N:Nat) (w:World) (os:OsState):=Ao2 treeTable p w 11 (some (.ref 6)) N (Bw6 w os) (topStub p)
def c1 {α β:Type} (x:α×β):α:=match x with | (a,_)=>a
def c2 {α β:Type} (x:α×β):β:=match x with | (_,b)=>b
noncomputable def chkA (p:Program) (w:World) (s:SharedT):=(staticsOk (importedModules p.main.body) (boot_heap w.params) s.abs.heap && namesBound p s.abs.heap && gensDone s.abs && laidKept (boot_heap w.params) s.abs.heap)
noncomputable def look1 (p q:Program) (loose:List Str) (Xt:Shared->Bool) (N:Nat) (g0:Bool) (w:World) (os:OsState):=(runS p N w os).map λs=>(chkA p w s,(openSeen q loose (importedModules p.main.body) Xt g0 s.abs).1,(openSeen q loose (importedModules p.main.body) Xt g0 s.abs).2.1)
noncomputable def look2 (p q:Program) (loose:List Str) (Xt:Shared->Bool) (N:Nat) (g0:Bool) (w:World) (os:OsState):=(runS p N w os).map λs=>(openSeen q loose (importedModules p.main.body) Xt g0 s.abs).2.2.1
noncomputable def look4 (p q:Program) (loose:List Str) (Xt:Shared->Bool) (N:Nat) (g0:Bool) (w:World) (os:OsState):=(runS p N w os).map λs=>(openSeen q loose (importedModules p.main.body) Xt g0 s.abs).2.2.2.1
def getT (s:SharedT) (a:Nat):Option Obj:=match Nat.blt a s.n with
 | true=>match s.tree.get a with
  | some o=>alive o
  | none=>none
 | false=>none
theorem Bj9 {s:SharedT} {a:Nat} {o:Obj} (h:getT s a=some o):s.abs.heap.get? a=some o:=by
 unfold getT at h
 cases hb:Nat.blt a s.n with
 | false=>rw [hb] at h; cases h
 | true =>
  rw [hb] at h
  cases hg:s.tree.get a with
  | none=>rw [hg] at h; cases h
  | some o' =>
   rw [hg] at h
   exact (abs_get (Nat.le_of_ble_eq_true hb) hg).trans h
theorem Ar4 {s:SharedT}:∀ {as:List Nat} {K:Frag},as.map (getT s)=K.map (λp=>some p.2)->as.map s.abs.heap.get?=K.map λp=>some p.2
 | [],[],_=>rfl
 | [],_::_,h=>by cases h
 | _::_,[],h=>by cases h
 | a::as,k::K,h=>by
  rw [List.map_cons,List.map_cons] at h
  obtain ⟨h1,h2⟩:=List.cons.inj h
  rw [List.map_cons,List.map_cons,Bj9 h1,Ar4 h2]
noncomputable def look3 (p q:Program) (loose:List Str) (Xt:Shared->Bool) (as:List Addr) (N:Nat) (g0:Bool) (w:World) (os:OsState):=(runS p N w os).map λs=>((openSeen q loose (importedModules p.main.body) Xt g0 s.abs).2.2.2.2,as.map (getT s))
theorem left_cut {p q:Program} {loose:List Str} {Xt:Shared->Bool} {K:Params->Frag} {as:List Addr} {ea:∀ P,as=(K P).map (·.1)} {N:Nat} {g0:Bool}
  (e:opening p=plainProg p.main.scope.names) (hN:Nat.ble 600 N=true) (f:∀ s,fenceModules? p s=some s)
  (h1:∀ w:World,(λos=>look1 p q loose Xt N g0 w os)=λ_=>some (true,c1 (openGood q loose),c1 (c2 (openGood q loose))))
  (h2:∀ w:World,(λos=>look2 p q loose Xt N g0 w os)=λ_=>some true)
  (h4:∀ w:World,(λos=>look4 p q loose Xt N g0 w os)=λ_=>some true)
  (h3:∀ w:World,(λos=>look3 p q loose Xt as N g0 w os)=λ_=>some (c2 (c2 (c2 (c2 (openGood q loose)))),(K w.params).map λp=>some p.2)):LeftO p q loose Xt (kHook K as ea).obs (kHook K as ea).val N g0:=λw=>by
 obtain ⟨⟨h,gs,d,k',os⟩,eo,e'⟩:=Option.map_eq_some_iff.mp (boot_open e hN f w)
 obtain ⟨rfl,rfl,rfl,rfl⟩:h=boot_heap w.params/\gs=Array.mk []/\d=boot_drawn/\k'=boot_toks:=by simpa using e'
 obtain ⟨z1,z2,z3⟩:_/\_/\_:=by simpa only [Prod.mk.injEq] using Bg4 w
 obtain ⟨s1,r1,l1⟩:=Option.map_eq_some_iff.mp (congrFun (h1 w) os)
 obtain ⟨s2,r2,a3⟩:=Option.map_eq_some_iff.mp (congrFun (h2 w) os)
 obtain ⟨s3,r3,l3⟩:=Option.map_eq_some_iff.mp (congrFun (h3 w) os)
 cases r1.symm.trans r2
 obtain ⟨s4,r4,a4⟩:=Option.map_eq_some_iff.mp (congrFun (h4 w) os)
 cases r1.symm.trans r3
 cases r1.symm.trans r4
 obtain ⟨a0,a1,a2⟩:_/\_/\_:=by simpa only [Prod.mk.injEq] using l1
 obtain ⟨b1,b2⟩:_/\_:=by simpa only [Prod.mk.injEq] using l3
 have r:=Ap8 r1
 rw [Bk4] at r
 have t:topFrom treeTable p w N ⟨boot_heap w.params,Array.mk [],boot_drawn,boot_toks,os⟩=some s1.abs:=by
  unfold topFrom
  dsimp only
  rw [z1,z2,z3,r]
  show (match staticsOk (importedModules p.main.body) (boot_heap w.params) s1.abs.heap && namesBound p s1.abs.heap && gensDone s1.abs && laidKept (boot_heap w.params) s1.abs.heap with | true=>_ | false=>_)=_
  rw [show (staticsOk (importedModules p.main.body) (boot_heap w.params) s1.abs.heap && namesBound p s1.abs.heap && gensDone s1.abs && laidKept (boot_heap w.params) s1.abs.heap)=true from a0]
 unfold openEnds
 rw [eo]
 show (topFrom treeTable p w N _).map _=_
 rw [t]
 exact congrArg some (Prod.ext (Prod.ext a1 (Prod.ext a2 (Prod.ext a3 (Prod.ext a4 b1)))) (Ar4 b2))
end HT1
noncomputable def PySem.W.Fast.tw14598715356260435866:=@PySem.W.boot_o_0
theorem PySem.W.Fast.te14598715356260435866:PySem.W.boot_o_0=PySem.W.Fast.tw14598715356260435866:=rfl
lay_quick HT1.look1 HT1.look2 HT1.look3 HT1.look4 PySem.W.xlAt PySem.W.recOk PySem.W.openGood
end
section
noncomputable def PySem.W.Fast.tw14150222227254180268:PySem.Program:=PySem.Challenge.pw_shadowpages_k33_rows_among_registers
theorem PySem.W.Fast.te14150222227254180268:PySem.Challenge.pw_shadowpages_k33_rows_among_registers=PySem.W.Fast.tw14150222227254180268:=rfl
open PySem PySem.W PyProof.Rows
namespace K33
open PySem L2
def top (i:Nat):Stmt:=PySem.Challenge.pw_shadowpages_k33_rows_among_registers.main.body.getD i (.Pass ⟨0,0,0,0⟩)
def kr (P:Params) (x:Str) (t:Tok) (a:Addr):DictEntry:=⟨PyData.keyHash P x,.str x t,.ref a⟩
def ki (P:Params) (x:Str) (t:Tok) (i:Int) (u:Tok):DictEntry:=⟨PyData.keyHash P x,.str x t,.int i u⟩
def kn (P:Params) (x:Str) (t:Tok):DictEntry:=⟨PyData.keyHash P x,.str x t,.none⟩
def oC (x:Str) (a:Tok) (y:Str) (b c:Tok) (i j k l m:Int) (r:Addr) (o:Int) (u v w z:Addr) (p q:Int) (d:Tok):Data:=.fields #[.str x a,.str y b,.str "/claim/cut.py" c,.int i 0,.int j 0,.int k 0,.int l 0,.int m 0,.ref r,.bool true,.int o 0,.ref u,.none,.ref v,.ref w,.ref z,.int p 0,.int q 0,.str "/claim/cut.py" d]
def oF (x y:Str) (s:Stmt) (m:Str) (t:Tok) (r:Addr):FuncData:=⟨x,y,Ab4 s,.stmts (Ab1 s),Aa1 s,3,[],.none,.none,.none,.str m t,none,.ref r,.none,0⟩
def KF (P:Params):PySem.W.Frag :=
 (nat_lit 2,⟨.none,none,.dict #[] 0,#[]⟩) ::
 (nat_lit 3,⟨.type "dict",none,(.dict #[⟨(PyData.keyHash P "__name__"),.str "__name__" 165,.str "law_shadowpages_k33_rows_among_registers" 1555⟩,kn P "__doc__" 166,kn P "__package__" 167,⟨(PyData.keyHash P "__loader__"),.str "__loader__" 168,.builtin "__main__.__loader__#opaque"⟩,kn P "__spec__" 169,kr P "__annotations__" 170 6,kr P "__builtins__" 171 4,⟨(PyData.keyHash P "__file__"),.str "__file__" 173,.str "/claim/cut.py" 172⟩,kn P "__cached__" 174,ki P "WORDS" 188 281474976710656 187,ki P "MARKS" 190 256 189,ki P "PARTS" 192 8 191,ki P "PLACES" 194 512 193,ki P "CELLS" 196 8 195,ki P "MOST_PAGES" 198 24 197,ki P "SEATS" 200 12 199,ki P "REGISTERS" 202 4 201,ki P "ORDERS" 204 60 203,ki P "ENTRIES" 206 61 205,ki P "STEPS" 208 501 207,kr P "HouseError" 228 24,kr P "NoWord" 244 37,kr P "NoPlace" 260 49,kr P "NoPage" 276 61,kr P "NoImage" 292 73,kr P "NoShelf" 308 85,kr P "NoBound" 324 97,kr P "NoProgram" 349 116,kr P "Fault" 378 135,kr P "is_whole" 387 144,kr P "is_below" 395 151,kr P "is_word" 402 158,kr P "word_of" 409 165,kr P "plus" 417 172,kr P "both" 425 179,kr P "odd" 433 186,kr P "KINDS" 443 187,kr P "FORMS" 513 188,kr P "is_order" 519 215,kr P "bound_of" 526 222,kr P "checked" 536 229,kr P "parts_of" 546 236,kr P "number_of" 553 243,kr P "Shelf" 625 293,kr P "is_eight_words" 633 302,kr P "check_image" 641 309,kr P "check_word" 648 316,kr P "Store" 744 387,kr P "Memory" 824 453,ki P "PRESENT" 828 1 827,ki P "WRITABLE" 830 2 829,ki P "KERNEL" 832 4 831,ki P "TOUCHED" 834 8 833,ki P "SOILED" 836 16 835,kr P "page_of" 843 462,kr P "has" 851 469,kr P "put" 859 476,kr P "look" 877 483,kr P "check_row" 889 490,kr P "rights_of" 897 497,kr P "mark" 906 504,kr P "put_marks" 916 511,kr P "lets" 925 518,kr P "Ways" 1108 659,kr P "Plain" 1193 727,kr P "KERNEL_WORDS" 1206 730,kr P "do_set" 1214 737,kr P "do_add" 1222 744,kr P "do_both" 1230 751,kr P "do_odd" 1238 758,kr P "do_load" 1246 765,kr P "do_save" 1254 772,kr P "do_tell" 1262 779,kr P "do_call" 1270 786,kr P "do_peek" 1278 793,kr P "do_poke" 1286 800,kr P "do_root" 1294 807,kr P "do_drop" 1302 814,kr P "do_give" 1310 821,kr P "do_want" 1318 828,kr P "do_why" 1326 835,kr P "DEEDS" 1357 836,kr P "lead_jump" 1365 843,kr P "lead_nought" 1373 850,kr P "lead_halt" 1381 857,kr P "lead_back" 1389 864,kr P "lead_past" 1397 871,kr P "lead_user" 1405 878,kr P "LEADS" 1418 879,kr P "first_core" 1424 886,kr P "Machine" 1543 974,kr P "bare" 1554 985,kr P "_law_cell_at" 1564 992,kr P "_law_mix" 1573 999,kr P "_law_row" 1586 1006,kr P "_law_do" 1595 1013,kr P "_law_next" 1604 1020,kr P "_law_run" 1619 1027,kr P "_law_whole" 1626 1034,kr P "_law_is_core" 1636 1041,kr P "_law_are_events" 1645 1048,kr P "law" 1651 1053] 102),#[]⟩) ::
 (nat_lit 15,⟨.type "tuple",none,.seq #[.type "ValueError"] 0,#[]⟩) ::
 (nat_lit 22,⟨.type "tuple",none,.seq #[] 0,#[]⟩) ::
 (nat_lit 23,⟨.type "dict",none,(.dict #[⟨(PyData.keyHash P "__module__"),.str "__module__" 218,.str "shadowpages.errors" 209⟩,ki P "__firstlineno__" 222 13 221,kr P "__static_attributes__" 223 22,kr P "__weakref__" 225 25,kn P "__doc__" 226] 3),#[]⟩) ::
 (nat_lit 24,⟨.type "type",none,(.cls ⟨"HouseError",[.type "ValueError"],[.ref 24,.type "ValueError",.type "Exception",.type "BaseException",.type "object"],23,"HouseError",true,[],[.ref 37,.ref 49,.ref 61,.ref 73,.ref 85,.ref 97,.ref 116,.ref 135],false,none,false⟩),#[(some (.ref 15)),none,(some (.str "HouseError" 211)),(some (.str "HouseError" 219)),(some (.builtin "ValueError.__new__")),(some (.bool true))]⟩) ::
 (nat_lit 25,⟨.type "getset_descriptor",none,.fields #[.str "__weakref__" 224,.ref 24,.builtin "ExceptionGroup.__weakref__",.none],#[]⟩) ::
 (nat_lit 28,⟨.type "tuple",none,.seq #[.ref 24] 0,#[]⟩) ::
 (nat_lit 35,⟨.type "tuple",none,.seq #[] 0,#[]⟩) ::
 (nat_lit 36,⟨.type "dict",none,(.dict #[⟨(PyData.keyHash P "__module__"),.str "__module__" 236,.str "shadowpages.errors" 209⟩,ki P "__firstlineno__" 240 15 239,kr P "__static_attributes__" 241 35,kn P "__doc__" 242] 2),#[]⟩) ::
 (nat_lit 37,⟨.type "type",none,(.cls ⟨"NoWord",[.ref 24],[.ref 37,.ref 24,.type "ValueError",.type "Exception",.type "BaseException",.type "object"],36,"NoWord",true,[],[],false,none,false⟩),#[(some (.ref 28)),none,(some (.str "NoWord" 229)),(some (.str "NoWord" 237)),(some (.builtin "ValueError.__new__")),(some (.bool true))]⟩) ::
 (nat_lit 40,⟨.type "tuple",none,.seq #[.ref 24] 0,#[]⟩) ::
 (nat_lit 47,⟨.type "tuple",none,.seq #[] 0,#[]⟩) ::
 (nat_lit 48,⟨.type "dict",none,(.dict #[⟨(PyData.keyHash P "__module__"),.str "__module__" 252,.str "shadowpages.errors" 209⟩,ki P "__firstlineno__" 256 17 255,kr P "__static_attributes__" 257 47,kn P "__doc__" 258] 2),#[]⟩) ::
 (nat_lit 49,⟨.type "type",none,(.cls ⟨"NoPlace",[.ref 24],[.ref 49,.ref 24,.type "ValueError",.type "Exception",.type "BaseException",.type "object"],48,"NoPlace",true,[],[],false,none,false⟩),#[(some (.ref 40)),none,(some (.str "NoPlace" 245)),(some (.str "NoPlace" 253)),(some (.builtin "ValueError.__new__")),(some (.bool true))]⟩) ::
 (nat_lit 52,⟨.type "tuple",none,.seq #[.ref 24] 0,#[]⟩) ::
 (nat_lit 59,⟨.type "tuple",none,.seq #[] 0,#[]⟩) ::
 (nat_lit 60,⟨.type "dict",none,(.dict #[⟨(PyData.keyHash P "__module__"),.str "__module__" 268,.str "shadowpages.errors" 209⟩,ki P "__firstlineno__" 272 19 271,kr P "__static_attributes__" 273 59,kn P "__doc__" 274] 2),#[]⟩) ::
 (nat_lit 61,⟨.type "type",none,(.cls ⟨"NoPage",[.ref 24],[.ref 61,.ref 24,.type "ValueError",.type "Exception",.type "BaseException",.type "object"],60,"NoPage",true,[],[],false,none,false⟩),#[(some (.ref 52)),none,(some (.str "NoPage" 261)),(some (.str "NoPage" 269)),(some (.builtin "ValueError.__new__")),(some (.bool true))]⟩) ::
 (nat_lit 64,⟨.type "tuple",none,.seq #[.ref 24] 0,#[]⟩) ::
 (nat_lit 71,⟨.type "tuple",none,.seq #[] 0,#[]⟩) ::
 (nat_lit 72,⟨.type "dict",none,(.dict #[⟨(PyData.keyHash P "__module__"),.str "__module__" 284,.str "shadowpages.errors" 209⟩,ki P "__firstlineno__" 288 21 287,kr P "__static_attributes__" 289 71,kn P "__doc__" 290] 2),#[]⟩) ::
 (nat_lit 73,⟨.type "type",none,(.cls ⟨"NoImage",[.ref 24],[.ref 73,.ref 24,.type "ValueError",.type "Exception",.type "BaseException",.type "object"],72,"NoImage",true,[],[],false,none,false⟩),#[(some (.ref 64)),none,(some (.str "NoImage" 277)),(some (.str "NoImage" 285)),(some (.builtin "ValueError.__new__")),(some (.bool true))]⟩) ::
 (nat_lit 76,⟨.type "tuple",none,.seq #[.ref 24] 0,#[]⟩) ::
 (nat_lit 83,⟨.type "tuple",none,.seq #[] 0,#[]⟩) ::
 (nat_lit 84,⟨.type "dict",none,(.dict #[⟨(PyData.keyHash P "__module__"),.str "__module__" 300,.str "shadowpages.errors" 209⟩,ki P "__firstlineno__" 304 23 303,kr P "__static_attributes__" 305 83,kn P "__doc__" 306] 2),#[]⟩) ::
 (nat_lit 85,⟨.type "type",none,(.cls ⟨"NoShelf",[.ref 24],[.ref 85,.ref 24,.type "ValueError",.type "Exception",.type "BaseException",.type "object"],84,"NoShelf",true,[],[],false,none,false⟩),#[(some (.ref 76)),none,(some (.str "NoShelf" 293)),(some (.str "NoShelf" 301)),(some (.builtin "ValueError.__new__")),(some (.bool true))]⟩) ::
 (nat_lit 88,⟨.type "tuple",none,.seq #[.ref 24] 0,#[]⟩) ::
 (nat_lit 95,⟨.type "tuple",none,.seq #[] 0,#[]⟩) ::
 (nat_lit 96,⟨.type "dict",none,(.dict #[⟨(PyData.keyHash P "__module__"),.str "__module__" 316,.str "shadowpages.errors" 209⟩,ki P "__firstlineno__" 320 25 319,kr P "__static_attributes__" 321 95,kn P "__doc__" 322] 2),#[]⟩) ::
 (nat_lit 97,⟨.type "type",none,(.cls ⟨"NoBound",[.ref 24],[.ref 97,.ref 24,.type "ValueError",.type "Exception",.type "BaseException",.type "object"],96,"NoBound",true,[],[],false,none,false⟩),#[(some (.ref 88)),none,(some (.str "NoBound" 309)),(some (.str "NoBound" 317)),(some (.builtin "ValueError.__new__")),(some (.bool true))]⟩) ::
 (nat_lit 100,⟨.type "tuple",none,.seq #[.ref 24] 0,#[]⟩) ::
 (nat_lit 107,⟨.type "tuple",none,.seq #[] 0,#[]⟩) ::
 (nat_lit 109,⟨.type "tuple",none,.seq #[.str "self" 340,.str "place" 341] 0,#[]⟩) ::
 (nat_lit 110,⟨.type "tuple",none,.seq #[] 0,#[]⟩) ::
 (nat_lit 112,⟨.type "code",none,oC "__init__" 337 "NoProgram.__init__" 338 339 29 2 0 0 3 107 181 108 109 110 111 342 29 343,#[]⟩) ::
 (nat_lit 113,⟨.type "function",none,.func (oF "__init__" "NoProgram.__init__" (Aa9 (top 19) 0) "shadowpages.errors" 209 112),#[]⟩) ::
 (nat_lit 114,⟨.type "tuple",none,.seq #[.str "place" 345] 0,#[]⟩) ::
 (nat_lit 115,⟨.type "dict",none,(.dict #[⟨(PyData.keyHash P "__module__"),.str "__module__" 332,.str "shadowpages.errors" 209⟩,ki P "__firstlineno__" 336 27 335,kr P "__init__" 344 113,kr P "__static_attributes__" 346 114,kn P "__doc__" 347] 2),#[]⟩) ::
 (nat_lit 116,⟨.type "type",none,(.cls ⟨"NoProgram",[.ref 24],[.ref 116,.ref 24,.type "ValueError",.type "Exception",.type "BaseException",.type "object"],115,"NoProgram",true,[],[],false,none,false⟩),#[(some (.ref 100)),none,(some (.str "NoProgram" 325)),(some (.str "NoProgram" 333)),(some (.builtin "ValueError.__new__")),(some (.bool true))]⟩) ::
 (nat_lit 119,⟨.type "tuple",none,.seq #[.ref 24] 0,#[]⟩) ::
 (nat_lit 126,⟨.type "tuple",none,.seq #[] 0,#[]⟩) ::
 (nat_lit 128,⟨.type "tuple",none,.seq #[.str "self" 365,.str "kind" 366,.str "place" 367,.str "level" 368] 0,#[]⟩) ::
 (nat_lit 129,⟨.type "tuple",none,.seq #[] 0,#[]⟩) ::
 (nat_lit 131,⟨.type "code",none,oC "__init__" 362 "Fault.__init__" 363 364 33 4 0 0 3 126 181 127 128 129 130 369 33 370,#[]⟩) ::
 (nat_lit 132,⟨.type "function",none,.func (oF "__init__" "Fault.__init__" (Aa9 (top 20) 0) "shadowpages.errors" 209 131),#[]⟩) ::
 (nat_lit 133,⟨.type "tuple",none,.seq #[.str "kind" 372,.str "level" 373,.str "place" 374] 0,#[]⟩) ::
 (nat_lit 134,⟨.type "dict",none,(.dict #[⟨(PyData.keyHash P "__module__"),.str "__module__" 357,.str "shadowpages.errors" 209⟩,ki P "__firstlineno__" 361 31 360,kr P "__init__" 371 132,kr P "__static_attributes__" 375 133,kn P "__doc__" 376] 2),#[]⟩) ::
 (nat_lit 135,⟨.type "type",none,(.cls ⟨"Fault",[.ref 24],[.ref 135,.ref 24,.type "ValueError",.type "Exception",.type "BaseException",.type "object"],134,"Fault",true,[],[],false,none,false⟩),#[(some (.ref 119)),none,(some (.str "Fault" 350)),(some (.str "Fault" 358)),(some (.builtin "ValueError.__new__")),(some (.bool true))]⟩) ::
 (nat_lit 138,⟨.type "tuple",none,.seq #[] 0,#[]⟩) ::
 (nat_lit 140,⟨.type "tuple",none,.seq #[.str "thing" 384] 0,#[]⟩) ::
 (nat_lit 141,⟨.type "tuple",none,.seq #[] 0,#[]⟩) ::
 (nat_lit 143,⟨.type "code",none,oC "is_whole" 381 "is_whole" 382 383 38 1 0 0 3 138 181 139 140 141 142 385 38 386,#[]⟩) ::
 (nat_lit 144,⟨.type "function",none,.func (oF "is_whole" "is_whole" (top 22) "shadowpages.words" 379 143),#[]⟩) ::
 (nat_lit 145,⟨.type "tuple",none,.seq #[] 0,#[]⟩) ::
 (nat_lit 147,⟨.type "tuple",none,.seq #[.str "thing" 391,.str "bound" 392] 0,#[]⟩) ::
 (nat_lit 148,⟨.type "tuple",none,.seq #[] 0,#[]⟩) ::
 (nat_lit 150,⟨.type "code",none,oC "is_below" 388 "is_below" 389 390 40 2 0 0 3 145 181 146 147 148 149 393 40 394,#[]⟩) ::
 (nat_lit 151,⟨.type "function",none,.func (oF "is_below" "is_below" (top 23) "shadowpages.words" 379 150),#[]⟩) ::
 (nat_lit 152,⟨.type "tuple",none,.seq #[] 0,#[]⟩) ::
 (nat_lit 154,⟨.type "tuple",none,.seq #[.str "thing" 399] 0,#[]⟩) ::
 (nat_lit 155,⟨.type "tuple",none,.seq #[] 0,#[]⟩) ::
 (nat_lit 157,⟨.type "code",none,oC "is_word" 396 "is_word" 397 398 42 1 0 0 3 152 181 153 154 155 156 400 42 401,#[]⟩) ::
 (nat_lit 158,⟨.type "function",none,.func (oF "is_word" "is_word" (top 24) "shadowpages.words" 379 157),#[]⟩) ::
 (nat_lit 159,⟨.type "tuple",none,.seq #[] 0,#[]⟩) ::
 (nat_lit 161,⟨.type "tuple",none,.seq #[.str "number" 406] 0,#[]⟩) ::
 (nat_lit 162,⟨.type "tuple",none,.seq #[] 0,#[]⟩) ::
 (nat_lit 164,⟨.type "code",none,oC "word_of" 403 "word_of" 404 405 44 1 0 0 3 159 181 160 161 162 163 407 44 408,#[]⟩) ::
 (nat_lit 165,⟨.type "function",none,.func (oF "word_of" "word_of" (top 25) "shadowpages.words" 379 164),#[]⟩) ::
 (nat_lit 166,⟨.type "tuple",none,.seq #[] 0,#[]⟩) ::
 (nat_lit 168,⟨.type "tuple",none,.seq #[.str "one" 413,.str "other" 414] 0,#[]⟩) ::
 (nat_lit 169,⟨.type "tuple",none,.seq #[] 0,#[]⟩) ::
 (nat_lit 171,⟨.type "code",none,oC "plus" 410 "plus" 411 412 48 2 0 0 3 166 181 167 168 169 170 415 48 416,#[]⟩) ::
 (nat_lit 172,⟨.type "function",none,.func (oF "plus" "plus" (top 26) "shadowpages.words" 379 171),#[]⟩) ::
 (nat_lit 173,⟨.type "tuple",none,.seq #[] 0,#[]⟩) ::
 (nat_lit 175,⟨.type "tuple",none,.seq #[.str "one" 421,.str "other" 422] 0,#[]⟩) ::
 (nat_lit 176,⟨.type "tuple",none,.seq #[] 0,#[]⟩) ::
 (nat_lit 178,⟨.type "code",none,oC "both" 418 "both" 419 420 50 2 0 0 3 173 181 174 175 176 177 423 50 424,#[]⟩) ::
 (nat_lit 179,⟨.type "function",none,.func (oF "both" "both" (top 27) "shadowpages.words" 379 178),#[]⟩) ::
 (nat_lit 180,⟨.type "tuple",none,.seq #[] 0,#[]⟩) ::
 (nat_lit 182,⟨.type "tuple",none,.seq #[.str "one" 429,.str "other" 430] 0,#[]⟩) ::
 (nat_lit 183,⟨.type "tuple",none,.seq #[] 0,#[]⟩) ::
 (nat_lit 185,⟨.type "code",none,oC "odd" 426 "odd" 427 428 52 2 0 0 3 180 181 181 182 183 184 431 52 432,#[]⟩) ::
 (nat_lit 186,⟨.type "function",none,.func (oF "odd" "odd" (top 28) "shadowpages.words" 379 185),#[]⟩) ::
 (nat_lit 187,⟨.type "tuple",none,.seq #[.str "far" 436,.str "absent" 437,.str "beyond" 438,.str "kernel" 439,.str "fixed" 440,.str "deed" 441,.str "call" 442] 0,#[]⟩) ::
 (nat_lit 188,⟨.type "dict",none,.dict #[kr P "set" 444 189,kr P "add" 448 190,kr P "both" 452 191,kr P "odd" 456 192,kr P "load" 460 193,kr P "save" 464 194,kr P "jump" 468 195,kr P "nought" 471 196,kr P "tell" 475 197,kr P "call" 478 198,kr P "halt" 480 199,kr P "peek" 482 200,kr P "poke" 486 201,kr P "root" 490 202,kr P "drop" 493 203,kr P "give" 496 204,kr P "want" 499 205,kr P "why" 502 207,kr P "back" 505 208,kr P "past" 506 209,kr P "user" 507 210] 21,#[]⟩) ::
 (nat_lit 189,⟨.type "tuple",none,.seq #[.str "a" 445,.str "word" 446] 0,#[]⟩) ::
 (nat_lit 190,⟨.type "tuple",none,.seq #[.str "a" 449,.str "b" 450] 0,#[]⟩) ::
 (nat_lit 191,⟨.type "tuple",none,.seq #[.str "a" 453,.str "b" 454] 0,#[]⟩) ::
 (nat_lit 192,⟨.type "tuple",none,.seq #[.str "a" 457,.str "b" 458] 0,#[]⟩) ::
 (nat_lit 193,⟨.type "tuple",none,.seq #[.str "a" 461,.str "b" 462] 0,#[]⟩) ::
 (nat_lit 194,⟨.type "tuple",none,.seq #[.str "a" 465,.str "b" 466] 0,#[]⟩) ::
 (nat_lit 195,⟨.type "tuple",none,.seq #[.str "at" 469] 0,#[]⟩) ::
 (nat_lit 196,⟨.type "tuple",none,.seq #[.str "a" 472,.str "at" 473] 0,#[]⟩) ::
 (nat_lit 197,⟨.type "tuple",none,.seq #[.str "a" 476] 0,#[]⟩) ::
 (nat_lit 198,⟨.type "tuple",none,.seq #[] 0,#[]⟩) ::
 (nat_lit 199,⟨.type "tuple",none,.seq #[] 0,#[]⟩) ::
 (nat_lit 200,⟨.type "tuple",none,.seq #[.str "a" 483,.str "b" 484] 0,#[]⟩) ::
 (nat_lit 201,⟨.type "tuple",none,.seq #[.str "a" 487,.str "b" 488] 0,#[]⟩) ::
 (nat_lit 202,⟨.type "tuple",none,.seq #[.str "a" 491] 0,#[]⟩) ::
 (nat_lit 203,⟨.type "tuple",none,.seq #[.str "a" 494] 0,#[]⟩) ::
 (nat_lit 204,⟨.type "tuple",none,.seq #[.str "a" 497] 0,#[]⟩) ::
 (nat_lit 205,⟨.type "tuple",none,.seq #[.str "a" 500] 0,#[]⟩) ::
 (nat_lit 207,⟨.type "tuple",none,.seq #[.str "a" 503,.str "b" 504] 0,#[]⟩) ::
 (nat_lit 208,⟨.type "tuple",none,.seq #[] 0,#[]⟩) ::
 (nat_lit 209,⟨.type "tuple",none,.seq #[] 0,#[]⟩) ::
 (nat_lit 210,⟨.type "tuple",none,.seq #[.str "at" 508] 0,#[]⟩) ::
 (nat_lit 211,⟨.type "tuple",none,.seq #[] 0,#[]⟩) ::
 (nat_lit 214,⟨.type "code",none,.fields #[.str "is_order" 514,.str "is_order" 515,.str "/claim/cut.py" 516,.int 57 0,.int 1 0,.int 0 0,.int 0 0,.int 3 0,.ref 211,.bool true,.int 181 0,.ref 212,.none,.none,.none,.ref 213,.int 517 0,.int 57 0,.str "/claim/cut.py" 518],#[]⟩) ::
 (nat_lit 215,⟨.type "function",none,.func (oF "is_order" "is_order" (top 32) "shadowpages.orders" 434 214),#[]⟩) ::
 (nat_lit 216,⟨.type "tuple",none,.seq #[] 0,#[]⟩) ::
 (nat_lit 218,⟨.type "tuple",none,.seq #[.str "part" 523] 0,#[]⟩) ::
 (nat_lit 219,⟨.type "tuple",none,.seq #[] 0,#[]⟩) ::
 (nat_lit 221,⟨.type "code",none,oC "bound_of" 520 "bound_of" 521 522 66 1 0 0 3 216 181 217 218 219 220 524 66 525,#[]⟩) ::
 (nat_lit 222,⟨.type "function",none,.func (oF "bound_of" "bound_of" (top 33) "shadowpages.orders" 434 221),#[]⟩) ::
 (nat_lit 223,⟨.type "tuple",none,.seq #[] 0,#[]⟩) ::
 (nat_lit 225,⟨.type "tuple",none,.seq #[.str "program" 530,.str "entry" 531,.str "number" 532,.str "row" 533] 0,#[]⟩) ::
 (nat_lit 226,⟨.type "tuple",none,.seq #[] 0,#[]⟩) ::
 (nat_lit 228,⟨.type "code",none,oC "checked" 527 "checked" 528 529 72 2 0 0 3 223 181 224 225 226 227 534 72 535,#[]⟩) ::
 (nat_lit 229,⟨.type "function",none,.func (oF "checked" "checked" (top 34) "shadowpages.orders" 434 228),#[]⟩) ::
 (nat_lit 230,⟨.type "tuple",none,.seq #[] 0,#[]⟩) ::
 (nat_lit 232,⟨.type "tuple",none,.seq #[.str "place" 542,.str "number" 543] 0,#[]⟩) ::
 (nat_lit 233,⟨.type "tuple",none,.seq #[] 0,#[]⟩) ::
 (nat_lit 235,⟨.type "code",none,oC "parts_of" 539 "parts_of" 540 541 81 1 0 0 3 230 181 231 232 233 234 544 81 545,#[]⟩) ::
 (nat_lit 236,⟨.type "function",none,.func (oF "parts_of" "parts_of" (top 36) "shadowpages.places" 537 235),#[]⟩) ::
 (nat_lit 237,⟨.type "tuple",none,.seq #[] 0,#[]⟩) ::
 (nat_lit 239,⟨.type "tuple",none,.seq #[.str "place" 550] 0,#[]⟩) ::
 (nat_lit 240,⟨.type "tuple",none,.seq #[] 0,#[]⟩) ::
 (nat_lit 242,⟨.type "code",none,oC "number_of" 547 "number_of" 548 549 84 1 0 0 3 237 181 238 239 240 241 551 84 552,#[]⟩) ::
 (nat_lit 243,⟨.type "function",none,.func (oF "number_of" "number_of" (top 37) "shadowpages.places" 537 242),#[]⟩) ::
 (nat_lit 251,⟨.type "tuple",none,.seq #[] 0,#[]⟩) ::
 (nat_lit 253,⟨.type "tuple",none,.seq #[.str "self" 571,.str "most" 572] 0,#[]⟩) ::
 (nat_lit 254,⟨.type "tuple",none,.seq #[] 0,#[]⟩) ::
 (nat_lit 256,⟨.type "code",none,oC "__init__" 568 "Shelf.__init__" 569 570 91 2 0 0 3 251 181 252 253 254 255 573 91 574,#[]⟩) ::
 (nat_lit 257,⟨.type "function",none,.func (oF "__init__" "Shelf.__init__" (Aa9 (top 39) 0) "shadowpages.shelf" 554 256),#[]⟩) ::
 (nat_lit 258,⟨.type "tuple",none,.seq #[] 0,#[]⟩) ::
 (nat_lit 260,⟨.type "tuple",none,.seq #[.str "self" 579,.str "number" 580] 0,#[]⟩) ::
 (nat_lit 261,⟨.type "tuple",none,.seq #[] 0,#[]⟩) ::
 (nat_lit 263,⟨.type "code",none,oC "seek" 576 "Shelf.seek" 577 578 97 2 0 0 3 258 181 259 260 261 262 581 97 582,#[]⟩) ::
 (nat_lit 264,⟨.type "function",none,.func (oF "seek" "Shelf.seek" (Aa9 (top 39) 1) "shadowpages.shelf" 554 263),#[]⟩) ::
 (nat_lit 265,⟨.type "tuple",none,.seq #[] 0,#[]⟩) ::
 (nat_lit 267,⟨.type "tuple",none,.seq #[.str "self" 587,.str "number" 588,.str "page" 589,.str "rights" 590,.str "oldest" 591] 0,#[]⟩) ::
 (nat_lit 268,⟨.type "tuple",none,.seq #[] 0,#[]⟩) ::
 (nat_lit 270,⟨.type "code",none,oC "keep" 584 "Shelf.keep" 585 586 100 4 0 0 3 265 181 266 267 268 269 592 100 593,#[]⟩) ::
 (nat_lit 271,⟨.type "function",none,.func (oF "keep" "Shelf.keep" (Aa9 (top 39) 2) "shadowpages.shelf" 554 270),#[]⟩) ::
 (nat_lit 272,⟨.type "tuple",none,.seq #[] 0,#[]⟩) ::
 (nat_lit 274,⟨.type "tuple",none,.seq #[.str "self" 598,.str "number" 599] 0,#[]⟩) ::
 (nat_lit 275,⟨.type "tuple",none,.seq #[] 0,#[]⟩) ::
 (nat_lit 277,⟨.type "code",none,oC "drop" 595 "Shelf.drop" 596 597 108 2 0 0 3 272 181 273 274 275 276 600 108 601,#[]⟩) ::
 (nat_lit 278,⟨.type "function",none,.func (oF "drop" "Shelf.drop" (Aa9 (top 39) 3) "shadowpages.shelf" 554 277),#[]⟩) ::
 (nat_lit 279,⟨.type "tuple",none,.seq #[] 0,#[]⟩) ::
 (nat_lit 281,⟨.type "tuple",none,.seq #[.str "self" 606] 0,#[]⟩) ::
 (nat_lit 282,⟨.type "tuple",none,.seq #[] 0,#[]⟩) ::
 (nat_lit 284,⟨.type "code",none,oC "empty" 603 "Shelf.empty" 604 605 114 1 0 0 3 279 181 280 281 282 283 607 114 608,#[]⟩) ::
 (nat_lit 285,⟨.type "function",none,.func (oF "empty" "Shelf.empty" (Aa9 (top 39) 4) "shadowpages.shelf" 554 284),#[]⟩) ::
 (nat_lit 286,⟨.type "tuple",none,.seq #[] 0,#[]⟩) ::
 (nat_lit 289,⟨.type "code",none,.fields #[.str "told" 610,.str "Shelf.told" 611,.str "/claim/cut.py" 612,.int 117 0,.int 1 0,.int 0 0,.int 0 0,.int 3 0,.ref 286,.bool true,.int 181 0,.ref 287,.none,.none,.none,.ref 288,.int 613 0,.int 117 0,.str "/claim/cut.py" 614],#[]⟩) ::
 (nat_lit 290,⟨.type "function",none,.func (oF "told" "Shelf.told" (Aa9 (top 39) 5) "shadowpages.shelf" 554 289),#[]⟩) ::
 (nat_lit 291,⟨.type "tuple",none,.seq #[.str "most" 616,.str "seats" 617] 0,#[]⟩) ::
 (nat_lit 292,⟨.type "dict",none,(.dict #[⟨(PyData.keyHash P "__module__"),.str "__module__" 563,.str "shadowpages.shelf" 554⟩,ki P "__firstlineno__" 567 89 566,kr P "__init__" 575 257,kr P "seek" 583 264,kr P "keep" 594 271,kr P "drop" 602 278,kr P "empty" 609 285,kr P "told" 615 290,kr P "__static_attributes__" 618 291,kr P "__dict__" 620 294,kr P "__weakref__" 622 295,kn P "__doc__" 623] 4),#[]⟩) ::
 (nat_lit 293,⟨.type "type",none,(.cls ⟨"Shelf",[.type "object"],[.ref 293,.type "object"],292,"Shelf",true,[],[],false,none,false⟩),#[none,none,(some (.str "Shelf" 556)),(some (.str "Shelf" 564)),(some (.builtin "object.__new__")),(some (.bool true))]⟩) ::
 (nat_lit 294,⟨.type "getset_descriptor",none,.fields #[.str "__dict__" 619,.ref 293,.builtin "function.__dict__",.builtin "function.__dict__#set"],#[]⟩) ::
 (nat_lit 295,⟨.type "getset_descriptor",none,.fields #[.str "__weakref__" 621,.ref 293,.builtin "ExceptionGroup.__weakref__",.none],#[]⟩) ::
 (nat_lit 298,⟨.type "tuple",none,.seq #[] 0,#[]⟩) ::
 (nat_lit 301,⟨.type "code",none,.fields #[.str "is_eight_words" 628,.str "is_eight_words" 629,.str "/claim/cut.py" 630,.int 120 0,.int 1 0,.int 0 0,.int 0 0,.int 3 0,.ref 298,.bool true,.int 181 0,.ref 299,.none,.none,.none,.ref 300,.int 631 0,.int 120 0,.str "/claim/cut.py" 632],#[]⟩) ::
 (nat_lit 302,⟨.type "function",none,.func (oF "is_eight_words" "is_eight_words" (top 41) "shadowpages.store" 626 301),#[]⟩) ::
 (nat_lit 303,⟨.type "tuple",none,.seq #[] 0,#[]⟩) ::
 (nat_lit 305,⟨.type "tuple",none,.seq #[.str "pages" 637,.str "page" 638] 0,#[]⟩) ::
 (nat_lit 306,⟨.type "tuple",none,.seq #[] 0,#[]⟩) ::
 (nat_lit 308,⟨.type "code",none,oC "check_image" 634 "check_image" 635 636 122 1 0 0 3 303 181 304 305 306 307 639 122 640,#[]⟩) ::
 (nat_lit 309,⟨.type "function",none,.func (oF "check_image" "check_image" (top 42) "shadowpages.store" 626 308),#[]⟩) ::
 (nat_lit 310,⟨.type "tuple",none,.seq #[] 0,#[]⟩) ::
 (nat_lit 312,⟨.type "tuple",none,.seq #[.str "word" 645] 0,#[]⟩) ::
 (nat_lit 313,⟨.type "tuple",none,.seq #[] 0,#[]⟩) ::
 (nat_lit 315,⟨.type "code",none,oC "check_word" 642 "check_word" 643 644 128 1 0 0 3 310 181 311 312 313 314 646 128 647,#[]⟩) ::
 (nat_lit 316,⟨.type "function",none,.func (oF "check_word" "check_word" (top 43) "shadowpages.store" 626 315),#[]⟩) ::
 (nat_lit 324,⟨.type "tuple",none,.seq #[] 0,#[]⟩) ::
 (nat_lit 326,⟨.type "tuple",none,.seq #[.str "self" 664] 0,#[]⟩) ::
 (nat_lit 327,⟨.type "tuple",none,.seq #[] 0,#[]⟩) ::
 (nat_lit 329,⟨.type "code",none,oC "size" 661 "Store.size" 662 663 133 1 0 0 3 324 181 325 326 327 328 665 133 666,#[]⟩) ::
 (nat_lit 330,⟨.type "function",none,.func (oF "size" "Store.size" (Aa9 (top 44) 0) "shadowpages.store" 626 329),#[]⟩) ::
 (nat_lit 331,⟨.type "tuple",none,.seq #[] 0,#[]⟩) ::
 (nat_lit 333,⟨.type "tuple",none,.seq #[.str "self" 671,.str "page" 672] 0,#[]⟩) ::
 (nat_lit 334,⟨.type "tuple",none,.seq #[] 0,#[]⟩) ::
 (nat_lit 336,⟨.type "code",none,oC "has" 668 "Store.has" 669 670 136 2 0 0 3 331 181 332 333 334 335 673 136 674,#[]⟩) ::
 (nat_lit 337,⟨.type "function",none,.func (oF "has" "Store.has" (Aa9 (top 44) 1) "shadowpages.store" 626 336),#[]⟩) ::
 (nat_lit 338,⟨.type "tuple",none,.seq #[] 0,#[]⟩) ::
 (nat_lit 340,⟨.type "tuple",none,.seq #[.str "self" 679,.str "page" 680,.str "cell" 681] 0,#[]⟩) ::
 (nat_lit 341,⟨.type "tuple",none,.seq #[] 0,#[]⟩) ::
 (nat_lit 343,⟨.type "code",none,oC "word_at" 676 "Store.word_at" 677 678 139 3 0 0 3 338 181 339 340 341 342 682 139 683,#[]⟩) ::
 (nat_lit 344,⟨.type "function",none,.func (oF "word_at" "Store.word_at" (Aa9 (top 44) 2) "shadowpages.store" 626 343),#[]⟩) ::
 (nat_lit 345,⟨.type "tuple",none,.seq #[] 0,#[]⟩) ::
 (nat_lit 347,⟨.type "tuple",none,.seq #[.str "self" 688,.str "page" 689,.str "cell" 690,.str "word" 691] 0,#[]⟩) ::
 (nat_lit 348,⟨.type "tuple",none,.seq #[] 0,#[]⟩) ::
 (nat_lit 350,⟨.type "code",none,oC "put_word" 685 "Store.put_word" 686 687 142 4 0 0 3 345 181 346 347 348 349 692 142 693,#[]⟩) ::
 (nat_lit 351,⟨.type "function",none,.func (oF "put_word" "Store.put_word" (Aa9 (top 44) 3) "shadowpages.store" 626 350),#[]⟩) ::
 (nat_lit 352,⟨.type "tuple",none,.seq #[] 0,#[]⟩) ::
 (nat_lit 354,⟨.type "tuple",none,.seq #[.str "self" 698,.str "page" 699,.str "cell" 700] 0,#[]⟩) ::
 (nat_lit 355,⟨.type "tuple",none,.seq #[] 0,#[]⟩) ::
 (nat_lit 357,⟨.type "code",none,oC "read" 695 "Store.read" 696 697 145 3 0 0 3 352 181 353 354 355 356 701 145 702,#[]⟩) ::
 (nat_lit 358,⟨.type "function",none,.func (oF "read" "Store.read" (Aa9 (top 44) 4) "shadowpages.store" 626 357),#[]⟩) ::
 (nat_lit 359,⟨.type "tuple",none,.seq #[] 0,#[]⟩) ::
 (nat_lit 361,⟨.type "tuple",none,.seq #[.str "self" 707,.str "page" 708,.str "cell" 709,.str "word" 710] 0,#[]⟩) ::
 (nat_lit 362,⟨.type "tuple",none,.seq #[] 0,#[]⟩) ::
 (nat_lit 364,⟨.type "code",none,oC "write" 704 "Store.write" 705 706 149 4 0 0 3 359 181 360 361 362 363 711 149 712,#[]⟩) ::
 (nat_lit 365,⟨.type "function",none,.func (oF "write" "Store.write" (Aa9 (top 44) 5) "shadowpages.store" 626 364),#[]⟩) ::
 (nat_lit 366,⟨.type "tuple",none,.seq #[] 0,#[]⟩) ::
 (nat_lit 369,⟨.type "code",none,.fields #[.str "words_of" 714,.str "Store.words_of" 715,.str "/claim/cut.py" 716,.int 154 0,.int 2 0,.int 0 0,.int 0 0,.int 3 0,.ref 366,.bool true,.int 181 0,.ref 367,.none,.none,.none,.ref 368,.int 717 0,.int 154 0,.str "/claim/cut.py" 718],#[]⟩) ::
 (nat_lit 370,⟨.type "function",none,.func (oF "words_of" "Store.words_of" (Aa9 (top 44) 6) "shadowpages.store" 626 369),#[]⟩) ::
 (nat_lit 371,⟨.type "tuple",none,.seq #[] 0,#[]⟩) ::
 (nat_lit 373,⟨.type "tuple",none,.seq #[.str "self" 723,.str "page" 724,.str "cell" 725] 0,#[]⟩) ::
 (nat_lit 374,⟨.type "tuple",none,.seq #[] 0,#[]⟩) ::
 (nat_lit 376,⟨.type "code",none,oC "check_spot" 720 "Store.check_spot" 721 722 157 3 0 0 3 371 181 372 373 374 375 726 157 727,#[]⟩) ::
 (nat_lit 377,⟨.type "function",none,.func (oF "check_spot" "Store.check_spot" (Aa9 (top 44) 7) "shadowpages.store" 626 376),#[]⟩) ::
 (nat_lit 378,⟨.type "tuple",none,.seq #[] 0,#[]⟩) ::
 (nat_lit 380,⟨.type "tuple",none,.seq #[.str "self" 732,.str "page" 733] 0,#[]⟩) ::
 (nat_lit 381,⟨.type "tuple",none,.seq #[] 0,#[]⟩) ::
 (nat_lit 383,⟨.type "code",none,oC "check_page" 729 "Store.check_page" 730 731 162 2 0 0 3 378 181 379 380 381 382 734 162 735,#[]⟩) ::
 (nat_lit 384,⟨.type "function",none,.func (oF "check_page" "Store.check_page" (Aa9 (top 44) 8) "shadowpages.store" 626 383),#[]⟩) ::
 (nat_lit 385,⟨.type "tuple",none,.seq #[] 0,#[]⟩) ::
 (nat_lit 386,⟨.type "dict",none,(.dict #[⟨(PyData.keyHash P "__module__"),.str "__module__" 656,.str "shadowpages.store" 626⟩,ki P "__firstlineno__" 660 131 659,kr P "size" 667 330,kr P "has" 675 337,kr P "word_at" 684 344,kr P "put_word" 694 351,kr P "read" 703 358,kr P "write" 713 365,kr P "words_of" 719 370,kr P "check_spot" 728 377,kr P "check_page" 736 384,kr P "__static_attributes__" 737 385,kr P "__dict__" 739 388,kr P "__weakref__" 741 389,kn P "__doc__" 742] 4),#[]⟩) ::
 (nat_lit 387,⟨.type "type",none,(.cls ⟨"Store",[.type "object"],[.ref 387,.type "object"],386,"Store",true,[],[.ref 453,.ref 659],false,none,false⟩),#[none,none,(some (.str "Store" 649)),(some (.str "Store" 657)),(some (.builtin "object.__new__")),(some (.bool true))]⟩) ::
 (nat_lit 388,⟨.type "getset_descriptor",none,.fields #[.str "__dict__" 738,.ref 387,.builtin "function.__dict__",.builtin "function.__dict__#set"],#[]⟩) ::
 (nat_lit 389,⟨.type "getset_descriptor",none,.fields #[.str "__weakref__" 740,.ref 387,.builtin "ExceptionGroup.__weakref__",.none],#[]⟩) ::
 (nat_lit 392,⟨.type "tuple",none,.seq #[.ref 387] 0,#[]⟩) ::
 (nat_lit 399,⟨.type "tuple",none,.seq #[] 0,#[]⟩) ::
 (nat_lit 402,⟨.type "code",none,.fields #[.str "__init__" 757,.str "Memory.__init__" 758,.str "/claim/cut.py" 759,.int 167 0,.int 2 0,.int 0 0,.int 0 0,.int 3 0,.ref 399,.bool true,.int 181 0,.ref 400,.none,.none,.none,.ref 401,.int 760 0,.int 167 0,.str "/claim/cut.py" 761],#[]⟩) ::
 (nat_lit 403,⟨.type "function",none,.func (oF "__init__" "Memory.__init__" (Aa9 (top 45) 0) "shadowpages.store" 626 402),#[]⟩) ::
 (nat_lit 404,⟨.type "tuple",none,.seq #[] 0,#[]⟩) ::
 (nat_lit 406,⟨.type "tuple",none,.seq #[.str "self" 766] 0,#[]⟩) ::
 (nat_lit 407,⟨.type "tuple",none,.seq #[] 0,#[]⟩) ::
 (nat_lit 409,⟨.type "code",none,oC "size" 763 "Memory.size" 764 765 171 1 0 0 3 404 181 405 406 407 408 767 171 768,#[]⟩) ::
 (nat_lit 410,⟨.type "function",none,.func (oF "size" "Memory.size" (Aa9 (top 45) 1) "shadowpages.store" 626 409),#[]⟩) ::
 (nat_lit 411,⟨.type "tuple",none,.seq #[] 0,#[]⟩) ::
 (nat_lit 413,⟨.type "tuple",none,.seq #[.str "self" 773,.str "page" 774] 0,#[]⟩) ::
 (nat_lit 414,⟨.type "tuple",none,.seq #[] 0,#[]⟩) ::
 (nat_lit 416,⟨.type "code",none,oC "has" 770 "Memory.has" 771 772 174 2 0 0 3 411 181 412 413 414 415 775 174 776,#[]⟩) ::
 (nat_lit 417,⟨.type "function",none,.func (oF "has" "Memory.has" (Aa9 (top 45) 2) "shadowpages.store" 626 416),#[]⟩) ::
 (nat_lit 418,⟨.type "tuple",none,.seq #[] 0,#[]⟩) ::
 (nat_lit 420,⟨.type "tuple",none,.seq #[.str "self" 781,.str "page" 782,.str "cell" 783] 0,#[]⟩) ::
 (nat_lit 421,⟨.type "tuple",none,.seq #[] 0,#[]⟩) ::
 (nat_lit 423,⟨.type "code",none,oC "word_at" 778 "Memory.word_at" 779 780 177 3 0 0 3 418 181 419 420 421 422 784 177 785,#[]⟩) ::
 (nat_lit 424,⟨.type "function",none,.func (oF "word_at" "Memory.word_at" (Aa9 (top 45) 3) "shadowpages.store" 626 423),#[]⟩) ::
 (nat_lit 425,⟨.type "tuple",none,.seq #[] 0,#[]⟩) ::
 (nat_lit 427,⟨.type "tuple",none,.seq #[.str "self" 790,.str "page" 791,.str "cell" 792,.str "word" 793] 0,#[]⟩) ::
 (nat_lit 428,⟨.type "tuple",none,.seq #[] 0,#[]⟩) ::
 (nat_lit 430,⟨.type "code",none,oC "put_word" 787 "Memory.put_word" 788 789 180 4 0 0 3 425 181 426 427 428 429 794 180 795,#[]⟩) ::
 (nat_lit 431,⟨.type "function",none,.func (oF "put_word" "Memory.put_word" (Aa9 (top 45) 4) "shadowpages.store" 626 430),#[]⟩) ::
 (nat_lit 432,⟨.type "tuple",none,.seq #[] 0,#[]⟩) ::
 (nat_lit 434,⟨.type "tuple",none,.seq #[.str "self" 800,.str "page" 801] 0,#[]⟩) ::
 (nat_lit 435,⟨.type "tuple",none,.seq #[] 0,#[]⟩) ::
 (nat_lit 437,⟨.type "code",none,oC "give" 797 "Memory.give" 798 799 183 2 0 0 3 432 181 433 434 435 436 802 183 803,#[]⟩) ::
 (nat_lit 438,⟨.type "function",none,.func (oF "give" "Memory.give" (Aa9 (top 45) 5) "shadowpages.store" 626 437),#[]⟩) ::
 (nat_lit 439,⟨.type "tuple",none,.seq #[] 0,#[]⟩) ::
 (nat_lit 441,⟨.type "tuple",none,.seq #[.str "self" 808,.str "page" 809,.str "words" 810] 0,#[]⟩) ::
 (nat_lit 442,⟨.type "tuple",none,.seq #[] 0,#[]⟩) ::
 (nat_lit 444,⟨.type "code",none,oC "lay" 805 "Memory.lay" 806 807 187 3 0 0 3 439 181 440 441 442 443 811 187 812,#[]⟩) ::
 (nat_lit 445,⟨.type "function",none,.func (oF "lay" "Memory.lay" (Aa9 (top 45) 6) "shadowpages.store" 626 444),#[]⟩) ::
 (nat_lit 446,⟨.type "tuple",none,.seq #[] 0,#[]⟩) ::
 (nat_lit 449,⟨.type "code",none,.fields #[.str "told" 814,.str "Memory.told" 815,.str "/claim/cut.py" 816,.int 194 0,.int 1 0,.int 0 0,.int 0 0,.int 3 0,.ref 446,.bool true,.int 181 0,.ref 447,.none,.none,.none,.ref 448,.int 817 0,.int 194 0,.str "/claim/cut.py" 818],#[]⟩) ::
 (nat_lit 450,⟨.type "function",none,.func (oF "told" "Memory.told" (Aa9 (top 45) 7) "shadowpages.store" 626 449),#[]⟩) ::
 (nat_lit 451,⟨.type "tuple",none,.seq #[.str "held" 820] 0,#[]⟩) ::
 (nat_lit 452,⟨.type "dict",none,(.dict #[⟨(PyData.keyHash P "__module__"),.str "__module__" 752,.str "shadowpages.store" 626⟩,ki P "__firstlineno__" 756 165 755,kr P "__init__" 762 403,kr P "size" 769 410,kr P "has" 777 417,kr P "word_at" 786 424,kr P "put_word" 796 431,kr P "give" 804 438,kr P "lay" 813 445,kr P "told" 819 450,kr P "__static_attributes__" 821 451,kn P "__doc__" 822] 2),#[]⟩) ::
 (nat_lit 453,⟨.type "type",none,(.cls ⟨"Memory",[.ref 387],[.ref 453,.ref 387,.type "object"],452,"Memory",true,[],[],false,none,false⟩),#[(some (.ref 392)),none,(some (.str "Memory" 745)),(some (.str "Memory" 753)),(some (.builtin "object.__new__")),(some (.bool true))]⟩) ::
 (nat_lit 456,⟨.type "tuple",none,.seq #[] 0,#[]⟩) ::
 (nat_lit 458,⟨.type "tuple",none,.seq #[.str "row" 840] 0,#[]⟩) ::
 (nat_lit 459,⟨.type "tuple",none,.seq #[] 0,#[]⟩) ::
 (nat_lit 461,⟨.type "code",none,oC "page_of" 837 "page_of" 838 839 202 1 0 0 3 456 181 457 458 459 460 841 202 842,#[]⟩) ::
 (nat_lit 462,⟨.type "function",none,.func (oF "page_of" "page_of" (top 52) "shadowpages.rows" 825 461),#[]⟩) ::
 (nat_lit 463,⟨.type "tuple",none,.seq #[] 0,#[]⟩) ::
 (nat_lit 465,⟨.type "tuple",none,.seq #[.str "row" 847,.str "marks" 848] 0,#[]⟩) ::
 (nat_lit 466,⟨.type "tuple",none,.seq #[] 0,#[]⟩) ::
 (nat_lit 468,⟨.type "code",none,oC "has" 844 "has" 845 846 204 2 0 0 3 463 181 464 465 466 467 849 204 850,#[]⟩) ::
 (nat_lit 469,⟨.type "function",none,.func (oF "has" "has" (top 53) "shadowpages.rows" 825 468),#[]⟩) ::
 (nat_lit 470,⟨.type "tuple",none,.seq #[] 0,#[]⟩) ::
 (nat_lit 472,⟨.type "tuple",none,.seq #[.str "row" 855,.str "marks" 856] 0,#[]⟩) ::
 (nat_lit 473,⟨.type "tuple",none,.seq #[] 0,#[]⟩) ::
 (nat_lit 475,⟨.type "code",none,oC "put" 852 "put" 853 854 206 2 0 0 3 470 181 471 472 473 474 857 206 858,#[]⟩) ::
 (nat_lit 476,⟨.type "function",none,.func (oF "put" "put" (top 54) "shadowpages.rows" 825 475),#[]⟩) ::
 (nat_lit 477,⟨.type "tuple",none,.seq #[] 0,#[]⟩) ::
 (nat_lit 479,⟨.type "tuple",none,.seq #[.str "store" 865,.str "root" 866,.str "place" 867,.str "write" 868,.str "kernel" 869,.str "parts" 870,.str "top" 871,.str "top_row" 872,.str "low" 873,.str "low_row" 874] 0,#[]⟩) ::
 (nat_lit 480,⟨.type "tuple",none,.seq #[] 0,#[]⟩) ::
 (nat_lit 482,⟨.type "code",none,oC "look" 862 "look" 863 864 209 5 0 0 3 477 181 478 479 480 481 875 209 876,#[]⟩) ::
 (nat_lit 483,⟨.type "function",none,.func (oF "look" "look" (top 56) "shadowpages.walk" 860 482),#[]⟩) ::
 (nat_lit 484,⟨.type "tuple",none,.seq #[] 0,#[]⟩) ::
 (nat_lit 486,⟨.type "tuple",none,.seq #[.str "store" 881,.str "row" 882,.str "write" 883,.str "kernel" 884,.str "place" 885,.str "level" 886] 0,#[]⟩) ::
 (nat_lit 487,⟨.type "tuple",none,.seq #[] 0,#[]⟩) ::
 (nat_lit 489,⟨.type "code",none,oC "check_row" 878 "check_row" 879 880 222 6 0 0 3 484 181 485 486 487 488 887 222 888,#[]⟩) ::
 (nat_lit 490,⟨.type "function",none,.func (oF "check_row" "check_row" (top 57) "shadowpages.walk" 860 489),#[]⟩) ::
 (nat_lit 491,⟨.type "tuple",none,.seq #[] 0,#[]⟩) ::
 (nat_lit 493,⟨.type "tuple",none,.seq #[.str "top_row" 893,.str "low_row" 894] 0,#[]⟩) ::
 (nat_lit 494,⟨.type "tuple",none,.seq #[] 0,#[]⟩) ::
 (nat_lit 496,⟨.type "code",none,oC "rights_of" 890 "rights_of" 891 892 231 2 0 0 3 491 181 492 493 494 495 895 231 896,#[]⟩) ::
 (nat_lit 497,⟨.type "function",none,.func (oF "rights_of" "rights_of" (top 58) "shadowpages.walk" 860 496),#[]⟩) ::
 (nat_lit 498,⟨.type "tuple",none,.seq #[] 0,#[]⟩) ::
 (nat_lit 500,⟨.type "tuple",none,.seq #[.str "store" 901,.str "trail" 902,.str "write" 903] 0,#[]⟩) ::
 (nat_lit 501,⟨.type "tuple",none,.seq #[] 0,#[]⟩) ::
 (nat_lit 503,⟨.type "code",none,oC "mark" 898 "mark" 899 900 233 3 0 0 3 498 181 499 500 501 502 904 233 905,#[]⟩) ::
 (nat_lit 504,⟨.type "function",none,.func (oF "mark" "mark" (top 59) "shadowpages.walk" 860 503),#[]⟩) ::
 (nat_lit 505,⟨.type "tuple",none,.seq #[] 0,#[]⟩) ::
 (nat_lit 507,⟨.type "tuple",none,.seq #[.str "store" 910,.str "spot" 911,.str "marks" 912,.str "row" 913] 0,#[]⟩) ::
 (nat_lit 508,⟨.type "tuple",none,.seq #[] 0,#[]⟩) ::
 (nat_lit 510,⟨.type "code",none,oC "put_marks" 907 "put_marks" 908 909 237 3 0 0 3 505 181 506 507 508 509 914 237 915,#[]⟩) ::
 (nat_lit 511,⟨.type "function",none,.func (oF "put_marks" "put_marks" (top 60) "shadowpages.walk" 860 510),#[]⟩) ::
 (nat_lit 512,⟨.type "tuple",none,.seq #[] 0,#[]⟩) ::
 (nat_lit 514,⟨.type "tuple",none,.seq #[.str "rights" 920,.str "write" 921,.str "kernel" 922] 0,#[]⟩) ::
 (nat_lit 515,⟨.type "tuple",none,.seq #[] 0,#[]⟩) ::
 (nat_lit 517,⟨.type "code",none,oC "lets" 917 "lets" 918 919 241 3 0 0 3 512 181 513 514 515 516 923 241 924,#[]⟩) ::
 (nat_lit 518,⟨.type "function",none,.func (oF "lets" "lets" (top 61) "shadowpages.walk" 860 517),#[]⟩) ::
 (nat_lit 519,⟨.type "tuple",none,.seq #[.ref 387] 0,#[]⟩) ::
 (nat_lit 526,⟨.type "tuple",none,.seq #[] 0,#[]⟩) ::
 (nat_lit 528,⟨.type "tuple",none,.seq #[.str "self" 943,.str "most" 944] 0,#[]⟩) ::
 (nat_lit 529,⟨.type "tuple",none,.seq #[] 0,#[]⟩) ::
 (nat_lit 531,⟨.type "code",none,oC "__init__" 940 "Ways.__init__" 941 942 248 2 0 0 3 526 181 527 528 529 530 945 248 946,#[]⟩) ::
 (nat_lit 532,⟨.type "function",none,.func (oF "__init__" "Ways.__init__" (Aa9 (top 63) 0) "shadowpages.ways" 926 531),#[]⟩) ::
 (nat_lit 533,⟨.type "tuple",none,.seq #[] 0,#[]⟩) ::
 (nat_lit 535,⟨.type "tuple",none,.seq #[.str "self" 951,.str "page" 952] 0,#[]⟩) ::
 (nat_lit 536,⟨.type "tuple",none,.seq #[] 0,#[]⟩) ::
 (nat_lit 538,⟨.type "code",none,oC "give_up" 948 "Ways.give_up" 949 950 252 2 0 0 3 533 181 534 535 536 537 953 252 954,#[]⟩) ::
 (nat_lit 539,⟨.type "function",none,.func (oF "give_up" "Ways.give_up" (Aa9 (top 63) 1) "shadowpages.ways" 926 538),#[]⟩) ::
 (nat_lit 540,⟨.type "tuple",none,.seq #[] 0,#[]⟩) ::
 (nat_lit 542,⟨.type "tuple",none,.seq #[.str "self" 959,.str "page" 960] 0,#[]⟩) ::
 (nat_lit 543,⟨.type "tuple",none,.seq #[] 0,#[]⟩) ::
 (nat_lit 545,⟨.type "code",none,oC "come_back" 956 "Ways.come_back" 957 958 255 2 0 0 3 540 181 541 542 543 544 961 255 962,#[]⟩) ::
 (nat_lit 546,⟨.type "function",none,.func (oF "come_back" "Ways.come_back" (Aa9 (top 63) 2) "shadowpages.ways" 926 545),#[]⟩) ::
 (nat_lit 547,⟨.type "tuple",none,.seq #[] 0,#[]⟩) ::
 (nat_lit 549,⟨.type "tuple",none,.seq #[.str "self" 967] 0,#[]⟩) ::
 (nat_lit 550,⟨.type "tuple",none,.seq #[] 0,#[]⟩) ::
 (nat_lit 552,⟨.type "code",none,oC "ask_house" 964 "Ways.ask_house" 965 966 258 1 0 0 3 547 181 548 549 550 551 968 258 969,#[]⟩) ::
 (nat_lit 553,⟨.type "function",none,.func (oF "ask_house" "Ways.ask_house" (Aa9 (top 63) 3) "shadowpages.ways" 926 552),#[]⟩) ::
 (nat_lit 554,⟨.type "tuple",none,.seq #[] 0,#[]⟩) ::
 (nat_lit 556,⟨.type "tuple",none,.seq #[.str "self" 974,.str "place" 975,.str "kernel" 976,.str "page" 977] 0,#[]⟩) ::
 (nat_lit 557,⟨.type "tuple",none,.seq #[] 0,#[]⟩) ::
 (nat_lit 559,⟨.type "code",none,oC "load" 971 "Ways.load" 972 973 261 3 0 0 3 554 181 555 556 557 558 978 261 979,#[]⟩) ::
 (nat_lit 560,⟨.type "function",none,.func (oF "load" "Ways.load" (Aa9 (top 63) 4) "shadowpages.ways" 926 559),#[]⟩) ::
 (nat_lit 561,⟨.type "tuple",none,.seq #[] 0,#[]⟩) ::
 (nat_lit 563,⟨.type "tuple",none,.seq #[.str "self" 984,.str "place" 985,.str "word" 986,.str "kernel" 987,.str "page" 988] 0,#[]⟩) ::
 (nat_lit 564,⟨.type "tuple",none,.seq #[] 0,#[]⟩) ::
 (nat_lit 566,⟨.type "code",none,oC "save" 981 "Ways.save" 982 983 265 4 0 0 3 561 181 562 563 564 565 989 265 990,#[]⟩) ::
 (nat_lit 567,⟨.type "function",none,.func (oF "save" "Ways.save" (Aa9 (top 63) 5) "shadowpages.ways" 926 566),#[]⟩) ::
 (nat_lit 568,⟨.type "tuple",none,.seq #[] 0,#[]⟩) ::
 (nat_lit 570,⟨.type "tuple",none,.seq #[.str "self" 995,.str "place" 996,.str "write" 997,.str "kernel" 998,.str "page" 999] 0,#[]⟩) ::
 (nat_lit 571,⟨.type "tuple",none,.seq #[] 0,#[]⟩) ::
 (nat_lit 573,⟨.type "code",none,oC "reach" 992 "Ways.reach" 993 994 270 4 0 0 3 568 181 569 570 571 572 1000 270 1001,#[]⟩) ::
 (nat_lit 574,⟨.type "function",none,.func (oF "reach" "Ways.reach" (Aa9 (top 63) 6) "shadowpages.ways" 926 573),#[]⟩) ::
 (nat_lit 575,⟨.type "tuple",none,.seq #[] 0,#[]⟩) ::
 (nat_lit 577,⟨.type "tuple",none,.seq #[.str "self" 1006,.str "place" 1007,.str "write" 1008,.str "kernel" 1009,.str "row" 1010] 0,#[]⟩) ::
 (nat_lit 578,⟨.type "tuple",none,.seq #[] 0,#[]⟩) ::
 (nat_lit 580,⟨.type "code",none,oC "remembered" 1003 "Ways.remembered" 1004 1005 276 4 0 0 3 575 181 576 577 578 579 1011 276 1012,#[]⟩) ::
 (nat_lit 581,⟨.type "function",none,.func (oF "remembered" "Ways.remembered" (Aa9 (top 63) 7) "shadowpages.ways" 926 580),#[]⟩) ::
 (nat_lit 582,⟨.type "tuple",none,.seq #[] 0,#[]⟩) ::
 (nat_lit 584,⟨.type "tuple",none,.seq #[.str "self" 1017,.str "place" 1018,.str "write" 1019,.str "kernel" 1020,.str "trail" 1021,.str "rights" 1022] 0,#[]⟩) ::
 (nat_lit 585,⟨.type "tuple",none,.seq #[] 0,#[]⟩) ::
 (nat_lit 587,⟨.type "code",none,oC "walked" 1014 "Ways.walked" 1015 1016 284 4 0 0 3 582 181 583 584 585 586 1023 284 1024,#[]⟩) ::
 (nat_lit 588,⟨.type "function",none,.func (oF "walked" "Ways.walked" (Aa9 (top 63) 8) "shadowpages.ways" 926 587),#[]⟩) ::
 (nat_lit 589,⟨.type "tuple",none,.seq #[] 0,#[]⟩) ::
 (nat_lit 591,⟨.type "tuple",none,.seq #[.str "self" 1029,.str "spot" 1030] 0,#[]⟩) ::
 (nat_lit 592,⟨.type "tuple",none,.seq #[] 0,#[]⟩) ::
 (nat_lit 594,⟨.type "code",none,oC "peek" 1026 "Ways.peek" 1027 1028 290 2 0 0 3 589 181 590 591 592 593 1031 290 1032,#[]⟩) ::
 (nat_lit 595,⟨.type "function",none,.func (oF "peek" "Ways.peek" (Aa9 (top 63) 9) "shadowpages.ways" 926 594),#[]⟩) ::
 (nat_lit 596,⟨.type "tuple",none,.seq #[] 0,#[]⟩) ::
 (nat_lit 598,⟨.type "tuple",none,.seq #[.str "self" 1037,.str "spot" 1038,.str "word" 1039] 0,#[]⟩) ::
 (nat_lit 599,⟨.type "tuple",none,.seq #[] 0,#[]⟩) ::
 (nat_lit 601,⟨.type "code",none,oC "poke" 1034 "Ways.poke" 1035 1036 294 3 0 0 3 596 181 597 598 599 600 1040 294 1041,#[]⟩) ::
 (nat_lit 602,⟨.type "function",none,.func (oF "poke" "Ways.poke" (Aa9 (top 63) 10) "shadowpages.ways" 926 601),#[]⟩) ::
 (nat_lit 603,⟨.type "tuple",none,.seq #[] 0,#[]⟩) ::
 (nat_lit 605,⟨.type "tuple",none,.seq #[.str "self" 1046,.str "spot" 1047] 0,#[]⟩) ::
 (nat_lit 606,⟨.type "tuple",none,.seq #[] 0,#[]⟩) ::
 (nat_lit 608,⟨.type "code",none,oC "check_beyond" 1043 "Ways.check_beyond" 1044 1045 298 2 0 0 3 603 181 604 605 606 607 1048 298 1049,#[]⟩) ::
 (nat_lit 609,⟨.type "function",none,.func (oF "check_beyond" "Ways.check_beyond" (Aa9 (top 63) 11) "shadowpages.ways" 926 608),#[]⟩) ::
 (nat_lit 610,⟨.type "tuple",none,.seq #[] 0,#[]⟩) ::
 (nat_lit 612,⟨.type "tuple",none,.seq #[.str "self" 1054] 0,#[]⟩) ::
 (nat_lit 613,⟨.type "tuple",none,.seq #[] 0,#[]⟩) ::
 (nat_lit 615,⟨.type "code",none,oC "root" 1051 "Ways.root" 1052 1053 302 1 0 0 3 610 181 611 612 613 614 1055 302 1056,#[]⟩) ::
 (nat_lit 616,⟨.type "function",none,.func (oF "root" "Ways.root" (Aa9 (top 63) 12) "shadowpages.ways" 926 615),#[]⟩) ::
 (nat_lit 617,⟨.type "tuple",none,.seq #[] 0,#[]⟩) ::
 (nat_lit 619,⟨.type "tuple",none,.seq #[.str "self" 1061,.str "root" 1062] 0,#[]⟩) ::
 (nat_lit 620,⟨.type "tuple",none,.seq #[] 0,#[]⟩) ::
 (nat_lit 622,⟨.type "code",none,oC "turn_root" 1058 "Ways.turn_root" 1059 1060 305 2 0 0 3 617 181 618 619 620 621 1063 305 1064,#[]⟩) ::
 (nat_lit 623,⟨.type "function",none,.func (oF "turn_root" "Ways.turn_root" (Aa9 (top 63) 13) "shadowpages.ways" 926 622),#[]⟩) ::
 (nat_lit 624,⟨.type "tuple",none,.seq #[] 0,#[]⟩) ::
 (nat_lit 626,⟨.type "tuple",none,.seq #[.str "self" 1069,.str "place" 1070] 0,#[]⟩) ::
 (nat_lit 627,⟨.type "tuple",none,.seq #[] 0,#[]⟩) ::
 (nat_lit 629,⟨.type "code",none,oC "drop" 1066 "Ways.drop" 1067 1068 309 2 0 0 3 624 181 625 626 627 628 1071 309 1072,#[]⟩) ::
 (nat_lit 630,⟨.type "function",none,.func (oF "drop" "Ways.drop" (Aa9 (top 63) 14) "shadowpages.ways" 926 629),#[]⟩) ::
 (nat_lit 631,⟨.type "tuple",none,.seq #[] 0,#[]⟩) ::
 (nat_lit 633,⟨.type "tuple",none,.seq #[.str "self" 1077,.str "page" 1078] 0,#[]⟩) ::
 (nat_lit 634,⟨.type "tuple",none,.seq #[] 0,#[]⟩) ::
 (nat_lit 636,⟨.type "code",none,oC "give" 1074 "Ways.give" 1075 1076 313 2 0 0 3 631 181 632 633 634 635 1079 313 1080,#[]⟩) ::
 (nat_lit 637,⟨.type "function",none,.func (oF "give" "Ways.give" (Aa9 (top 63) 15) "shadowpages.ways" 926 636),#[]⟩) ::
 (nat_lit 638,⟨.type "tuple",none,.seq #[] 0,#[]⟩) ::
 (nat_lit 640,⟨.type "tuple",none,.seq #[.str "self" 1085,.str "page" 1086] 0,#[]⟩) ::
 (nat_lit 641,⟨.type "tuple",none,.seq #[] 0,#[]⟩) ::
 (nat_lit 643,⟨.type "code",none,oC "want" 1082 "Ways.want" 1083 1084 319 2 0 0 3 638 181 639 640 641 642 1087 319 1088,#[]⟩) ::
 (nat_lit 644,⟨.type "function",none,.func (oF "want" "Ways.want" (Aa9 (top 63) 16) "shadowpages.ways" 926 643),#[]⟩) ::
 (nat_lit 645,⟨.type "tuple",none,.seq #[] 0,#[]⟩) ::
 (nat_lit 647,⟨.type "tuple",none,.seq #[.str "self" 1093] 0,#[]⟩) ::
 (nat_lit 648,⟨.type "tuple",none,.seq #[] 0,#[]⟩) ::
 (nat_lit 650,⟨.type "code",none,oC "shelf" 1090 "Ways.shelf" 1091 1092 325 1 0 0 3 645 181 646 647 648 649 1094 325 1095,#[]⟩) ::
 (nat_lit 651,⟨.type "function",none,.func (oF "shelf" "Ways.shelf" (Aa9 (top 63) 17) "shadowpages.ways" 926 650),#[]⟩) ::
 (nat_lit 652,⟨.type "tuple",none,.seq #[] 0,#[]⟩) ::
 (nat_lit 655,⟨.type "code",none,.fields #[.str "pages" 1097,.str "Ways.pages" 1098,.str "/claim/cut.py" 1099,.int 328 0,.int 1 0,.int 0 0,.int 0 0,.int 3 0,.ref 652,.bool true,.int 181 0,.ref 653,.none,.none,.none,.ref 654,.int 1100 0,.int 328 0,.str "/claim/cut.py" 1101],#[]⟩) ::
 (nat_lit 656,⟨.type "function",none,.func (oF "pages" "Ways.pages" (Aa9 (top 63) 18) "shadowpages.ways" 926 655),#[]⟩) ::
 (nat_lit 657,⟨.type "tuple",none,.seq #[.str "base" 1103,.str "rack" 1104] 0,#[]⟩) ::
 (nat_lit 658,⟨.type "dict",none,(.dict #[⟨(PyData.keyHash P "__module__"),.str "__module__" 935,.str "shadowpages.ways" 926⟩,ki P "__firstlineno__" 939 246 938,kr P "__init__" 947 532,kr P "give_up" 955 539,kr P "come_back" 963 546,kr P "ask_house" 970 553,kr P "load" 980 560,kr P "save" 991 567,kr P "reach" 1002 574,kr P "remembered" 1013 581,kr P "walked" 1025 588,kr P "peek" 1033 595,kr P "poke" 1042 602,kr P "check_beyond" 1050 609,kr P "root" 1057 616,kr P "turn_root" 1065 623,kr P "drop" 1073 630,kr P "give" 1081 637,kr P "want" 1089 644,kr P "shelf" 1096 651,kr P "pages" 1102 656,kr P "__static_attributes__" 1105 657,kn P "__doc__" 1106] 2),#[]⟩) ::
 (nat_lit 659,⟨.type "type",none,(.cls ⟨"Ways",[.ref 387],[.ref 659,.ref 387,.type "object"],658,"Ways",true,[],[.ref 727],false,none,false⟩),#[(some (.ref 519)),none,(some (.str "Ways" 928)),(some (.str "Ways" 936)),(some (.builtin "object.__new__")),(some (.bool true))]⟩) ::
 (nat_lit 662,⟨.type "tuple",none,.seq #[.ref 659] 0,#[]⟩) ::
 (nat_lit 669,⟨.type "tuple",none,.seq #[] 0,#[]⟩) ::
 (nat_lit 671,⟨.type "tuple",none,.seq #[.str "self" 1124,.str "pages" 1125,.str "most" 1126,.str "words" 1127] 0,#[]⟩) ::
 (nat_lit 672,⟨.type "tuple",none,.seq #[] 0,#[]⟩) ::
 (nat_lit 674,⟨.type "code",none,oC "__init__" 1121 "Plain.__init__" 1122 1123 332 4 0 0 3 669 181 670 671 672 673 1128 332 1129,#[]⟩) ::
 (nat_lit 675,⟨.type "function",none,.func (oF "__init__" "Plain.__init__" (Aa9 (top 64) 0) "shadowpages.ways" 926 674),#[]⟩) ::
 (nat_lit 676,⟨.type "tuple",none,.seq #[] 0,#[]⟩) ::
 (nat_lit 678,⟨.type "tuple",none,.seq #[.str "self" 1134] 0,#[]⟩) ::
 (nat_lit 679,⟨.type "tuple",none,.seq #[] 0,#[]⟩) ::
 (nat_lit 681,⟨.type "code",none,oC "size" 1131 "Plain.size" 1132 1133 337 1 0 0 3 676 181 677 678 679 680 1135 337 1136,#[]⟩) ::
 (nat_lit 682,⟨.type "function",none,.func (oF "size" "Plain.size" (Aa9 (top 64) 1) "shadowpages.ways" 926 681),#[]⟩) ::
 (nat_lit 683,⟨.type "tuple",none,.seq #[] 0,#[]⟩) ::
 (nat_lit 685,⟨.type "tuple",none,.seq #[.str "self" 1141,.str "page" 1142] 0,#[]⟩) ::
 (nat_lit 686,⟨.type "tuple",none,.seq #[] 0,#[]⟩) ::
 (nat_lit 688,⟨.type "code",none,oC "has" 1138 "Plain.has" 1139 1140 340 2 0 0 3 683 181 684 685 686 687 1143 340 1144,#[]⟩) ::
 (nat_lit 689,⟨.type "function",none,.func (oF "has" "Plain.has" (Aa9 (top 64) 2) "shadowpages.ways" 926 688),#[]⟩) ::
 (nat_lit 690,⟨.type "tuple",none,.seq #[] 0,#[]⟩) ::
 (nat_lit 692,⟨.type "tuple",none,.seq #[.str "self" 1149,.str "page" 1150,.str "cell" 1151] 0,#[]⟩) ::
 (nat_lit 693,⟨.type "tuple",none,.seq #[] 0,#[]⟩) ::
 (nat_lit 695,⟨.type "code",none,oC "word_at" 1146 "Plain.word_at" 1147 1148 343 3 0 0 3 690 181 691 692 693 694 1152 343 1153,#[]⟩) ::
 (nat_lit 696,⟨.type "function",none,.func (oF "word_at" "Plain.word_at" (Aa9 (top 64) 3) "shadowpages.ways" 926 695),#[]⟩) ::
 (nat_lit 697,⟨.type "tuple",none,.seq #[] 0,#[]⟩) ::
 (nat_lit 699,⟨.type "tuple",none,.seq #[.str "self" 1158,.str "page" 1159,.str "cell" 1160,.str "word" 1161] 0,#[]⟩) ::
 (nat_lit 700,⟨.type "tuple",none,.seq #[] 0,#[]⟩) ::
 (nat_lit 702,⟨.type "code",none,oC "put_word" 1155 "Plain.put_word" 1156 1157 346 4 0 0 3 697 181 698 699 700 701 1162 346 1163,#[]⟩) ::
 (nat_lit 703,⟨.type "function",none,.func (oF "put_word" "Plain.put_word" (Aa9 (top 64) 4) "shadowpages.ways" 926 702),#[]⟩) ::
 (nat_lit 704,⟨.type "tuple",none,.seq #[] 0,#[]⟩) ::
 (nat_lit 706,⟨.type "tuple",none,.seq #[.str "self" 1168,.str "page" 1169] 0,#[]⟩) ::
 (nat_lit 707,⟨.type "tuple",none,.seq #[] 0,#[]⟩) ::
 (nat_lit 709,⟨.type "code",none,oC "give_up" 1165 "Plain.give_up" 1166 1167 349 2 0 0 3 704 181 705 706 707 708 1170 349 1171,#[]⟩) ::
 (nat_lit 710,⟨.type "function",none,.func (oF "give_up" "Plain.give_up" (Aa9 (top 64) 5) "shadowpages.ways" 926 709),#[]⟩) ::
 (nat_lit 711,⟨.type "tuple",none,.seq #[] 0,#[]⟩) ::
 (nat_lit 713,⟨.type "tuple",none,.seq #[.str "self" 1176,.str "page" 1177] 0,#[]⟩) ::
 (nat_lit 714,⟨.type "tuple",none,.seq #[] 0,#[]⟩) ::
 (nat_lit 716,⟨.type "code",none,oC "come_back" 1173 "Plain.come_back" 1174 1175 352 2 0 0 3 711 181 712 713 714 715 1178 352 1179,#[]⟩) ::
 (nat_lit 717,⟨.type "function",none,.func (oF "come_back" "Plain.come_back" (Aa9 (top 64) 6) "shadowpages.ways" 926 716),#[]⟩) ::
 (nat_lit 718,⟨.type "tuple",none,.seq #[] 0,#[]⟩) ::
 (nat_lit 720,⟨.type "tuple",none,.seq #[.str "self" 1184] 0,#[]⟩) ::
 (nat_lit 721,⟨.type "tuple",none,.seq #[] 0,#[]⟩) ::
 (nat_lit 723,⟨.type "code",none,oC "ask_house" 1181 "Plain.ask_house" 1182 1183 355 1 0 0 3 718 181 719 720 721 722 1185 355 1186,#[]⟩) ::
 (nat_lit 724,⟨.type "function",none,.func (oF "ask_house" "Plain.ask_house" (Aa9 (top 64) 7) "shadowpages.ways" 926 723),#[]⟩) ::
 (nat_lit 725,⟨.type "tuple",none,.seq #[.str "answers" 1188,.str "memory" 1189] 0,#[]⟩) ::
 (nat_lit 726,⟨.type "dict",none,(.dict #[⟨(PyData.keyHash P "__module__"),.str "__module__" 1116,.str "shadowpages.ways" 926⟩,ki P "__firstlineno__" 1120 330 1119,kr P "__init__" 1130 675,kr P "size" 1137 682,kr P "has" 1145 689,kr P "word_at" 1154 696,kr P "put_word" 1164 703,kr P "give_up" 1172 710,kr P "come_back" 1180 717,kr P "ask_house" 1187 724,kr P "__static_attributes__" 1190 725,kn P "__doc__" 1191] 2),#[]⟩) ::
 (nat_lit 727,⟨.type "type",none,(.cls ⟨"Plain",[.ref 659],[.ref 727,.ref 659,.ref 387,.type "object"],726,"Plain",true,[],[],false,none,false⟩),#[(some (.ref 662)),none,(some (.str "Plain" 1109)),(some (.str "Plain" 1117)),(some (.builtin "object.__new__")),(some (.bool true))]⟩) ::
 (nat_lit 730,⟨.type "tuple",none,.seq #[.str "peek" 1196,.str "poke" 1197,.str "root" 1198,.str "drop" 1199,.str "give" 1200,.str "want" 1201,.str "why" 1202,.str "back" 1203,.str "past" 1204,.str "user" 1205] 0,#[]⟩) ::
 (nat_lit 731,⟨.type "tuple",none,.seq #[] 0,#[]⟩) ::
 (nat_lit 733,⟨.type "tuple",none,.seq #[.str "machine" 1210,.str "row" 1211] 0,#[]⟩) ::
 (nat_lit 734,⟨.type "tuple",none,.seq #[] 0,#[]⟩) ::
 (nat_lit 736,⟨.type "code",none,oC "do_set" 1207 "do_set" 1208 1209 361 2 0 0 3 731 181 732 733 734 735 1212 361 1213,#[]⟩) ::
 (nat_lit 737,⟨.type "function",none,.func (oF "do_set" "do_set" (top 67) "shadowpages.machine" 1194 736),#[]⟩) ::
 (nat_lit 738,⟨.type "tuple",none,.seq #[] 0,#[]⟩) ::
 (nat_lit 740,⟨.type "tuple",none,.seq #[.str "machine" 1218,.str "row" 1219] 0,#[]⟩) ::
 (nat_lit 741,⟨.type "tuple",none,.seq #[] 0,#[]⟩) ::
 (nat_lit 743,⟨.type "code",none,oC "do_add" 1215 "do_add" 1216 1217 363 2 0 0 3 738 181 739 740 741 742 1220 363 1221,#[]⟩) ::
 (nat_lit 744,⟨.type "function",none,.func (oF "do_add" "do_add" (top 68) "shadowpages.machine" 1194 743),#[]⟩) ::
 (nat_lit 745,⟨.type "tuple",none,.seq #[] 0,#[]⟩) ::
 (nat_lit 747,⟨.type "tuple",none,.seq #[.str "machine" 1226,.str "row" 1227] 0,#[]⟩) ::
 (nat_lit 748,⟨.type "tuple",none,.seq #[] 0,#[]⟩) ::
 (nat_lit 750,⟨.type "code",none,oC "do_both" 1223 "do_both" 1224 1225 365 2 0 0 3 745 181 746 747 748 749 1228 365 1229,#[]⟩) ::
 (nat_lit 751,⟨.type "function",none,.func (oF "do_both" "do_both" (top 69) "shadowpages.machine" 1194 750),#[]⟩) ::
 (nat_lit 752,⟨.type "tuple",none,.seq #[] 0,#[]⟩) ::
 (nat_lit 754,⟨.type "tuple",none,.seq #[.str "machine" 1234,.str "row" 1235] 0,#[]⟩) ::
 (nat_lit 755,⟨.type "tuple",none,.seq #[] 0,#[]⟩) ::
 (nat_lit 757,⟨.type "code",none,oC "do_odd" 1231 "do_odd" 1232 1233 367 2 0 0 3 752 181 753 754 755 756 1236 367 1237,#[]⟩) ::
 (nat_lit 758,⟨.type "function",none,.func (oF "do_odd" "do_odd" (top 70) "shadowpages.machine" 1194 757),#[]⟩) ::
 (nat_lit 759,⟨.type "tuple",none,.seq #[] 0,#[]⟩) ::
 (nat_lit 761,⟨.type "tuple",none,.seq #[.str "machine" 1242,.str "row" 1243] 0,#[]⟩) ::
 (nat_lit 762,⟨.type "tuple",none,.seq #[] 0,#[]⟩) ::
 (nat_lit 764,⟨.type "code",none,oC "do_load" 1239 "do_load" 1240 1241 369 2 0 0 3 759 181 760 761 762 763 1244 369 1245,#[]⟩) ::
 (nat_lit 765,⟨.type "function",none,.func (oF "do_load" "do_load" (top 71) "shadowpages.machine" 1194 764),#[]⟩) ::
 (nat_lit 766,⟨.type "tuple",none,.seq #[] 0,#[]⟩) ::
 (nat_lit 768,⟨.type "tuple",none,.seq #[.str "machine" 1250,.str "row" 1251] 0,#[]⟩) ::
 (nat_lit 769,⟨.type "tuple",none,.seq #[] 0,#[]⟩) ::
 (nat_lit 771,⟨.type "code",none,oC "do_save" 1247 "do_save" 1248 1249 371 2 0 0 3 766 181 767 768 769 770 1252 371 1253,#[]⟩) ::
 (nat_lit 772,⟨.type "function",none,.func (oF "do_save" "do_save" (top 72) "shadowpages.machine" 1194 771),#[]⟩) ::
 (nat_lit 773,⟨.type "tuple",none,.seq #[] 0,#[]⟩) ::
 (nat_lit 775,⟨.type "tuple",none,.seq #[.str "machine" 1258,.str "row" 1259] 0,#[]⟩) ::
 (nat_lit 776,⟨.type "tuple",none,.seq #[] 0,#[]⟩) ::
 (nat_lit 778,⟨.type "code",none,oC "do_tell" 1255 "do_tell" 1256 1257 373 2 0 0 3 773 181 774 775 776 777 1260 373 1261,#[]⟩) ::
 (nat_lit 779,⟨.type "function",none,.func (oF "do_tell" "do_tell" (top 73) "shadowpages.machine" 1194 778),#[]⟩) ::
 (nat_lit 780,⟨.type "tuple",none,.seq #[] 0,#[]⟩) ::
 (nat_lit 782,⟨.type "tuple",none,.seq #[.str "machine" 1266,.str "row" 1267] 0,#[]⟩) ::
 (nat_lit 783,⟨.type "tuple",none,.seq #[] 0,#[]⟩) ::
 (nat_lit 785,⟨.type "code",none,oC "do_call" 1263 "do_call" 1264 1265 375 2 0 0 3 780 181 781 782 783 784 1268 375 1269,#[]⟩) ::
 (nat_lit 786,⟨.type "function",none,.func (oF "do_call" "do_call" (top 74) "shadowpages.machine" 1194 785),#[]⟩) ::
 (nat_lit 787,⟨.type "tuple",none,.seq #[] 0,#[]⟩) ::
 (nat_lit 789,⟨.type "tuple",none,.seq #[.str "machine" 1274,.str "row" 1275] 0,#[]⟩) ::
 (nat_lit 790,⟨.type "tuple",none,.seq #[] 0,#[]⟩) ::
 (nat_lit 792,⟨.type "code",none,oC "do_peek" 1271 "do_peek" 1272 1273 377 2 0 0 3 787 181 788 789 790 791 1276 377 1277,#[]⟩) ::
 (nat_lit 793,⟨.type "function",none,.func (oF "do_peek" "do_peek" (top 75) "shadowpages.machine" 1194 792),#[]⟩) ::
 (nat_lit 794,⟨.type "tuple",none,.seq #[] 0,#[]⟩) ::
 (nat_lit 796,⟨.type "tuple",none,.seq #[.str "machine" 1282,.str "row" 1283] 0,#[]⟩) ::
 (nat_lit 797,⟨.type "tuple",none,.seq #[] 0,#[]⟩) ::
 (nat_lit 799,⟨.type "code",none,oC "do_poke" 1279 "do_poke" 1280 1281 379 2 0 0 3 794 181 795 796 797 798 1284 379 1285,#[]⟩) ::
 (nat_lit 800,⟨.type "function",none,.func (oF "do_poke" "do_poke" (top 76) "shadowpages.machine" 1194 799),#[]⟩) ::
 (nat_lit 801,⟨.type "tuple",none,.seq #[] 0,#[]⟩) ::
 (nat_lit 803,⟨.type "tuple",none,.seq #[.str "machine" 1290,.str "row" 1291] 0,#[]⟩) ::
 (nat_lit 804,⟨.type "tuple",none,.seq #[] 0,#[]⟩) ::
 (nat_lit 806,⟨.type "code",none,oC "do_root" 1287 "do_root" 1288 1289 381 2 0 0 3 801 181 802 803 804 805 1292 381 1293,#[]⟩) ::
 (nat_lit 807,⟨.type "function",none,.func (oF "do_root" "do_root" (top 77) "shadowpages.machine" 1194 806),#[]⟩) ::
 (nat_lit 808,⟨.type "tuple",none,.seq #[] 0,#[]⟩) ::
 (nat_lit 810,⟨.type "tuple",none,.seq #[.str "machine" 1298,.str "row" 1299] 0,#[]⟩) ::
 (nat_lit 811,⟨.type "tuple",none,.seq #[] 0,#[]⟩) ::
 (nat_lit 813,⟨.type "code",none,oC "do_drop" 1295 "do_drop" 1296 1297 383 2 0 0 3 808 181 809 810 811 812 1300 383 1301,#[]⟩) ::
 (nat_lit 814,⟨.type "function",none,.func (oF "do_drop" "do_drop" (top 78) "shadowpages.machine" 1194 813),#[]⟩) ::
 (nat_lit 815,⟨.type "tuple",none,.seq #[] 0,#[]⟩) ::
 (nat_lit 817,⟨.type "tuple",none,.seq #[.str "machine" 1306,.str "row" 1307] 0,#[]⟩) ::
 (nat_lit 818,⟨.type "tuple",none,.seq #[] 0,#[]⟩) ::
 (nat_lit 820,⟨.type "code",none,oC "do_give" 1303 "do_give" 1304 1305 385 2 0 0 3 815 181 816 817 818 819 1308 385 1309,#[]⟩) ::
 (nat_lit 821,⟨.type "function",none,.func (oF "do_give" "do_give" (top 79) "shadowpages.machine" 1194 820),#[]⟩) ::
 (nat_lit 822,⟨.type "tuple",none,.seq #[] 0,#[]⟩) ::
 (nat_lit 824,⟨.type "tuple",none,.seq #[.str "machine" 1314,.str "row" 1315] 0,#[]⟩) ::
 (nat_lit 825,⟨.type "tuple",none,.seq #[] 0,#[]⟩) ::
 (nat_lit 827,⟨.type "code",none,oC "do_want" 1311 "do_want" 1312 1313 387 2 0 0 3 822 181 823 824 825 826 1316 387 1317,#[]⟩) ::
 (nat_lit 828,⟨.type "function",none,.func (oF "do_want" "do_want" (top 80) "shadowpages.machine" 1194 827),#[]⟩) ::
 (nat_lit 829,⟨.type "tuple",none,.seq #[] 0,#[]⟩) ::
 (nat_lit 831,⟨.type "tuple",none,.seq #[.str "machine" 1322,.str "row" 1323] 0,#[]⟩) ::
 (nat_lit 832,⟨.type "tuple",none,.seq #[] 0,#[]⟩) ::
 (nat_lit 834,⟨.type "code",none,oC "do_why" 1319 "do_why" 1320 1321 389 2 0 0 3 829 181 830 831 832 833 1324 389 1325,#[]⟩) ::
 (nat_lit 835,⟨.type "function",none,.func (oF "do_why" "do_why" (top 81) "shadowpages.machine" 1194 834),#[]⟩) ::
 (nat_lit 836,⟨.type "dict",none,.dict #[kr P "set" 1327 737,kr P "add" 1328 744,kr P "both" 1329 751,kr P "odd" 1330 758,kr P "load" 1331 765,kr P "save" 1332 772,kr P "tell" 1333 779,kr P "call" 1334 786,kr P "peek" 1335 793,kr P "poke" 1336 800,kr P "root" 1337 807,kr P "drop" 1338 814,kr P "give" 1339 821,kr P "want" 1340 828,kr P "why" 1341 835] 15,#[]⟩) ::
 (nat_lit 837,⟨.type "tuple",none,.seq #[] 0,#[]⟩) ::
 (nat_lit 839,⟨.type "tuple",none,.seq #[.str "machine" 1361,.str "row" 1362] 0,#[]⟩) ::
 (nat_lit 840,⟨.type "tuple",none,.seq #[] 0,#[]⟩) ::
 (nat_lit 842,⟨.type "code",none,oC "lead_jump" 1358 "lead_jump" 1359 1360 393 2 0 0 3 837 181 838 839 840 841 1363 393 1364,#[]⟩) ::
 (nat_lit 843,⟨.type "function",none,.func (oF "lead_jump" "lead_jump" (top 83) "shadowpages.machine" 1194 842),#[]⟩) ::
 (nat_lit 844,⟨.type "tuple",none,.seq #[] 0,#[]⟩) ::
 (nat_lit 846,⟨.type "tuple",none,.seq #[.str "machine" 1369,.str "row" 1370] 0,#[]⟩) ::
 (nat_lit 847,⟨.type "tuple",none,.seq #[] 0,#[]⟩) ::
 (nat_lit 849,⟨.type "code",none,oC "lead_nought" 1366 "lead_nought" 1367 1368 395 2 0 0 3 844 181 845 846 847 848 1371 395 1372,#[]⟩) ::
 (nat_lit 850,⟨.type "function",none,.func (oF "lead_nought" "lead_nought" (top 84) "shadowpages.machine" 1194 849),#[]⟩) ::
 (nat_lit 851,⟨.type "tuple",none,.seq #[] 0,#[]⟩) ::
 (nat_lit 853,⟨.type "tuple",none,.seq #[.str "machine" 1377,.str "row" 1378] 0,#[]⟩) ::
 (nat_lit 854,⟨.type "tuple",none,.seq #[] 0,#[]⟩) ::
 (nat_lit 856,⟨.type "code",none,oC "lead_halt" 1374 "lead_halt" 1375 1376 397 2 0 0 3 851 181 852 853 854 855 1379 397 1380,#[]⟩) ::
 (nat_lit 857,⟨.type "function",none,.func (oF "lead_halt" "lead_halt" (top 85) "shadowpages.machine" 1194 856),#[]⟩) ::
 (nat_lit 858,⟨.type "tuple",none,.seq #[] 0,#[]⟩) ::
 (nat_lit 860,⟨.type "tuple",none,.seq #[.str "machine" 1385,.str "row" 1386] 0,#[]⟩) ::
 (nat_lit 861,⟨.type "tuple",none,.seq #[] 0,#[]⟩) ::
 (nat_lit 863,⟨.type "code",none,oC "lead_back" 1382 "lead_back" 1383 1384 400 2 0 0 3 858 181 859 860 861 862 1387 400 1388,#[]⟩) ::
 (nat_lit 864,⟨.type "function",none,.func (oF "lead_back" "lead_back" (top 86) "shadowpages.machine" 1194 863),#[]⟩) ::
 (nat_lit 865,⟨.type "tuple",none,.seq #[] 0,#[]⟩) ::
 (nat_lit 867,⟨.type "tuple",none,.seq #[.str "machine" 1393,.str "row" 1394] 0,#[]⟩) ::
 (nat_lit 868,⟨.type "tuple",none,.seq #[] 0,#[]⟩) ::
 (nat_lit 870,⟨.type "code",none,oC "lead_past" 1390 "lead_past" 1391 1392 403 2 0 0 3 865 181 866 867 868 869 1395 403 1396,#[]⟩) ::
 (nat_lit 871,⟨.type "function",none,.func (oF "lead_past" "lead_past" (top 87) "shadowpages.machine" 1194 870),#[]⟩) ::
 (nat_lit 872,⟨.type "tuple",none,.seq #[] 0,#[]⟩) ::
 (nat_lit 874,⟨.type "tuple",none,.seq #[.str "machine" 1401,.str "row" 1402] 0,#[]⟩) ::
 (nat_lit 875,⟨.type "tuple",none,.seq #[] 0,#[]⟩) ::
 (nat_lit 877,⟨.type "code",none,oC "lead_user" 1398 "lead_user" 1399 1400 405 2 0 0 3 872 181 873 874 875 876 1403 405 1404,#[]⟩) ::
 (nat_lit 878,⟨.type "function",none,.func (oF "lead_user" "lead_user" (top 88) "shadowpages.machine" 1194 877),#[]⟩) ::
 (nat_lit 879,⟨.type "dict",none,.dict #[kr P "jump" 1406 843,kr P "nought" 1407 850,kr P "halt" 1408 857,kr P "back" 1409 864,kr P "past" 1410 871,kr P "user" 1411 878] 6,#[]⟩) ::
 (nat_lit 880,⟨.type "tuple",none,.seq #[] 0,#[]⟩) ::
 (nat_lit 882,⟨.type "tuple",none,.seq #[] 0,#[]⟩) ::
 (nat_lit 883,⟨.type "tuple",none,.seq #[] 0,#[]⟩) ::
 (nat_lit 885,⟨.type "code",none,oC "first_core" 1419 "first_core" 1420 1421 409 0 0 0 3 880 181 881 882 883 884 1422 409 1423,#[]⟩) ::
 (nat_lit 886,⟨.type "function",none,.func (oF "first_core" "first_core" (top 90) "shadowpages.machine" 1194 885),#[]⟩) ::
 (nat_lit 894,⟨.type "tuple",none,.seq #[.none,.none] 0,#[]⟩) ::
 (nat_lit 895,⟨.type "tuple",none,.seq #[] 0,#[]⟩) ::
 (nat_lit 897,⟨.type "tuple",none,.seq #[.str "self" 1440,.str "ways" 1441,.str "program" 1442,.str "entry" 1443,.str "core" 1444,.str "events" 1445,.str "begun" 1446] 0,#[]⟩) ::
 (nat_lit 898,⟨.type "tuple",none,.seq #[] 0,#[]⟩) ::
 (nat_lit 900,⟨.type "code",none,oC "__init__" 1437 "Machine.__init__" 1438 1439 413 6 0 0 3 895 181 896 897 898 899 1447 413 1448,#[]⟩) ::
 (nat_lit 901,⟨.type "function",none,(.func ⟨"__init__","Machine.__init__",Ab4 (Aa9 (top 91) 0),.stmts (Ab1 (Aa9 (top 91) 0)),Aa1 (Aa9 (top 91) 0),3,[],.ref 894,.none,.none,.str "shadowpages.machine" 1194,none,.ref 900,.none,0⟩),#[]⟩) ::
 (nat_lit 902,⟨.type "tuple",none,.seq #[] 0,#[]⟩) ::
 (nat_lit 904,⟨.type "tuple",none,.seq #[.str "self" 1453,.str "counter" 1454] 0,#[]⟩) ::
 (nat_lit 905,⟨.type "tuple",none,.seq #[] 0,#[]⟩) ::
 (nat_lit 907,⟨.type "code",none,oC "arrive" 1450 "Machine.arrive" 1451 1452 426 2 0 0 3 902 181 903 904 905 906 1455 426 1456,#[]⟩) ::
 (nat_lit 908,⟨.type "function",none,.func (oF "arrive" "Machine.arrive" (Aa9 (top 91) 1) "shadowpages.machine" 1194 907),#[]⟩) ::
 (nat_lit 909,⟨.type "tuple",none,.seq #[] 0,#[]⟩) ::
 (nat_lit 911,⟨.type "tuple",none,.seq #[.str "self" 1461,.str "steps" 1462,.str "done" 1463] 0,#[]⟩) ::
 (nat_lit 912,⟨.type "tuple",none,.seq #[] 0,#[]⟩) ::
 (nat_lit 914,⟨.type "code",none,oC "turn" 1458 "Machine.turn" 1459 1460 431 2 0 0 3 909 181 910 911 912 913 1464 431 1465,#[]⟩) ::
 (nat_lit 915,⟨.type "function",none,.func (oF "turn" "Machine.turn" (Aa9 (top 91) 2) "shadowpages.machine" 1194 914),#[]⟩) ::
 (nat_lit 916,⟨.type "tuple",none,.seq #[] 0,#[]⟩) ::
 (nat_lit 918,⟨.type "tuple",none,.seq #[.str "self" 1470,.str "counter" 1471,.str "fault" 1472] 0,#[]⟩) ::
 (nat_lit 919,⟨.type "tuple",none,.seq #[] 0,#[]⟩) ::
 (nat_lit 921,⟨.type "code",none,oC "step" 1467 "Machine.step" 1468 1469 440 1 0 0 3 916 181 917 918 919 920 1473 440 1474,#[]⟩) ::
 (nat_lit 922,⟨.type "function",none,.func (oF "step" "Machine.step" (Aa9 (top 91) 3) "shadowpages.machine" 1194 921),#[]⟩) ::
 (nat_lit 923,⟨.type "tuple",none,.seq #[] 0,#[]⟩) ::
 (nat_lit 925,⟨.type "tuple",none,.seq #[.str "self" 1479,.str "row" 1480] 0,#[]⟩) ::
 (nat_lit 926,⟨.type "tuple",none,.seq #[] 0,#[]⟩) ::
 (nat_lit 928,⟨.type "code",none,oC "obey" 1476 "Machine.obey" 1477 1478 447 2 0 0 3 923 181 924 925 926 927 1481 447 1482,#[]⟩) ::
 (nat_lit 929,⟨.type "function",none,.func (oF "obey" "Machine.obey" (Aa9 (top 91) 4) "shadowpages.machine" 1194 928),#[]⟩) ::
 (nat_lit 930,⟨.type "tuple",none,.seq #[] 0,#[]⟩) ::
 (nat_lit 932,⟨.type "tuple",none,.seq #[.str "self" 1487,.str "fault" 1488] 0,#[]⟩) ::
 (nat_lit 933,⟨.type "tuple",none,.seq #[] 0,#[]⟩) ::
 (nat_lit 935,⟨.type "code",none,oC "fail" 1484 "Machine.fail" 1485 1486 455 2 0 0 3 930 181 931 932 933 934 1489 455 1490,#[]⟩) ::
 (nat_lit 936,⟨.type "function",none,.func (oF "fail" "Machine.fail" (Aa9 (top 91) 5) "shadowpages.machine" 1194 935),#[]⟩) ::
 (nat_lit 937,⟨.type "tuple",none,.seq #[] 0,#[]⟩) ::
 (nat_lit 939,⟨.type "tuple",none,.seq #[.str "self" 1495] 0,#[]⟩) ::
 (nat_lit 940,⟨.type "tuple",none,.seq #[] 0,#[]⟩) ::
 (nat_lit 942,⟨.type "code",none,oC "core" 1492 "Machine.core" 1493 1494 461 1 0 0 3 937 181 938 939 940 941 1496 461 1497,#[]⟩) ::
 (nat_lit 943,⟨.type "function",none,.func (oF "core" "Machine.core" (Aa9 (top 91) 6) "shadowpages.machine" 1194 942),#[]⟩) ::
 (nat_lit 944,⟨.type "tuple",none,.seq #[] 0,#[]⟩) ::
 (nat_lit 946,⟨.type "tuple",none,.seq #[.str "self" 1502] 0,#[]⟩) ::
 (nat_lit 947,⟨.type "tuple",none,.seq #[] 0,#[]⟩) ::
 (nat_lit 949,⟨.type "code",none,oC "events" 1499 "Machine.events" 1500 1501 464 1 0 0 3 944 181 945 946 947 948 1503 464 1504,#[]⟩) ::
 (nat_lit 950,⟨.type "function",none,.func (oF "events" "Machine.events" (Aa9 (top 91) 7) "shadowpages.machine" 1194 949),#[]⟩) ::
 (nat_lit 951,⟨.type "tuple",none,.seq #[] 0,#[]⟩) ::
 (nat_lit 953,⟨.type "tuple",none,.seq #[.str "self" 1509] 0,#[]⟩) ::
 (nat_lit 954,⟨.type "tuple",none,.seq #[] 0,#[]⟩) ::
 (nat_lit 956,⟨.type "code",none,oC "told" 1506 "Machine.told" 1507 1508 467 1 0 0 3 951 181 952 953 954 955 1510 467 1511,#[]⟩) ::
 (nat_lit 957,⟨.type "function",none,.func (oF "told" "Machine.told" (Aa9 (top 91) 8) "shadowpages.machine" 1194 956),#[]⟩) ::
 (nat_lit 958,⟨.type "tuple",none,.seq #[] 0,#[]⟩) ::
 (nat_lit 960,⟨.type "tuple",none,.seq #[.str "self" 1516] 0,#[]⟩) ::
 (nat_lit 961,⟨.type "tuple",none,.seq #[] 0,#[]⟩) ::
 (nat_lit 963,⟨.type "code",none,oC "program" 1513 "Machine.program" 1514 1515 470 1 0 0 3 958 181 959 960 961 962 1517 470 1518,#[]⟩) ::
 (nat_lit 964,⟨.type "function",none,.func (oF "program" "Machine.program" (Aa9 (top 91) 9) "shadowpages.machine" 1194 963),#[]⟩) ::
 (nat_lit 965,⟨.type "tuple",none,.seq #[] 0,#[]⟩) ::
 (nat_lit 967,⟨.type "tuple",none,.seq #[.str "self" 1523] 0,#[]⟩) ::
 (nat_lit 968,⟨.type "tuple",none,.seq #[] 0,#[]⟩) ::
 (nat_lit 970,⟨.type "code",none,oC "entry" 1520 "Machine.entry" 1521 1522 473 1 0 0 3 965 181 966 967 968 969 1524 473 1525,#[]⟩) ::
 (nat_lit 971,⟨.type "function",none,.func (oF "entry" "Machine.entry" (Aa9 (top 91) 10) "shadowpages.machine" 1194 970),#[]⟩) ::
 (nat_lit 972,⟨.type "tuple",none,.seq #[.str "counter" 1527,.str "gate" 1528,.str "halted" 1529,.str "happened" 1530,.str "kernel" 1531,.str "orders" 1532,.str "registers" 1533,.str "saved" 1534,.str "ways" 1535] 0,#[]⟩) ::
 (nat_lit 973,⟨.type "dict",none,(.dict #[⟨(PyData.keyHash P "__module__"),.str "__module__" 1432,.str "shadowpages.machine" 1194⟩,ki P "__firstlineno__" 1436 411 1435,kr P "__init__" 1449 901,kr P "arrive" 1457 908,kr P "turn" 1466 915,kr P "step" 1475 922,kr P "obey" 1483 929,kr P "fail" 1491 936,kr P "core" 1498 943,kr P "events" 1505 950,kr P "told" 1512 957,kr P "program" 1519 964,kr P "entry" 1526 971,kr P "__static_attributes__" 1536 972,kr P "__dict__" 1538 975,kr P "__weakref__" 1540 976,kn P "__doc__" 1541] 4),#[]⟩) ::
 (nat_lit 974,⟨.type "type",none,(.cls ⟨"Machine",[.type "object"],[.ref 974,.type "object"],973,"Machine",true,[],[],false,none,false⟩),#[none,none,(some (.str "Machine" 1425)),(some (.str "Machine" 1433)),(some (.builtin "object.__new__")),(some (.bool true))]⟩) ::
 (nat_lit 975,⟨.type "getset_descriptor",none,.fields #[.str "__dict__" 1537,.ref 974,.builtin "function.__dict__",.builtin "function.__dict__#set"],#[]⟩) ::
 (nat_lit 976,⟨.type "getset_descriptor",none,.fields #[.str "__weakref__" 1539,.ref 974,.builtin "ExceptionGroup.__weakref__",.none],#[]⟩) ::
 (nat_lit 979,⟨.type "tuple",none,.seq #[] 0,#[]⟩) ::
 (nat_lit 981,⟨.type "tuple",none,.seq #[.str "pages" 1547,.str "most" 1548,.str "program" 1549,.str "entry" 1550,.str "words" 1551] 0,#[]⟩) ::
 (nat_lit 982,⟨.type "tuple",none,.seq #[] 0,#[]⟩) ::
 (nat_lit 984,⟨.type "code",none,oC "bare" 1544 "bare" 1545 1546 475 5 0 0 3 979 181 980 981 982 983 1552 475 1553,#[]⟩) ::
 (nat_lit 985,⟨.type "function",none,.func (oF "bare" "bare" (top 92) "shadowpages.machine" 1194 984),#[]⟩) ::
 (nat_lit 986,⟨.type "tuple",none,.seq #[] 0,#[]⟩) ::
 (nat_lit 988,⟨.type "tuple",none,.seq #[.str "_law_script" 1560,.str "_law_k" 1561] 0,#[]⟩) ::
 (nat_lit 989,⟨.type "tuple",none,.seq #[] 0,#[]⟩) ::
 (nat_lit 991,⟨.type "code",none,oC "_law_cell_at" 1557 "_law_cell_at" 1558 1559 478 2 0 0 3 986 181 987 988 989 990 1562 478 1563,#[]⟩) ::
 (nat_lit 992,⟨.type "function",none,.func (oF "_law_cell_at" "_law_cell_at" (top 94) "law_shadowpages_k33_rows_among_registers" 1555 991),#[]⟩) ::
 (nat_lit 993,⟨.type "tuple",none,.seq #[] 0,#[]⟩) ::
 (nat_lit 995,⟨.type "tuple",none,.seq #[.str "_law_cell" 1568,.str "_law_by" 1569,.str "_law_many" 1570] 0,#[]⟩) ::
 (nat_lit 996,⟨.type "tuple",none,.seq #[] 0,#[]⟩) ::
 (nat_lit 998,⟨.type "code",none,oC "_law_mix" 1565 "_law_mix" 1566 1567 482 3 0 0 3 993 181 994 995 996 997 1571 482 1572,#[]⟩) ::
 (nat_lit 999,⟨.type "function",none,.func (oF "_law_mix" "_law_mix" (top 95) "law_shadowpages_k33_rows_among_registers" 1555 998),#[]⟩) ::
 (nat_lit 1000,⟨.type "tuple",none,.seq #[] 0,#[]⟩) ::
 (nat_lit 1002,⟨.type "tuple",none,.seq #[.str "_law_cell" 1577,.str "_law_at" 1578,.str "_law_many" 1579,.str "_law_a" 1580,.str "_law_b" 1581,.str "_law_to" 1582,.str "_law_some" 1583] 0,#[]⟩) ::
 (nat_lit 1003,⟨.type "tuple",none,.seq #[] 0,#[]⟩) ::
 (nat_lit 1005,⟨.type "code",none,oC "_law_row" 1574 "_law_row" 1575 1576 484 3 0 0 3 1000 181 1001 1002 1003 1004 1584 484 1585,#[]⟩) ::
 (nat_lit 1006,⟨.type "function",none,.func (oF "_law_row" "_law_row" (top 96) "law_shadowpages_k33_rows_among_registers" 1555 1005),#[]⟩) ::
 (nat_lit 1007,⟨.type "tuple",none,.seq #[] 0,#[]⟩) ::
 (nat_lit 1009,⟨.type "tuple",none,.seq #[.str "_law_row_here" 1590,.str "_law_cells" 1591,.str "_law_events" 1592] 0,#[]⟩) ::
 (nat_lit 1010,⟨.type "tuple",none,.seq #[] 0,#[]⟩) ::
 (nat_lit 1012,⟨.type "code",none,oC "_law_do" 1587 "_law_do" 1588 1589 495 3 0 0 3 1007 181 1008 1009 1010 1011 1593 495 1594,#[]⟩) ::
 (nat_lit 1013,⟨.type "function",none,.func (oF "_law_do" "_law_do" (top 97) "law_shadowpages_k33_rows_among_registers" 1555 1012),#[]⟩) ::
 (nat_lit 1014,⟨.type "tuple",none,.seq #[] 0,#[]⟩) ::
 (nat_lit 1016,⟨.type "tuple",none,.seq #[.str "_law_row_here" 1599,.str "_law_cells" 1600,.str "_law_at" 1601] 0,#[]⟩) ::
 (nat_lit 1017,⟨.type "tuple",none,.seq #[] 0,#[]⟩) ::
 (nat_lit 1019,⟨.type "code",none,oC "_law_next" 1596 "_law_next" 1597 1598 506 3 0 0 3 1014 181 1015 1016 1017 1018 1602 506 1603,#[]⟩) ::
 (nat_lit 1020,⟨.type "function",none,.func (oF "_law_next" "_law_next" (top 98) "law_shadowpages_k33_rows_among_registers" 1555 1019),#[]⟩) ::
 (nat_lit 1021,⟨.type "tuple",none,.seq #[] 0,#[]⟩) ::
 (nat_lit 1023,⟨.type "tuple",none,.seq #[.str "_law_program" 1608,.str "_law_state" 1609,.str "_law_steps" 1610,.str "_law_cells" 1611,.str "_law_at" 1612,.str "_law_halted" 1613,.str "_law_events" 1614,.str "_law_done" 1615,.str "_law_row_here" 1616] 0,#[]⟩) ::
 (nat_lit 1024,⟨.type "tuple",none,.seq #[] 0,#[]⟩) ::
 (nat_lit 1026,⟨.type "code",none,oC "_law_run" 1605 "_law_run" 1606 1607 514 3 0 0 3 1021 181 1022 1023 1024 1025 1617 514 1618,#[]⟩) ::
 (nat_lit 1027,⟨.type "function",none,.func (oF "_law_run" "_law_run" (top 99) "law_shadowpages_k33_rows_among_registers" 1555 1026),#[]⟩) ::
 (nat_lit 1028,⟨.type "tuple",none,.seq #[] 0,#[]⟩) ::
 (nat_lit 1030,⟨.type "tuple",none,.seq #[.str "_law_found" 1623] 0,#[]⟩) ::
 (nat_lit 1031,⟨.type "tuple",none,.seq #[] 0,#[]⟩) ::
 (nat_lit 1033,⟨.type "code",none,oC "_law_whole" 1620 "_law_whole" 1621 1622 524 1 0 0 3 1028 181 1029 1030 1031 1032 1624 524 1625,#[]⟩) ::
 (nat_lit 1034,⟨.type "function",none,.func (oF "_law_whole" "_law_whole" (top 100) "law_shadowpages_k33_rows_among_registers" 1555 1033),#[]⟩) ::
 (nat_lit 1035,⟨.type "tuple",none,.seq #[] 0,#[]⟩) ::
 (nat_lit 1037,⟨.type "tuple",none,.seq #[.str "_law_found" 1630,.str "_law_state" 1631,.str "_law_word" 1632,.str "_law_saved" 1633] 0,#[]⟩) ::
 (nat_lit 1038,⟨.type "tuple",none,.seq #[] 0,#[]⟩) ::
 (nat_lit 1040,⟨.type "code",none,oC "_law_is_core" 1627 "_law_is_core" 1628 1629 526 2 0 0 3 1035 181 1036 1037 1038 1039 1634 526 1635,#[]⟩) ::
 (nat_lit 1041,⟨.type "function",none,.func (oF "_law_is_core" "_law_is_core" (top 101) "law_shadowpages_k33_rows_among_registers" 1555 1040),#[]⟩) ::
 (nat_lit 1042,⟨.type "tuple",none,.seq #[] 0,#[]⟩) ::
 (nat_lit 1044,⟨.type "tuple",none,.seq #[.str "_law_found" 1640,.str "_law_due" 1641,.str "_law_event" 1642] 0,#[]⟩) ::
 (nat_lit 1045,⟨.type "tuple",none,.seq #[] 0,#[]⟩) ::
 (nat_lit 1047,⟨.type "code",none,oC "_law_are_events" 1637 "_law_are_events" 1638 1639 540 2 0 0 3 1042 181 1043 1044 1045 1046 1643 540 1644,#[]⟩) ::
 (nat_lit 1048,⟨.type "function",none,.func (oF "_law_are_events" "_law_are_events" (top 102) "law_shadowpages_k33_rows_among_registers" 1555 1047),#[]⟩) ::
 (nat_lit 1049,⟨.type "tuple",none,.seq #[] 0,#[]⟩) ::
 (nat_lit 1052,⟨.type "code",none,.fields #[.str "law" 1646,.str "law" 1647,.str "/claim/cut.py" 1648,.int 547 0,.int 1 0,.int 0 0,.int 0 0,.int 3 0,.ref 1049,.bool true,.int 181 0,.ref 1050,.none,.none,.none,.ref 1051,.int 1649 0,.int 547 0,.str "/claim/cut.py" 1650],#[]⟩) ::
 (nat_lit 1053,⟨.type "function",none,.func (oF "law" "law" (top 103) "law_shadowpages_k33_rows_among_registers" 1555 1052),#[]⟩)::[]
def asF:List Nat:=[2,3,15,22,23,24,25,28,35,36,37,40,47,48,49,52,59,60,61,64,71,72,73,76,83,84,85,88,95,96,97,100,107,109,110,112,113,114,115,116,119,126,128,129,131,132,133,134,135,138,140,141,143,144,145,147,148,150,151,152,154,155,157,158,159,161,162,164,165,166,168,169,171,172,173,175,176,178,179,180,182,183,185,186,187,188,189,190,191,192,193,194,195,196,197,198,199,200,201,202,203,204,205,207,208,209,210,211,214,215,216,218,219,221,222,223,225,226,228,229,230,232,233,235,236,237,239,240,242,243,251,253,254,256,257,258,260,261,263,264,265,267,268,270,271,272,274,275,277,278,279,281,282,284,285,286,289,290,291,292,293,294,295,298,301,302,303,305,306,308,309,310,312,313,315,316,324,326,327,329,330,331,333,334,336,337,338,340,341,343,344,345,347,348,350,351,352,354,355,357,358,359,361,362,364,365,366,369,370,371,373,374,376,377,378,380,381,383,384,385,386,387,388,389,392,399,402,403,404,406,407,409,410,411,413,414,416,417,418,420,421,423,424,425,427,428,430,431,432,434,435,437,438,439,441,442,444,445,446,449,450,451,452,453,456,458,459,461,462,463,465,466,468,469,470,472,473,475,476,477,479,480,482,483,484,486,487,489,490,491,493,494,496,497,498,500,501,503,504,505,507,508,510,511,512,514,515,517,518,519,526,528,529,531,532,533,535,536,538,539,540,542,543,545,546,547,549,550,552,553,554,556,557,559,560,561,563,564,566,567,568,570,571,573,574,575,577,578,580,581,582,584,585,587,588,589,591,592,594,595,596,598,599,601,602,603,605,606,608,609,610,612,613,615,616,617,619,620,622,623,624,626,627,629,630,631,633,634,636,637,638,640,641,643,644,645,647,648,650,651,652,655,656,657,658,659,662,669,671,672,674,675,676,678,679,681,682,683,685,686,688,689,690,692,693,695,696,697,699,700,702,703,704,706,707,709,710,711,713,714,716,717,718,720,721,723,724,725,726,727,730,731,733,734,736,737,738,740,741,743,744,745,747,748,750,751,752,754,755,757,758,759,761,762,764,765,766,768,769,771,772,773,775,776,778,779,780,782,783,785,786,787,789,790,792,793,794,796,797,799,800,801,803,804,806,807,808,810,811,813,814,815,817,818,820,821,822,824,825,827,828,829,831,832,834,835,836,837,839,840,842,843,844,846,847,849,850,851,853,854,856,857,858,860,861,863,864,865,867,868,870,871,872,874,875,877,878,879,880,882,883,885,886,894,895,897,898,900,901,902,904,905,907,908,909,911,912,914,915,916,918,919,921,922,923,925,926,928,929,930,932,933,935,936,937,939,940,942,943,944,946,947,949,950,951,953,954,956,957,958,960,961,963,964,965,967,968,970,971,972,973,974,975,976,979,981,982,984,985,986,988,989,991,992,993,995,996,998,999,1000,1002,1003,1005,1006,1007,1009,1010,1012,1013,1014,1016,1017,1019,1020,1021,1023,1024,1026,1027,1028,1030,1031,1033,1034,1035,1037,1038,1040,1041,1042,1044,1045,1047,1048,1049,1052,1053]
theorem hF (P:Params):asF=(KF P).map (·.1):=by kernel_rfl
noncomputable def vw:Program:={ PySem.Challenge.pw_shadowpages_k33_rows_among_registers with main:={ PySem.Challenge.pw_shadowpages_k33_rows_among_registers.main with body:=[top 0,top 1,top 2,top 3,top 4,top 5,top 6,top 7,top 8,top 9,top 10,top 12,top 13,top 14,top 15,top 16,top 17,top 18,top 19,top 20,top 22,top 23,top 24,top 25,top 26,top 27,top 28,top 30,top 31,top 32,top 33,top 34,top 36,top 37,top 39,top 41,top 42,top 43,top 44,top 45,top 47,top 48,top 49,top 50,top 51,top 52,top 53,top 54,top 56,top 57,top 58,top 59,top 60,top 61,top 63,top 64,top 66,top 67,top 68,top 69,top 70,top 71,top 72,top 73,top 74,top 75,top 76,top 77,top 78,top 79,top 80,top 81,top 82,top 83,top 84,top 85,top 86,top 87,top 88,top 89,top 90,top 91,top 92,top 94,top 95,top 96,top 97,top 98,top 99,top 100,top 101,top 102,top 103] } }
set_option maxHeartbeats 0
theorem hl1x (w:World):(λos=>HT1.look1 PySem.Challenge.rw_shadowpages_k33_rows_among_registers.row.prog vw ["FORMS","DEEDS","LEADS"] (λs=>PySem.W.xlAt vw [] s && PySem.W.recOk [] s) 15966 true (w.withFollow "special-get-raises" false) os)=λ_=>some (true,HT1.c1 (PySem.W.openGood vw ["FORMS","DEEDS","LEADS"]),HT1.c1 (HT1.c2 (PySem.W.openGood vw ["FORMS","DEEDS","LEADS"]))):=by
 rw [PySem.W.Fast.te14291521946986476441,PySem.W.Fast.te4757257242682413121,PySem.W.Fast.te6483871617321286689,PySem.W.Fast.te3486900944545009338]
 kernel_rfl
theorem hl1y (w:World):(λos=>HT1.look1 PySem.Challenge.rw_shadowpages_k33_rows_among_registers.row.prog vw ["FORMS","DEEDS","LEADS"] (λs=>PySem.W.xlAt vw [] s && PySem.W.recOk [] s) 15966 true (w.withFollow "special-get-raises" true) os)=λ_=>some (true,HT1.c1 (PySem.W.openGood vw ["FORMS","DEEDS","LEADS"]),HT1.c1 (HT1.c2 (PySem.W.openGood vw ["FORMS","DEEDS","LEADS"]))):=by
 rw [PySem.W.Fast.te14291521946986476441,PySem.W.Fast.te4757257242682413121,PySem.W.Fast.te6483871617321286689,PySem.W.Fast.te3486900944545009338]
 kernel_rfl
theorem hl1 (w:World):(λos=>HT1.look1 PySem.Challenge.rw_shadowpages_k33_rows_among_registers.row.prog vw ["FORMS","DEEDS","LEADS"] (λs=>PySem.W.xlAt vw [] s && PySem.W.recOk [] s) 15966 true w os)=λ_=>some (true,HT1.c1 (PySem.W.openGood vw ["FORMS","DEEDS","LEADS"]),HT1.c1 (HT1.c2 (PySem.W.openGood vw ["FORMS","DEEDS","LEADS"]))):=PySem.W.byRow2 "special-get-raises" (P:=λw=>(λos=>HT1.look1 PySem.Challenge.rw_shadowpages_k33_rows_among_registers.row.prog vw ["FORMS","DEEDS","LEADS"] (λs=>PySem.W.xlAt vw [] s && PySem.W.recOk [] s) 15966 true w os)=λ_=>some (true,HT1.c1 (PySem.W.openGood vw ["FORMS","DEEDS","LEADS"]),HT1.c1 (HT1.c2 (PySem.W.openGood vw ["FORMS","DEEDS","LEADS"])))) hl1x hl1y w
theorem hl2x (w:World):(λos=>HT1.look2 PySem.Challenge.rw_shadowpages_k33_rows_among_registers.row.prog vw ["FORMS","DEEDS","LEADS"] (λs=>PySem.W.xlAt vw [] s && PySem.W.recOk [] s) 15966 true (w.withFollow "special-get-raises" false) os)=λ_=>some true:=by
 rw [PySem.W.Fast.te13762528064428209178,PySem.W.Fast.te4757257242682413121,PySem.W.Fast.te6483871617321286689]
 kernel_rfl
theorem hl2y (w:World):(λos=>HT1.look2 PySem.Challenge.rw_shadowpages_k33_rows_among_registers.row.prog vw ["FORMS","DEEDS","LEADS"] (λs=>PySem.W.xlAt vw [] s && PySem.W.recOk [] s) 15966 true (w.withFollow "special-get-raises" true) os)=λ_=>some true:=by
 rw [PySem.W.Fast.te13762528064428209178,PySem.W.Fast.te4757257242682413121,PySem.W.Fast.te6483871617321286689]
 kernel_rfl
theorem hl2 (w:World):(λos=>HT1.look2 PySem.Challenge.rw_shadowpages_k33_rows_among_registers.row.prog vw ["FORMS","DEEDS","LEADS"] (λs=>PySem.W.xlAt vw [] s && PySem.W.recOk [] s) 15966 true w os)=λ_=>some true:=PySem.W.byRow2 "special-get-raises" (P:=λw=>(λos=>HT1.look2 PySem.Challenge.rw_shadowpages_k33_rows_among_registers.row.prog vw ["FORMS","DEEDS","LEADS"] (λs=>PySem.W.xlAt vw [] s && PySem.W.recOk [] s) 15966 true w os)=λ_=>some true) hl2x hl2y w
theorem hl4x (w:World):(λos=>HT1.look4 PySem.Challenge.rw_shadowpages_k33_rows_among_registers.row.prog vw ["FORMS","DEEDS","LEADS"] (λs=>PySem.W.xlAt vw [] s && PySem.W.recOk [] s) 15966 true (w.withFollow "special-get-raises" false) os)=λ_=>some true:=by
 rw [PySem.W.Fast.te3539664761599828648,PySem.W.Fast.te4757257242682413121,PySem.W.Fast.te6483871617321286689]
 kernel_rfl
theorem hl4y (w:World):(λos=>HT1.look4 PySem.Challenge.rw_shadowpages_k33_rows_among_registers.row.prog vw ["FORMS","DEEDS","LEADS"] (λs=>PySem.W.xlAt vw [] s && PySem.W.recOk [] s) 15966 true (w.withFollow "special-get-raises" true) os)=λ_=>some true:=by
 rw [PySem.W.Fast.te3539664761599828648,PySem.W.Fast.te4757257242682413121,PySem.W.Fast.te6483871617321286689]
 kernel_rfl
theorem hl4 (w:World):(λos=>HT1.look4 PySem.Challenge.rw_shadowpages_k33_rows_among_registers.row.prog vw ["FORMS","DEEDS","LEADS"] (λs=>PySem.W.xlAt vw [] s && PySem.W.recOk [] s) 15966 true w os)=λ_=>some true:=PySem.W.byRow2 "special-get-raises" (P:=λw=>(λos=>HT1.look4 PySem.Challenge.rw_shadowpages_k33_rows_among_registers.row.prog vw ["FORMS","DEEDS","LEADS"] (λs=>PySem.W.xlAt vw [] s && PySem.W.recOk [] s) 15966 true w os)=λ_=>some true) hl4x hl4y w
theorem hl3x (w:World):(λos=>HT1.look3 PySem.Challenge.rw_shadowpages_k33_rows_among_registers.row.prog vw ["FORMS","DEEDS","LEADS"] (λs=>PySem.W.xlAt vw [] s && PySem.W.recOk [] s) asF 15966 true (w.withFollow "special-get-raises" false) os)=λ_=>some (HT1.c2 (HT1.c2 (HT1.c2 (HT1.c2 (PySem.W.openGood vw ["FORMS","DEEDS","LEADS"])))),(KF (w.withFollow "special-get-raises" false).params).map λp=>some p.2):=by
 rw [PySem.W.Fast.te242098903862472777,PySem.W.Fast.te4757257242682413121,PySem.W.Fast.te6483871617321286689,PySem.W.Fast.te3486900944545009338]
 kernel_rfl
theorem hl3y (w:World):(λos=>HT1.look3 PySem.Challenge.rw_shadowpages_k33_rows_among_registers.row.prog vw ["FORMS","DEEDS","LEADS"] (λs=>PySem.W.xlAt vw [] s && PySem.W.recOk [] s) asF 15966 true (w.withFollow "special-get-raises" true) os)=λ_=>some (HT1.c2 (HT1.c2 (HT1.c2 (HT1.c2 (PySem.W.openGood vw ["FORMS","DEEDS","LEADS"])))),(KF (w.withFollow "special-get-raises" true).params).map λp=>some p.2):=by
 rw [PySem.W.Fast.te242098903862472777,PySem.W.Fast.te4757257242682413121,PySem.W.Fast.te6483871617321286689,PySem.W.Fast.te3486900944545009338]
 kernel_rfl
theorem hl3 (w:World):(λos=>HT1.look3 PySem.Challenge.rw_shadowpages_k33_rows_among_registers.row.prog vw ["FORMS","DEEDS","LEADS"] (λs=>PySem.W.xlAt vw [] s && PySem.W.recOk [] s) asF 15966 true w os)=λ_=>some (HT1.c2 (HT1.c2 (HT1.c2 (HT1.c2 (PySem.W.openGood vw ["FORMS","DEEDS","LEADS"])))),(KF w.params).map λp=>some p.2):=PySem.W.byRow2 "special-get-raises" (P:=λw=>(λos=>HT1.look3 PySem.Challenge.rw_shadowpages_k33_rows_among_registers.row.prog vw ["FORMS","DEEDS","LEADS"] (λs=>PySem.W.xlAt vw [] s && PySem.W.recOk [] s) asF 15966 true w os)=λ_=>some (HT1.c2 (HT1.c2 (HT1.c2 (HT1.c2 (PySem.W.openGood vw ["FORMS","DEEDS","LEADS"])))),(KF w.params).map λp=>some p.2)) hl3x hl3y w
theorem hl:PySem.W.LeftO PySem.Challenge.rw_shadowpages_k33_rows_among_registers.row.prog vw ["FORMS","DEEDS","LEADS"] (λs=>PySem.W.xlAt vw [] s && PySem.W.recOk [] s) (PySem.W.kHook KF asF hF).obs (PySem.W.kHook KF asF hF).val 15966:=HT1.left_cut (by rfl) (by rfl) (λ_=>rfl) hl1 hl2 hl4 hl3
end K33
end
section
namespace L2
open PySem PySem.Spec PyProof.Rows
abbrev Key:=Sum Int Str
def Bv9:Key->Value->Bool
 | .inl k,v=>Value.isInt k v
 | .inr x,v=>Value.isStrOf x v
def keyH (w:World):Key->Int
 | .inl k=>hashInt k
 | .inr x=>hashStr w x
theorem Ad8:∀ {k:Key} {v:Value},Bv9 k v=true->(∃ i t,k=Sum.inl i/\v=Value.int i t)\/(∃ x t,k=Sum.inr x/\v=Value.str x t)
 | .inl i,v,h=>by
  obtain ⟨t,e⟩:=Value.isInt_shape (k:=i) (v:=v) h
  exact .inl ⟨i,t,rfl,e⟩
 | .inr x,v,h=>by
  obtain ⟨t,e⟩:=Value.isStrOf_shape (x:=x) (v:=v) h
  exact .inr ⟨x,t,rfl,e⟩
theorem Bv8 (a b:Int):decide ((Sum.inl a:Key)=Sum.inl b)=(a == b):=by
 by_cases e:a=b
 ·subst e; simp
 ·have h:¬ (Sum.inl a:Key)=Sum.inl b:=λq=>e (Sum.inl.inj q)
  rw [decide_eq_false h]
  exact (beq_eq_false_iff_ne.mpr e).symm
theorem Bv5 (a b:Str):decide ((Sum.inr a:Key)=Sum.inr b)=decide (a=b):=by
 by_cases e:a=b
 ·subst e; simp
 ·have h:¬ (Sum.inr a:Key)=Sum.inr b:=λq=>e (Sum.inr.inj q)
  rw [decide_eq_false h,decide_eq_false e]
theorem Bv7 (a:Int) (b:Str):decide ((Sum.inl a:Key)=Sum.inr b)=false:=decide_eq_false (λq=>nomatch q)
theorem Bv6 (a:Str) (b:Int):decide ((Sum.inr a:Key)=Sum.inl b)=false:=decide_eq_false (λq=>nomatch q)
def Be7 (prog:Program) (w:World):PySem.KeyKind prog w Key where
 is:=Bv9
 hash:=keyH w
 inj:=λv a b ha hb=>by
  rcases Ad8 ha with ⟨i,t,rfl,rfl⟩ | ⟨x,t,rfl,rfl⟩
  ·rcases Ad8 hb with ⟨j,u,rfl,e⟩ | ⟨y,u,rfl,e⟩
   ·injection e with e1 _; rw [e1]
   ·exact nomatch e
  ·rcases Ad8 hb with ⟨j,u,rfl,e⟩ | ⟨y,u,rfl,e⟩
   ·exact nomatch e
   ·injection e with e1 _; rw [e1]
 byValue:=λk v h=>by
  rcases Ad8 h with ⟨i,t,rfl,rfl⟩ | ⟨x,t,rfl,rfl⟩ <;> rfl
 pyHash:=λhv h=>by
  rcases Ad8 hv with ⟨i,t,rfl,rfl⟩ | ⟨x,t,rfl,rfl⟩
  ·exact wpAny_pyHash_int h
  ·exact wpAny_pyHash_str h
 eqBool:=λhu hv h=>by
  rcases Ad8 hu with ⟨i,t,rfl,rfl⟩ | ⟨x,t,rfl,rfl⟩
  ·rcases Ad8 hv with ⟨j,u,rfl,rfl⟩ | ⟨y,u,rfl,rfl⟩
   ·rw [Bv8] at h; exact wpAny_eqBool_int h
   ·rw [Bv7] at h; exact SeqAt.EqAt.int_str i t y u _ _ _ _ h
  ·rcases Ad8 hv with ⟨j,u,rfl,rfl⟩ | ⟨y,u,rfl,rfl⟩
   ·rw [Bv6] at h; exact SeqAt.EqAt.str_int x t j u _ _ _ _ h
   ·rw [Bv5] at h; exact wpAny_eqBool_str h
 «strs»:=λk x t v h=>by
  rcases Ad8 h with ⟨i,u,rfl,e⟩ | ⟨y,u,rfl,e⟩
  ·exact nomatch e
  ·injection e with e1 _
   subst e1
   cases v <;> rfl
end L2
namespace L2
open PySem PySem.Spec PyProof.Rows
inductive V where
 | non | bl (b:Bool) | int (i:Int) | str (x:Str) | byt (b:Array UInt8) | flt (b:UInt64) | ref (a:Addr) | ty (n:String)
 deriving DecidableEq
def RelV:V->Value->Prop
 | .non,u=>u=Value.none
 | .bl b,u=>u=Value.bool b
 | .int i,u=>∃ t,u=Value.int i t
 | .str x,u=>∃ t,u=Value.str x t
 | .byt b,u=>∃ t,u=Value.bytes b t
 | .flt b,u=>∃ t,u=Value.float b t
 | .ref a,u=>u=Value.ref a
 | .ty n,u=>u=Value.type n
abbrev Vals:List V->List Value->Prop:=Paired RelV
theorem Vals.length {xs:List V} {us:List Value} (r:Vals xs us):xs.length=us.length:=Paired.length r
theorem Vals.get:∀ {xs:List V} {us:List Value} {i:Nat} {x:V},Vals xs us->xs[i]?=some x->∃ u,us[i]?=some u/\RelV x u
 | _,_,_,_,.nil,e=>by simp at e
 | _,_,0,_,.cons r _,e=>by simp at e; subst e; exact ⟨_,rfl,r⟩
 | _,_,i+1,x,.cons _ t,e=>by
  obtain ⟨u,h1,h2⟩:=Vals.get (i:=i) (x:=x) t (by simpa using e)
  exact ⟨u,by simpa using h1,h2⟩
theorem Vals.set {x:V} {u:Value} (r:RelV x u):∀ {xs:List V} {us:List Value} (i:Nat),Vals xs us->Vals (xs.set i x) (us.set i u)
 | _,_,_,.nil=>.nil
 | _,_,0,.cons _ t=>.cons r t
 | _,_,i+1,.cons q t=>.cons q (Vals.set r i t)
theorem Vals.append:∀ {xs ys:List V} {us ws:List Value},Vals xs us->Vals ys ws->Vals (xs++ys) (us++ws)
 | _,_,_,_,.nil,s=>s
 | _,_,_,_,.cons r t,s=>.cons r (Vals.append t s)
theorem Vals.take:∀ {xs:List V} {us:List Value} (n:Nat),Vals xs us->Vals (xs.take n) (us.take n)
 | _,_,0,_=>.nil
 | _,_,_+1,.nil=>.nil
 | _,_,n+1,.cons r t=>.cons r (Vals.take n t)
theorem Vals.drop:∀ {xs:List V} {us:List Value} (n:Nat),Vals xs us->Vals (xs.drop n) (us.drop n)
 | _,_,0,r=>r
 | _,_,_+1,.nil=>.nil
 | _,_,n+1,.cons _ t=>Vals.drop n t
def RelO:Option V->Option Value->Prop
 | some v,some u=>RelV v u
 | none,none=>True
 | _,_=>False
def KV {κ:Type}:List (κ×V)->List (κ×Value)->Prop:=Paired λ(p:κ×V) (q:κ×Value)=>p.1=q.1/\RelV p.2 q.2
def kV:Key->V
 | .inl i=>.int i
 | .inr x=>.str x
inductive HO where
  | lst (xs:List V)
  | tup (xs:List V)
  | dK (kvs:List (Key×V)) | dT (kvs:List (List Key×V))
  | set (S:Int->Bool) (n:Nat)
  | ins (C dx:Addr) (fs:List (Str×V))
  | own (x:Addr)
  | xd (fs:List (Str×V))
  | met (f x:Addr)
  | rng (lo hi:Int)
  | frz (o:Obj) (u:HO)
  | tbl (ps:Array Value)
  | ext (φ:Heap->Prop)
abbrev Hp:=Addr->Option HO
def upd (H:Hp) (a:Addr) (o:HO):Hp:=λb=>if b=a then some o else H b
theorem upd_same {H:Hp} {a:Addr} {o:HO}:upd H a o a=some o:=by unfold upd; rw [if_pos rfl]
theorem Ab0 {H:Hp} {a b:Addr} {o:HO} (h:b≠a):upd H a o b=H b:=by unfold upd; rw [if_neg h]
theorem Ae2 {H:Hp} {a b:Addr} {o u:HO} (h:H a=some o) (h':H b=some u) (d:o≠u):a≠b:=by
 intro e; subst e; rw [h] at h'; exact d (Option.some.inj h')
theorem Aa8 {H:Hp} {a b:Addr} {o:HO} (h:H a=some o) (h':H b=none):a≠b:=by
 intro e; subst e; rw [h] at h'; cases h'
section
variable (P : Program) (w : World)
def ObjOk (H:Hp) (h:Heap) (a:Addr):HO->Prop
 | .lst xs=>xs.length<=sizeLine/\∃ (its:List Value) (n:Nat),Vals xs its/\h.get? a=some { cls:=.type "list",data:=.seq its.toArray n }
 | .tup xs=>xs.length<=sizeLine/\∃ its:List Value,Vals xs its/\IsTup h a its.toArray
 | .dK kvs=>kvs.length<=sizeLine/\(a == sysModules)=false/\∃ vs,KV kvs vs/\h.DictOf (Be7 P w) a vs
 | .dT kvs=>kvs.length<=sizeLine/\(a == sysModules)=false/\∃ xs:List (List Key×Addr×Value),
   Paired (λ(p:List Key×V) (q:List Key×Addr×Value)=>p.1=q.1/\H q.2.1=some (.tup (p.1.map kV))/\RelV p.2 q.2.2) kvs xs /\
   ∃ o es ep,h.get? a=some o/\o.ExactDict/\o.data=.dict es ep/\es.toList=xs.map (entryOfKey (tupleKind (Be7 P w)))/\(xs.map (·.1)).Nodup
 | .set S n=>h.SetOf (intKind P w) a S n
 | .ins C dx fs=>H dx=some (.own a)/\fs.length<=1000/\dx≠a/\h.get? a=some (PySem.W.instObj C dx) /\
   ∃ mA,h.Ns1 dx mA/\(∀ f,RelO (fs.lookup f) (mA f))/\PySem.Within mA (fs.map (·.1))
 | .own _=>∃ o,h.get? a=some o
 | .xd fs=>∃ mA,h.Ns1 a mA/\∀ f,RelO (fs.lookup f) (mA f)
 | .rng lo hi=>∃ t u v,h.get? a=some { cls:=.type "range",data:=.fields #[.int lo t,.int hi u,.int 1 v] }
 | .frz o u=>h.get? a=some o/\ObjOk H h a u
 | .tbl ps=>h.get? a=some { cls:=.none,data:=.fields ps }
 | .met f x=>h.get? a=some (PySem.W.methodObj (.ref f) (.ref x))
 | .ext φ=>φ h/\(∃ o,h.get? a=some o)/\∀ h1 h2:Heap,φ h1->(∀ o,h1.get? a=some o->h2.get? a=some o)->φ h2
def HOk (H:Hp) (h:Heap):Prop:=∀ a o,H a=some o->ObjOk P w H h a o
end
section
variable {P : Program} {w : World} {H H' : Hp} {h h' : Heap} {a : Addr} {o : HO}
theorem ObjOk.lt (x:ObjOk P w H h a o):a<h.objs.size:=by
 cases o with
 | lst xs=>obtain ⟨_,_,_,_,e⟩:=x; exact Heap.lt_size e
 | tup xs=>obtain ⟨_,_,_,p⟩:=x; exact p.lt
 | dK kvs=>obtain ⟨_,_,_,_,o,_,_,e,_⟩:=x; exact Heap.lt_size e
 | dT kvs=>obtain ⟨_,_,_,_,o,_,_,e,_⟩:=x; exact Heap.lt_size e
 | set S n=>obtain ⟨o,_,_,_,e,_⟩:=x; exact Heap.lt_size e
 | ins C dx fs=>obtain ⟨_,_,_,e,_⟩:=x; exact Heap.lt_size e
 | own y=>obtain ⟨_,e⟩:=x; exact Heap.lt_size e
 | xd fs=>obtain ⟨_,⟨_,_,_,e,_⟩,_⟩:=x; exact Heap.lt_size e
 | rng lo hi=>obtain ⟨_,_,_,e⟩:=x; exact Heap.lt_size e
 | frz ob u=>obtain ⟨e,_⟩:=x; exact Heap.lt_size e
 | tbl ps=>exact Heap.lt_size (show h.get? a=some _ from x)
 | met f y=>exact Heap.lt_size (show h.get? a=some _ from x)
 | ext φ=>obtain ⟨_,⟨_,e⟩,_⟩:=x; exact Heap.lt_size e
theorem Paired.mapP {α β:Type} {F G:α->β->Prop}:∀ {l₁:List α} {l₂:List β},Paired F l₁ l₂->(∀ a b,F a b->G a b)->Paired G l₁ l₂
 | _,_,.nil,_=>.nil
 | _,_,.cons r t,f=>.cons (f _ _ r) (Paired.mapP t f)
theorem ObjOk.stay (x:ObjOk P w H h a o) (k:∀ b u,(b=a\/H b=some (.own a))->h.get? b=some u->h'.get? b=some u)
  (ho:∀ b,H b=some (.own a)->H' b=some (.own a)) (ht:∀ b xs,H b=some (.tup xs)->H' b=some (.tup xs)):ObjOk P w H' h' a o:=by
 induction o with
 | lst xs=>obtain ⟨z,its,n,r,e⟩:=x; exact ⟨z,its,n,r,k _ _ (.inl rfl) e⟩
 | tup xs=>obtain ⟨z,its,r,ob,e,c⟩:=x; exact ⟨z,its,r,ob,k _ _ (.inl rfl) e,c⟩
 | dK kvs=>obtain ⟨z,y,vs,r,ob,es,ep,e,c⟩:=x; exact ⟨z,y,vs,r,ob,es,ep,k _ _ (.inl rfl) e,c⟩
 | dT kvs =>
  obtain ⟨z,y,xs,r,ob,es,ep,e,c⟩:=x
  exact ⟨z,y,xs,Paired.mapP r λp q z=>⟨z.1,ht _ _ z.2.1,z.2.2⟩,ob,es,ep,k _ _ (.inl rfl) e,c⟩
 | set S n=>obtain ⟨ob,es,ep,t,e,c⟩:=x; exact ⟨ob,es,ep,t,k _ _ (.inl rfl) e,c⟩
 | ins C dx fs =>
  obtain ⟨d,z,ne,e,mA,⟨od,es,ep,e2,c⟩,r⟩:=x
  exact ⟨ho _ d,z,ne,k _ _ (.inl rfl) e,mA,⟨od,es,ep,k _ _ (.inr d) e2,c⟩,r⟩
 | own y=>obtain ⟨ob,e⟩:=x; exact ⟨ob,k _ _ (.inl rfl) e⟩
 | xd fs=>obtain ⟨mA,⟨od,es,ep,e,c⟩,r⟩:=x; exact ⟨mA,⟨od,es,ep,k _ _ (.inl rfl) e,c⟩,r⟩
 | rng lo hi=>obtain ⟨t,u,v,e⟩:=x; exact ⟨t,u,v,k _ _ (.inl rfl) e⟩
 | frz ob u ih=>obtain ⟨e,q⟩:=x; exact ⟨k _ _ (.inl rfl) e,ih q⟩
 | tbl ps =>
  have e:h.get? a=some { cls:=.none,data:=.fields ps }:=x
  show h'.get? a=some { cls:=.none,data:=.fields ps }
  exact k a _ (.inl rfl) e
 | met f y =>
  have e:h.get? a=some (PySem.W.methodObj (.ref f) (.ref y)):=x
  show h'.get? a=some (PySem.W.methodObj (.ref f) (.ref y))
  exact k a _ (.inl rfl) e
 | ext φ=>obtain ⟨p,⟨o,e⟩,st⟩:=x; exact ⟨st _ _ p λo q=>k _ _ (.inl rfl) q,⟨o,k _ _ (.inl rfl) e⟩,st⟩
theorem HOk.lt (x:HOk P w H h) (e:H a=some o):a<h.objs.size:=(x a o e).lt
theorem HOk.fresh (x:HOk P w H h) (e:h.objs.size<=a):H a=none:=by
 cases q:H a with
 | none=>rfl
 | some u=>exact absurd (Nat.lt_of_lt_of_le (x.lt q) e) (Nat.lt_irrefl _)
theorem HOk.kept (x:HOk P w H h) (k:∀ b u,h.get? b=some u->h'.get? b=some u):HOk P w H h':=λa o e =>
 (x a o e).stay (λb u _ q=>k b u q) (λ_ q=>q) λ_ _ q=>q
theorem HOk.laid (x:HOk P w H h) (k:∀ b u,h.get? b=some u->h'.get? b=some u) (hp:h.objs.size<=a) (new:ObjOk P w (upd H a o) h' a o):HOk P w (upd H a o) h':=λb u e=>by
 have hn:=x.fresh hp
 by_cases hb:b=a
 ·subst hb; rw [upd_same] at e; cases e; exact new
 ·rw [Ab0 hb] at e
  exact (x b u e).stay (λc v _ q=>k c v q) (λc q=>by rw [Ab0 (Aa8 q hn)]; exact q) λc xs q=>by rw [Ab0 (Aa8 q hn)]; exact q
end
def Rd (H:Hp) (a:Addr) (u:HO):Prop:=H a=some u\/∃ o,H a=some (.frz o u)
theorem Rd.ok {P:Program} {w:World} {H:Hp} {h:Heap} {a:Addr} {u:HO} (r:Rd H a u) (x:HOk P w H h):ObjOk P w H h a u:=by
 rcases r with r | ⟨o,r⟩
 ·exact x a u r
 ·obtain ⟨_,q⟩:=x a _ r
  exact q
def Mut:Option HO->Prop
 | some (.lst _)=>True
 | some (.dK _)=>True
 | some (.dT _)=>True
 | some (.set _ _)=>True
 | some (.ins _ _ _)=>True
 | some (.ext _)=>True
 | _=>False
section
variable {P : Program} {w : World} {H : Hp} {h h' : Heap} {x e : Addr} {o' : HO}
theorem HOk.write (ok:HOk P w H h) (mu:Mut (H x)) (he:e=x\/H e=some (.own x)) (k:∀ b u,b≠e->h.get? b=some u->h'.get? b=some u) (heo:∃ u,h'.get? e=some u)
  (new:ObjOk P w (upd H x o') h' x o'):HOk P w (upd H x o') h':=λb u q=>by
 have nown:∀ c y,H c=some (.own y)->c≠x:=λc y r z=>by subst z; rw [r] at mu; exact mu
 have ntup:∀ c xs,H c=some (.tup xs)->c≠x:=λc xs r z=>by subst z; rw [r] at mu; exact mu
 by_cases hb:b=x
 ·subst hb; rw [upd_same] at q; cases q; exact new
 ·rw [Ab0 hb] at q
  by_cases hbe:b=e
  ·have q':H b=some (.own x):=by
    rcases he with z | z
    ·exact absurd (hbe.trans z) hb
    ·rw [hbe]; exact z
   rw [q] at q'; cases q'
   obtain ⟨v,hv⟩:=heo
   exact ⟨v,by rw [hbe]; exact hv⟩
  ·refine (ok b u q).stay (λc v hc r=>k c v ?_ r) (λc r=>by rw [Ab0 (nown c b r)]; exact r) λc xs r=>by rw [Ab0 (ntup c xs r)]; exact r
   rcases hc with rfl | hc
   ·exact hbe
   ·rintro rfl
    rcases he with z | z
    ·exact nown c b hc z
    ·rw [hc] at z; cases z; exact hb rfl
end
structure Un (fs ex:List Addr) (H H':Hp) (h h':Heap):Prop where
 keep:∀ b o,h.get? b=some o->H b=none->b ∉ fs->b ∉ ex->h'.get? b=some o
 slot:∀ b o,h.get? b=some o->H b=none->b ∈ fs->b ∉ ex->∃ sl,h'.get? b=some { o with slots:=sl }
 free:∀ b o,h.get? b=some o->H b=none->b ∉ ex->H' b=none
 there:∀ b o,h.get? b=some o->b ∉ ex->∃ o',h'.get? b=some o'
 tups:∀ b xs,H b=some (.tup xs)->H' b=some (.tup xs)
 frzs:∀ b o u,H b=some (.frz o u)->H' b=some (.frz o u)
 tbls:∀ b ps,H b=some (.tbl ps)->∃ more,H' b=some (.tbl (ps++more))
section
variable {fs fs' ex ex' : List Addr} {H H1 H2 : Hp} {h h1 h2 h' : Heap} {a x e : Addr} {o : HO}
theorem Un.any (u:Un fs ex H H1 h h1) {b:Addr} {ob:Obj} (q:h.get? b=some ob) (n:H b=none) (hx:b ∉ ex):∃ sl,h1.get? b=some { ob with slots:=sl }:=by
 by_cases hb:b ∈ fs
 ·exact u.slot b ob q n hb hx
 ·exact ⟨ob.slots,u.keep b ob q n hb hx⟩
theorem Un.kept (k:∀ b u,h.get? b=some u->h'.get? b=some u):Un fs ex H H h h' :=
 ⟨λb ob q _ _ _=>k b ob q,λb ob q _ _ _=>⟨ob.slots,k b ob q⟩,λ_ _ _ n _=>n,λb ob q _=>⟨ob,k b ob q⟩,λ_ _ q=>q,λ_ _ _ q=>q,λ_ ps q=>⟨#[],by rw [q]; simp⟩⟩
theorem Un.refl:Un fs ex H H h h:=Un.kept λ_ _ q=>q
theorem Un.laid (k:∀ b u,h.get? b=some u->h'.get? b=some u) (hp:h.objs.size<=a) (hn:H a=none):Un fs ex H (upd H a o) h h' where
 keep:=λb u q _ _ _=>k b u q
 slot:=λb u q _ _ _=>⟨u.slots,k b u q⟩
 free:=λb u q n _=>by rw [Ab0 (Nat.ne_of_lt (Nat.lt_of_lt_of_le (Heap.lt_size q) hp))]; exact n
 there:=λb u q _=>⟨u,k b u q⟩
 tups:=λb xs q=>by rw [Ab0 (Aa8 q hn)]; exact q
 frzs:=λb u xs q=>by rw [Ab0 (Aa8 q hn)]; exact q
 tbls:=λb ps q=>⟨#[],by rw [Ab0 (Aa8 q hn),q]; simp⟩
theorem Un.write (mu:Mut (H x)) (he:e=x\/H e=some (.own x)) (k:∀ b u,b≠e->h.get? b=some u->h'.get? b=some u) (heo:∃ u,h'.get? e=some u):Un fs ex H (upd H x o) h h':=by
 have hx:∀ b,H b=none->b≠x:=λb n z=>by subst z; rw [n] at mu; exact mu
 have hb:∀ b,H b=none->b≠e:=λb n z=>by
  subst z
  rcases he with r | r
  ·exact hx b n r
  ·rw [n] at r; cases r
 have hm:∀ b u,H b=some u->¬ Mut (some u)->b≠x:=λb u q nm z=>by subst z; rw [q] at mu; exact nm mu
 refine ⟨λb u q n _ _=>k b u (hb b n) q,λb u q n _ _=>⟨u.slots,k b u (hb b n) q⟩,λb u q n _=>by rw [Ab0 (hx b n)]; exact n,λb u q _=>?_,
  λb xs q=>by rw [Ab0 (hm b _ q λz=>z)]; exact q,λb u xs q=>by rw [Ab0 (hm b _ q λz=>z)]; exact q,λb ps q=>⟨#[],by rw [Ab0 (hm b _ q λz=>z),q]; simp⟩⟩
 by_cases hbe:b=e
 ·subst hbe; exact heo
 ·exact ⟨u,k b u hbe q⟩
end
def trk (h:Heap) (H:Hp):List Addr:=(List.range h.objs.size).filter λa=>(H a).isSome
def hidT (h:Heap) (H:Hp):Heap:=PySem.W.hideAll h (trk h H)
theorem Bf2 (h:Heap) (H:Hp):(hidT h H).objs.size=h.objs.size:=PySem.W.hideAll_size _ _
theorem Bj7 {h:Heap} {H:Hp} {b:Addr} {o:Obj} (e:h.get? b=some o) (n:H b=none):(hidT h H).get? b=some o :=
 PySem.W.hideAll_get _ e λhm=>by
  have q:(H b).isSome=true:=(List.mem_filter.mp hm).2
  rw [n] at q; simp at q
theorem Bq1 {h:Heap} {H:Hp} {b:Addr} {o:Obj} (e:(hidT h H).get? b=some o):h.get? b=some o/\H b=none:=by
 have e':h.get? b=some o:=PySem.W.of_hideAll (trk h H) e
 refine ⟨e',?_⟩
 cases q:H b with
 | none=>rfl
 | some x =>
  have hm:b ∈ trk h H:=List.mem_filter.mpr ⟨List.mem_range.mpr (Heap.lt_size e'),by simp [q]⟩
  have z:(hidT h H).get? b=none:=PySem.W.hideAll_none (trk h H) hm
  rw [z] at e; cases e
end L2
namespace L2
open PySem PySem.Spec PyProof.Rows
structure Mod (K:PySem.W.Frag) (mg:Str->Option Value) (base:Heap):Prop where
 kin:K.In base
 glob:base.Ns mainGlobals mg
 blt:∃ mb,base.Ns builtinsNs mb/\∀ x:Str,x≠"__name__"->mb x=bootBuiltins x
 nolimit:base.NoLimit
structure Cx where
 prog:Program
 w:World
 K:PySem.W.Frag
 mg:Str->Option Value
 base:Heap
 A:Around
 N:List Str
 s₀:Shared
 H₀:Hp
 env:Env
 outer:List Env
 stack:List Env
 ex:List Addr
 fn:Str->Bool
 calm:Bool
 pn:List (Addr×Obj)
 xe:Value->Shared->Prop
def frs (l:List Env):List Addr:=l.filterMap (·.frame)
abbrev Cx.fs (X:Cx):List Addr:=frs X.outer
def Vis (sc:Scope) (x:Str):Prop:=sc.names.lookup x=some .local\/sc.names.lookup x=some .cell\/sc.names.lookup x=some .free
def Loc (sc:Scope) (x:Str):Prop:=sc.names.lookup x=some .local\/sc.names.lookup x=some .cell
def Look (env:Env) (h:Heap) (m:Str->Option Value) (x:Str) (u:Value):Prop :=
 (env.kindOf x=some .local/\m x=some u)\/((env.kindOf x=some .cell\/env.kindOf x=some .free)/\∃ c,env.cells.lookup x=some c/\h.IsCell c (some u))
structure Cx.Ok (X:Cx):Prop where
 mod:Mod X.K X.mg X.base
 kind:X.env.scope.kind=.function
 glob:X.env.globals=mainGlobals
 blt:X.env.builtins=builtinsNs
 above:X.s₀.heap.objs.size<=X.env.locals
 inj:∀ x y c,X.env.cells.lookup x=some c->X.env.cells.lookup y=some c->x=y
 has:∀ x,(X.env.kindOf x=some .cell\/X.env.kindOf x=some .free)->∃ c,X.env.cells.lookup x=some c
 cab:∀ x c,X.fn x=true->X.env.cells.lookup x=some c->X.s₀.heap.objs.size<=c
 hd:X.calm=true->X.A.handled=none
 frames:X.A.frames=some X.stack
 stk:X.stack=X.outer\/(X.stack=X.env::X.outer/\X.env.frame=some X.env.locals)
 exf:∀ b ∈ X.ex,b≠X.env.locals/\∀ x c,X.env.cells.lookup x=some c->c≠b
 bs:∀ b o,X.base.get? b=some o->X.s₀.heap.get? b=some o/\X.H₀ b=none
 bsz:X.base.objs.size<=X.s₀.heap.objs.size
 noex:∀ b o,X.base.get? b=some o->b ∉ X.ex
 exfs:∀ b ∈ X.ex,b ∉ X.fs
 funs:X.s₀.heap.FunFrames X.base X.outer
 frf:∀ b ∈ X.fs,X.H₀ b=none
structure Inv (X:Cx) (pins:List (Addr×Obj)) (σ:List (Option V)) (H:Hp) (s:Shared):Prop where
 ok:X.Ok
 os:s.os=X.s₀.os
 bare:AllBare s.gens
 base:Un X.fs X.ex X.H₀ H X.s₀.heap s.heap
 loc:∃ m,s.heap.Ns X.env.locals m/\∀ (i:Nat) (x:Str) (v:V),X.N[i]?=some x->σ[i]?=some (some v)->Vis X.env.scope x->∃ u,RelV v u/\Look X.env s.heap m x u
 cell:∀ x c,X.env.cells.lookup x=some c->∃ v,s.heap.IsCell c v
 free:H X.env.locals=none
 freeC:∀ x c,X.env.cells.lookup x=some c->H c=none
 pin:∀ p ∈ X.pn++pins,s.heap.get? p.1=some p.2/\H p.1=none/\p.1≠X.env.locals/\p.1 ∉ X.fs/\∀ v,p.2.data≠.cell v
 hok:HOk X.prog X.w H s.heap
 len:σ.length=X.N.length
section
variable {X : Cx} {pins : List (Addr × Obj)} {σ : List (Option V)} {H H' : Hp} {s : Shared} {h' : Heap}
theorem Cx.Ok.nofr (ok:X.Ok) {b:Addr} {o:Obj} (e:X.base.get? b=some o):b ∉ X.fs:=λhb=>by
 have:=(ok.funs.mem hb).1
 rw [e] at this; cases this
theorem Inv.bs (I:Inv X pins σ H s):∀ b o,X.base.get? b=some o->s.heap.get? b=some o/\H b=none:=λb o e =>
 ⟨I.base.keep b o (I.ok.bs b o e).1 (I.ok.bs b o e).2 (I.ok.nofr e) (I.ok.noex b o e),I.base.free b o (I.ok.bs b o e).1 (I.ok.bs b o e).2 (I.ok.noex b o e)⟩
theorem Inv.bk (I:Inv X pins σ H s):∀ b o,X.base.get? b=some o->s.heap.get? b=some o:=λb o e=>(I.bs b o e).1
theorem Inv.mod (I:Inv X pins σ H s):Mod X.K X.mg X.base:=I.ok.mod
theorem Inv.kIn (I:Inv X pins σ H s):X.K.In s.heap:=I.ok.mod.kin.keeps I.bk
theorem Inv.lt (I:Inv X pins σ H s):X.env.locals<s.heap.objs.size:=let ⟨_,hn,_⟩:=I.loc; hn.lt
theorem Inv.sz (I:Inv X pins σ H s):X.s₀.heap.objs.size<=s.heap.objs.size:=Nat.le_trans I.ok.above (Nat.le_of_lt I.lt)
theorem Inv.nofs (I:Inv X pins σ H s) {a:Addr} (h:s.heap.objs.size<=a):a ∉ X.fs:=λhb=>by
 obtain ⟨_,o,ho,_⟩:=I.ok.funs.mem hb
 exact absurd (Nat.lt_of_lt_of_le (Heap.lt_size ho) (Nat.le_trans I.sz h)) (Nat.lt_irrefl _)
theorem Inv.cne (I:Inv X pins σ H s):∀ x c,X.env.cells.lookup x=some c->c≠X.env.locals:=λx c e z=>by
 obtain ⟨v,o,ho,hd⟩:=I.cell x c e
 obtain ⟨m,⟨o',es,ep,ho',hd',_⟩,_⟩:=I.loc
 rw [z,ho'] at ho; cases ho; rw [hd'] at hd; cases hd
theorem Inv.funs (I:Inv X pins σ H s):s.heap.FunFrames X.base X.outer:=by
 have all:∀ (l:List Env),(∀ b ∈ frs l,b ∈ X.fs)->X.s₀.heap.FunFrames X.base l->s.heap.FunFrames X.base l:=by
  intro l
  induction l with
  | nil=>intro _ _; trivial
  | cons env r ih =>
   intro hs hl
   obtain ⟨hk,⟨L,o,hf,hn,ho,hd⟩,hr⟩:=hl
   have hL:L ∈ X.fs:=hs L (by unfold frs; rw [List.filterMap_cons,hf]; exact List.mem_cons_self)
   obtain ⟨sl,e⟩:=I.base.slot L o ho (I.ok.frf L hL) hL λz=>I.ok.exfs L z hL
   exact ⟨hk,⟨L,_,hf,hn,e,hd⟩,ih (λb hb=>hs b (by unfold frs; rw [List.filterMap_cons,hf]; exact List.mem_cons_of_mem _ hb)) hr⟩
 exact all X.outer (λ_ hb=>hb) I.ok.funs
theorem Inv.stack (I:Inv X pins σ H s):s.heap.FunFrames X.base X.stack:=by
 rcases I.ok.stk with e | ⟨e,hf⟩
 ·rw [e]; exact I.funs
 ·rw [e]
  obtain ⟨m,hn,_⟩:=I.loc
  refine .cons (by rw [I.ok.kind]; decide) hf hn ?_ I.funs
  exact Heap.get?_none_of_le (Nat.le_trans I.ok.bsz I.ok.above)
theorem Inv.stkSub (I:Inv X pins σ H s):∀ b ∈ frs X.stack,b ∈ X.env.locals::X.fs:=λb hb=>by
 rcases I.ok.stk with e | ⟨e,hf⟩
 ·rw [e] at hb; exact List.mem_cons_of_mem _ hb
 ·rw [e] at hb
  unfold frs at hb
  rw [List.filterMap_cons,hf] at hb
  exact hb
theorem Inv.stkFree (I:Inv X pins σ H s):∀ b ∈ frs X.stack,H b=none:=λb hb=>by
 rcases List.mem_cons.mp (I.stkSub b hb) with e | hb
 ·rw [e]; exact I.free
 ·obtain ⟨_,o,ho,_⟩:=I.ok.funs.mem hb
  exact I.base.free b o ho (I.ok.frf b hb) λz=>I.ok.exfs b z hb
theorem Inv.step {g':Array GenState} {t':Nat} {d':Drawn} {ch:List Addr} (I:Inv X pins σ H s)
  (hch:∀ b ∈ ch,(b ∈ X.ex\/X.s₀.heap.objs.size<=b)/\b≠X.env.locals/\(∀ x c,X.env.cells.lookup x=some c->c≠b)/\∀ p ∈ X.pn++pins,p.1≠b)
  (keep:∀ b o,b≠X.env.locals->b ∉ X.fs->b ∉ ch->s.heap.get? b=some o->H b=none->h'.get? b=some o)
  (slot:∀ b o,b≠X.env.locals->b ∈ X.fs->b ∉ ch->s.heap.get? b=some o->H b=none->∃ sl,h'.get? b=some { o with slots:=sl }) (free:∀ b o,b ∉ ch->s.heap.get? b=some o->H b=none->H' b=none)
  (there:∀ b o,b ∉ ch->s.heap.get? b=some o->∃ o',h'.get? b=some o')
  (tups:∀ b xs,H b=some (.tup xs)->H' b=some (.tup xs)) (frzs:∀ b o u,H b=some (.frz o u)->H' b=some (.frz o u)) (tbls:∀ b ps,H b=some (.tbl ps)->∃ more,H' b=some (.tbl (ps++more)))
  (ns:∀ m,s.heap.Ns X.env.locals m->h'.Ns X.env.locals m) (hok:HOk X.prog X.w H' h') (hg:AllBare g') :
  Inv X pins σ H' { s with heap:=h',gens:=g',drawn:=d',toks:=t' }:=by
 have neL:∀ b o,X.s₀.heap.get? b=some o->b≠X.env.locals:=λb o e=>Nat.ne_of_lt (Nat.lt_of_lt_of_le (Heap.lt_size e) I.ok.above)
 have neC:∀ b o,X.s₀.heap.get? b=some o->b ∉ X.ex->b ∉ ch:=λb o e hx hb=>by
  rcases (hch b hb).1 with z | z
  ·exact hx z
  ·exact absurd (Nat.lt_of_lt_of_le (Heap.lt_size e) z) (Nat.lt_irrefl _)
 have cellK:∀ x c,X.env.cells.lookup x=some c->∀ v,s.heap.IsCell c v->h'.IsCell c v:=λx c e v ⟨o,ho,hd⟩=>by
  have nch:c ∉ ch:=λz=>(hch c z).2.2.1 x c e rfl
  by_cases hc:c ∈ X.fs
  ·obtain ⟨sl,q⟩:=slot c o (I.cne x c e) hc nch ho (I.freeC x c e)
   exact ⟨_,q,hd⟩
  ·exact ⟨o,keep c o (I.cne x c e) hc nch ho (I.freeC x c e),hd⟩
 refine ⟨I.ok,I.os,hg,⟨λb o e n hb hx=>?_,λb o e n hb hx=>?_,λb o e n hx=>?_,λb o e hx=>?_,λb xs e=>tups b xs (I.base.tups b xs e),λb o xs e=>frzs b o xs (I.base.frzs b o xs e),λb ps e=>?_⟩,?_,λx c e=>?_,?_,λx c e=>?_,λp hp=>?_,hok,I.len⟩
 ·exact keep b o (neL b o e) hb (neC b o e hx) (I.base.keep b o e n hb hx) (I.base.free b o e n hx)
 ·obtain ⟨sl,e1⟩:=I.base.slot b o e n hb hx
  obtain ⟨sl',e2⟩:=slot b _ (neL b o e) hb (neC b o e hx) e1 (I.base.free b o e n hx)
  exact ⟨sl',e2⟩
 ·obtain ⟨o',e1⟩:=I.base.there b o e hx
  exact free b o' (neC b o e hx) e1 (I.base.free b o e n hx)
 ·obtain ⟨o',e1⟩:=I.base.there b o e hx
  exact there b o' (neC b o e hx) e1
 ·obtain ⟨m1,e1⟩:=I.base.tbls b ps e
  obtain ⟨m2,e2⟩:=tbls b _ e1
  exact ⟨m1++m2,by rw [e2,Array.append_assoc]⟩
 ·obtain ⟨m,hn,hl⟩:=I.loc
  refine ⟨m,ns m hn,λi x v e1 e2 e3=>?_⟩
  obtain ⟨u,r,l⟩:=hl i x v e1 e2 e3
  refine ⟨u,r,?_⟩
  rcases l with l | ⟨k,c,e,z⟩
  ·exact .inl l
  ·exact .inr ⟨k,c,e,cellK x c e _ z⟩
 ·obtain ⟨v,z⟩:=I.cell x c e
  exact ⟨v,cellK x c e v z⟩
 ·obtain ⟨m,⟨o,_,_,ho,_⟩,_⟩:=I.loc
  exact free _ o (λz=>(hch _ z).2.1 rfl) ho I.free
 ·obtain ⟨v,o,ho,hd⟩:=I.cell x c e
  exact free c o (λz=>(hch c z).2.2.1 x c e rfl) ho (I.freeC x c e)
 ·obtain ⟨e,n,ne,nf,d⟩:=I.pin p hp
  have nch:p.1 ∉ ch:=λz=>(hch p.1 z).2.2.2 p hp rfl
  exact ⟨keep p.1 p.2 ne nf nch e n,free p.1 p.2 nch e n,ne,nf,d⟩
theorem Inv.un {t':Nat} (I:Inv X pins σ H s) (u:Un X.fs [] H H' s.heap h') (hok:HOk X.prog X.w H' h'):Inv X pins σ H' { s with heap:=h',toks:=t' }:=by
 obtain ⟨m,⟨o,es,ep,ho,r⟩,_⟩:=id I.loc
 obtain ⟨sl,hL⟩:=u.any ho I.free (by simp)
 exact I.step (g':=s.gens) (d':=s.drawn) (ch:=[]) (λ_ z=>nomatch z) (λb o _ hb _ e n=>u.keep b o e n hb (by simp)) (λb o _ hb _ e n=>u.slot b o e n hb (by simp)) (λb o _ e n=>u.free b o e n (by simp)) (λb o _ e=>u.there b o e (by simp)) u.tups u.frzs u.tbls (λm' hm=>by
  obtain ⟨o',es',ep',ho',r'⟩:=hm
  rw [ho] at ho'; cases ho'
  exact ⟨_,es',ep',hL,r'⟩) hok I.bare
theorem Inv.call {g':Array GenState} {t':Nat} {d':Drawn} {ch:List Addr} (I:Inv X pins σ H s) (u:Un (frs X.stack) ch H H' s.heap h') (hok:HOk X.prog X.w H' h') (hg:AllBare g')
  (hch:∀ b ∈ ch,(b ∈ X.ex\/X.s₀.heap.objs.size<=b)/\b≠X.env.locals/\(∀ x c,X.env.cells.lookup x=some c->c≠b)/\∀ p ∈ X.pn++pins,p.1≠b) :
  Inv X pins σ H' { s with heap:=h',gens:=g',drawn:=d',toks:=t' }:=by
 obtain ⟨m,⟨o,es,ep,ho,r⟩,_⟩:=id I.loc
 obtain ⟨sl,hL⟩:=u.any ho I.free λz=>(hch _ z).2.1 rfl
 exact I.step (ch:=ch) hch (λb o hL hb hc e n=>u.keep b o e n (λz=>(List.mem_cons.mp (I.stkSub b z)).elim hL hb) hc) (λb o _ _ hc e n=>u.any e n hc) (λb o hc e n=>u.free b o e n hc) (λb o hc e=>u.there b o e hc) u.tups u.frzs u.tbls (λm' hm=>by
  obtain ⟨o',es',ep',ho',r'⟩:=hm
  rw [ho] at ho'; cases ho'
  exact ⟨_,es',ep',hL,r'⟩) hok hg
theorem Inv.turned {t':Nat} {it:Addr} (I:Inv X pins σ H s) (k:∀ b o,b≠it->s.heap.get? b=some o->h'.get? b=some o) (hn:H it=none) (hL:it≠X.env.locals)
  (h1:it ∈ X.ex\/X.s₀.heap.objs.size<=it) (h2:∀ x c,X.env.cells.lookup x=some c->c≠it) (h3:∀ p ∈ X.pn++pins,p.1≠it):Inv X pins σ H { s with heap:=h',toks:=t' }:=by
 have nit:∀ b u,H b=some u->b≠it:=λb u e z=>by rw [z,hn] at e; cases e
 refine I.step (g':=s.gens) (d':=s.drawn) (ch:=[it]) (λb hb=>?_) (λb o _ _ hc e _=>k b o (λz=>hc (by simp [z])) e) (λb o _ _ hc e _=>⟨o.slots,k b o (λz=>hc (by simp [z])) e⟩) (λ_ _ _ _ n=>n)
  (λb o hc e=>⟨o,k b o (λz=>hc (by simp [z])) e⟩) (λ_ _ e=>e) (λ_ _ _ e=>e) (λb ps e=>⟨#[],by rw [e]; simp⟩) (λm hm=>?_) (λb u e=>?_) I.bare
 ·have e:b=it:=by simpa using hb
  subst e
  exact ⟨h1,hL,h2,h3⟩
 ·obtain ⟨o,es,ep,ho,r⟩:=hm
  exact ⟨o,es,ep,k _ o (Ne.symm hL) ho,r⟩
 ·refine (I.hok b u e).stay (λc v hc q=>k c v ?_ q) (λ_ q=>q) λ_ _ q=>q
  rcases hc with z | z
  ·rw [z]; exact nit b u e
  ·exact nit c _ z
theorem Inv.tok (I:Inv X pins σ H s) (t:Nat):Inv X pins σ H { s with toks:=t }:=I.un (h':=s.heap) (t':=t) Un.refl I.hok
theorem Inv.kept {t':Nat} (I:Inv X pins σ H s) (k:∀ b u,s.heap.get? b=some u->h'.get? b=some u):Inv X pins σ H { s with heap:=h',toks:=t' }:=I.un (Un.kept k) (I.hok.kept k)
theorem Inv.laid {a:Addr} {o:HO} {t':Nat} (I:Inv X pins σ H s) (k:∀ b u,s.heap.get? b=some u->h'.get? b=some u) (hp:s.heap.objs.size<=a) (new:ObjOk X.prog X.w (upd H a o) h' a o) :
  Inv X pins σ (upd H a o) { s with heap:=h',toks:=t' }:=I.un (Un.laid k hp (I.hok.fresh hp)) (I.hok.laid k hp new)
theorem Inv.write {x e:Addr} {o:HO} {t':Nat} (I:Inv X pins σ H s) (mu:Mut (H x)) (he:e=x\/H e=some (.own x)) (k:∀ b u,b≠e->s.heap.get? b=some u->h'.get? b=some u) (heo:∃ u,h'.get? e=some u)
  (new:ObjOk X.prog X.w (upd H x o) h' x o):Inv X pins σ (upd H x o) { s with heap:=h',toks:=t' }:=I.un (Un.write mu he k heo) (I.hok.write mu he k heo new)
theorem Inv.pins_of {pins':List (Addr×Obj)} (I:Inv X pins σ H s) (h:∀ p ∈ pins',s.heap.get? p.1=some p.2/\H p.1=none/\p.1≠X.env.locals/\p.1 ∉ X.fs/\∀ v,p.2.data≠.cell v):Inv X pins' σ H s :=
 ⟨I.ok,I.os,I.bare,I.base,I.loc,I.cell,I.free,I.freeC,λp hp=>(List.mem_append.mp hp).elim (λz=>I.pin p (List.mem_append_left _ z)) (h p),I.hok,I.len⟩
theorem Ap1 {N:List Str} (hN:N.Nodup) {i j:Nat} {x:Str} (a:N[i]?=some x) (b:N[j]?=some x):i=j:=by
 obtain ⟨h1,e1⟩:=List.getElem?_eq_some_iff.mp a
 obtain ⟨h2,e2⟩:=List.getElem?_eq_some_iff.mp b
 exact (List.getElem_inj hN).mp (e1.trans e2.symm)
theorem Ap9 {M:Model} {A:Around} {E:Value->Shared->Prop} {i:Nat} {x:Str} {v:V} {u:Value} {Q:Unit->Shared->Prop} (I:Inv X pins σ H s) (hN:X.N.Nodup) (hi:X.N[i]?=some x) (hx:Loc X.env.scope x) (r:RelV v u)
  (h:∀ s',Inv X pins (σ.set i (some v)) H s'->(∃ a,Heap.SameBut a s.heap s'.heap/\(a=X.env.locals\/X.env.cells.lookup x=some a))->Q () s') (hf:X.fn x=true\/X.env.scope.names.lookup x=some .local:=by first | exact .inl rfl | exact .inr rfl | assumption):wpAny M A (storeName X.env x u) Q E s:=by
 obtain ⟨m,hn,hl⟩:=id I.loc
 have hcls:(X.env.scope.kind == .class || (X.env.scope.kind == .module && X.env.locals != X.env.globals))=false:=by rw [I.ok.kind]; rfl
 have hiσ:i<σ.length:=by rw [I.len]; exact (List.getElem?_eq_some_iff.mp hi).1
 have cne:=I.cne
 have tracked:∀ {a:Addr} {h':Heap},(∃ o,s.heap.get? a=some o/\H a=none)->Heap.SameBut a s.heap h'->HOk X.prog X.w H h':=λ{a h'} ha hs b ob e=>by
  obtain ⟨_,_,hfree⟩:=ha
  refine (I.hok b ob e).stay (λc w' hc q=>(hs.2 c ?_).trans q) (λ_ q=>q) λ_ _ q=>q
  rintro rfl
  rcases hc with rfl | hc
  ·rw [hfree] at e; cases e
  ·rw [hfree] at hc; cases hc
 rcases hx with hk | hk
 ·refine wpAny_storeName_local hk hn (λh' hn' hs=>?_) hcls
  obtain ⟨oL,_,_,hoL,_⟩:=id hn
  refine h _ ⟨I.ok,I.os,I.bare,⟨λb o e n hb hx=>?_,λb o e n hb hx=>?_,I.base.free,λb o e hx=>?_,I.base.tups,I.base.frzs,I.base.tbls⟩,⟨_,hn',λj y v' e1 e2 e3=>?_⟩,λy c e=>?_,I.free,I.freeC,λp hp=>?_,tracked ⟨oL,hoL,I.free⟩ hs,by simpa using I.len⟩ ⟨_,hs,.inl rfl⟩
  ·exact (hs.2 b (Nat.ne_of_lt (Nat.lt_of_lt_of_le (Heap.lt_size e) I.ok.above))).trans (I.base.keep b o e n hb hx)
  ·obtain ⟨sl,e1⟩:=I.base.slot b o e n hb hx
   exact ⟨sl,(hs.2 b (Nat.ne_of_lt (Nat.lt_of_lt_of_le (Heap.lt_size e) I.ok.above))).trans e1⟩
  ·obtain ⟨o',e1⟩:=I.base.there b o e hx
   exact ⟨o',(hs.2 b (Nat.ne_of_lt (Nat.lt_of_lt_of_le (Heap.lt_size e) I.ok.above))).trans e1⟩
  ·by_cases hj:j=i
   ·subst hj
    rw [hi] at e1; cases e1
    rw [List.getElem?_set_self hiσ] at e2
    cases e2
    exact ⟨u,r,.inl ⟨hk,by simp⟩⟩
   ·rw [List.getElem?_set_ne (Ne.symm hj)] at e2
    obtain ⟨u',r',q⟩:=hl j y v' e1 e2 e3
    refine ⟨u',r',?_⟩
    rcases q with ⟨k,e⟩ | ⟨k,c,e,z⟩
    ·refine .inl ⟨k,?_⟩
     have:y≠x:=λe=>hj (Ap1 hN e1 (e ▸ hi))
     simp [this,e]
    ·exact .inr ⟨k,c,e,z.sameBut hs (cne y c e)⟩
  ·obtain ⟨w',z⟩:=I.cell y c e
   exact ⟨w',z.sameBut hs (cne y c e)⟩
  ·obtain ⟨e,n,ne,nf,d⟩:=I.pin p hp
   exact ⟨(hs.2 p.1 ne).trans e,n,ne,nf,d⟩
 ·have hfn:X.fn x=true:=by
   rcases hf with z | z
   ·exact z
   ·rw [z] at hk; cases hk
  obtain ⟨c,hc⟩:=I.ok.has x (.inl hk)
  obtain ⟨w',z⟩:=I.cell x c hc
  refine wpAny_storeName_cell I.ok.kind hk hc z (λh' hc' hs=>?_)
  obtain ⟨oc,hoc,hocd⟩:=id z
  refine h { s with heap:=h' } ⟨I.ok,I.os,I.bare,⟨λb o e n hb hx=>?_,λb o e n hb hx=>?_,I.base.free,λb o e hx=>?_,I.base.tups,I.base.frzs,I.base.tbls⟩,⟨m,hn.sameBut hs (Ne.symm (cne x c hc)),λj y v' e1 e2 e3=>?_⟩,λy c' e=>?_,I.free,I.freeC,λp hp=>?_,tracked ⟨oc,hoc,I.freeC x c hc⟩ hs,by simpa using I.len⟩ ⟨c,hs,.inr hc⟩
  ·exact (hs.2 b (Nat.ne_of_lt (Nat.lt_of_lt_of_le (Heap.lt_size e) (I.ok.cab x c hfn hc)))).trans (I.base.keep b o e n hb hx)
  ·obtain ⟨sl,e1⟩:=I.base.slot b o e n hb hx
   exact ⟨sl,(hs.2 b (Nat.ne_of_lt (Nat.lt_of_lt_of_le (Heap.lt_size e) (I.ok.cab x c hfn hc)))).trans e1⟩
  ·obtain ⟨o',e1⟩:=I.base.there b o e hx
   exact ⟨o',(hs.2 b (Nat.ne_of_lt (Nat.lt_of_lt_of_le (Heap.lt_size e) (I.ok.cab x c hfn hc)))).trans e1⟩
  ·by_cases hj:j=i
   ·subst hj
    rw [hi] at e1; cases e1
    rw [List.getElem?_set_self hiσ] at e2
    cases e2
    exact ⟨u,r,.inr ⟨.inl hk,c,hc,hc'⟩⟩
   ·rw [List.getElem?_set_ne (Ne.symm hj)] at e2
    obtain ⟨u',r',q⟩:=hl j y v' e1 e2 e3
    refine ⟨u',r',?_⟩
    rcases q with q | ⟨k,c',e,z'⟩
    ·exact .inl q
    ·refine .inr ⟨k,c',e,z'.sameBut hs ?_⟩
     rintro rfl
     exact hj (Ap1 hN e1 (I.ok.inj _ _ _ e hc ▸ hi))
  ·by_cases hcc:c'=c
   ·subst hcc; exact ⟨_,hc'⟩
   ·obtain ⟨w2,z2⟩:=I.cell y c' e
    exact ⟨w2,z2.sameBut hs hcc⟩
  ·obtain ⟨e,n,ne,nf,d⟩:=I.pin p hp
   refine ⟨(hs.2 p.1 ?_).trans e,n,ne,nf,d⟩
   intro q
   rw [q,hoc] at e
   have q':oc=p.2:=Option.some.inj e
   exact d w' (by rw [<- q']; exact hocd)
theorem Ah6 {M:Model} {A:Around} {E:Value->Shared->Prop} {i:Nat} {x:Str} {v:V} {u:Value} {Q:Unit->Shared->Prop} (I:Inv X pins σ H s) (hN:X.N.Nodup) (hi:X.N[i]?=some x) (hx:Loc X.env.scope x) (r:RelV v u)
  (h:∀ s',Inv X pins (σ.set i (some v)) H s'->Q () s') (hf:X.fn x=true\/X.env.scope.names.lookup x=some .local:=by first | exact .inl rfl | exact .inr rfl | assumption):wpAny M A (storeName X.env x u) Q E s :=
 Ap9 I hN hi hx r (λs' I' _=>h s' I') hf
theorem Inv.call' {s':Shared} {ch:List Addr} (I:Inv X pins σ H s) (ho:s'.os=s.os) (u:Un (frs X.stack) ch H H' s.heap s'.heap) (hok:HOk X.prog X.w H' s'.heap) (hg:AllBare s'.gens)
  (hch:∀ b ∈ ch,(b ∈ X.ex\/X.s₀.heap.objs.size<=b)/\b≠X.env.locals/\(∀ x c,X.env.cells.lookup x=some c->c≠b)/\∀ p ∈ X.pn++pins,p.1≠b):Inv X pins σ H' s':=by
 obtain ⟨h',g',d',t',o'⟩:=s'
 have e:o'=s.os:=ho
 subst e
 exact I.call (g':=g') (t':=t') (d':=d') u hok hg hch
end
abbrev XK:=Value->Option Addr->Hp->Prop
abbrev St:=List (Option V)
abbrev VK:=V->Hp->Prop
abbrev TE:=St->Hp->VK->Prop
abbrev TT:=St->Hp->(Bool->Hp->Prop)->Prop
abbrev TA:=St->Hp->(List V->Hp->Prop)->Prop
structure Ends where
 nx:St->Hp->Prop
 rt:VK
 bk:St->Hp->Prop:=λ_ _=>False
 ct:St->Hp->Prop:=λ_ _=>False
abbrev TS:=Ends->St->Hp->Prop
def EP (X:Cx) (pins:List (Addr×Obj)) (σ:St) (Q:VK) (u:Value) (s':Shared):Prop:=∃ v H',Inv X pins σ H' s'/\RelV v u/\Q v H'
def TP (X:Cx) (pins:List (Addr×Obj)) (σ:St) (Q:Bool->Hp->Prop) (b:Bool) (s':Shared):Prop:=∃ H',Inv X pins σ H' s'/\Q b H'
def AP (X:Cx) (pins:List (Addr×Obj)) (σ:St) (Q:List V->Hp->Prop) (us:List Value) (s':Shared):Prop:=∃ vs H',Inv X pins σ H' s'/\Vals vs us/\Q vs H'
def SP (X:Cx) (pins:List (Addr×Obj)) (D:Ends) (f:Flow) (s':Shared):Prop :=
 match f with
 | .next=>∃ σ' H',Inv X pins σ' H' s'/\D.nx σ' H'
 | .brk=>∃ σ' H',Inv X pins σ' H' s'/\D.bk σ' H'
 | .cont=>∃ σ' H',Inv X pins σ' H' s'/\D.ct σ' H'
 | .ret u=>∃ v σ' H',Inv X pins σ' H' s'/\RelV v u/\D.rt v H'
def PE (X:Cx) (e:Expr) (t:TE):Prop :=
 ∀ (pins:List (Addr×Obj)) (s:Shared) (σ:St) (H:Hp) (Q:VK),Inv X pins σ H s->t σ H Q->wpAny (model X.prog X.w) X.A (eval e X.env) (EP X pins σ Q) X.xe s
def PT (X:Cx) (e:Expr) (t:TT):Prop :=
 ∀ (pins:List (Addr×Obj)) (s:Shared) (σ:St) (H:Hp) (Q:Bool->Hp->Prop),Inv X pins σ H s->t σ H Q->wpAny (model X.prog X.w) X.A (isTrue e X.env (eval e X.env)) (TP X pins σ Q) X.xe s
def PW (X:Cx) (e:Expr) (t:TT):Prop :=
 ∀ (whole:Sem Value) (pins:List (Addr×Obj)) (s:Shared) (σ:St) (H:Hp) (Q:Bool->Hp->Prop),Inv X pins σ H s->t σ H Q->wpAny (model X.prog X.w) X.A (isTrue e X.env whole) (TP X pins σ Q) X.xe s
theorem PW.pt {X:Cx} {e:Expr} {t:TT} (h:PW X e t):PT X e t:=h _
def PA (X:Cx) (es:List Expr) (t:TA):Prop :=
 ∀ (pos:Pos) (pins:List (Addr×Obj)) (s:Shared) (σ:St) (H:Hp) (Q:List V->Hp->Prop),Inv X pins σ H s->t σ H Q->wpAny (model X.prog X.w) X.A (spliced (backTo pos (starEach es X.env))) (AP X pins σ Q) X.xe s
def PS (X:Cx) (st:Stmt) (t:TS):Prop :=
 ∀ (pins:List (Addr×Obj)) (s:Shared) (σ:St) (H:Hp) (D:Ends),Inv X pins σ H s->t D σ H->wpAny (model X.prog X.w) X.A (exec st X.env) (SP X pins D) X.xe s
def PSs (X:Cx) (st:List Stmt) (t:TS):Prop :=
 ∀ (pins:List (Addr×Obj)) (s:Shared) (σ:St) (H:Hp) (D:Ends),Inv X pins σ H s->t D σ H->wpAny (model X.prog X.w) X.A (execs st X.env) (SP X pins D) X.xe s
theorem thn {α:Type} {t:Sem α} {Q Q':α->Shared->Prop} {M:Model} {A:Around} {E:Value->Shared->Prop} {s:Shared} (h:wpAny M A t Q E s) (hQ:∀ a s,Q a s->Q' a s):wpAny M A t Q' E s:=wpAny_mono h hQ λ_ _ x=>x
end L2
namespace L2
open PySem PySem.Spec PyProof.Rows
section
variable {X : Cx}
def tVar (i:Nat):TE:=λσ H Q=>∃ v,σ[i]?=some (some v)/\Q v H
def tC (v:V):TE:=λ_ H Q=>Q v H
theorem Bt7 {i:Nat} {x:Str} {pos:Pos} (hN:X.N[i]?=some x) (hv:Vis X.env.scope x) (hd:(x == ("__debug__":Str))=false:=by decide) (hcd:(x == ("__classdict__":Str))=false:=by decide):PE X (.Name x pos) (tVar i):=by
 intro pins s σ H Q I h
 obtain ⟨v,e,h⟩:=h
 obtain ⟨m,hn,hl⟩:=I.loc
 obtain ⟨u,r,l⟩:=hl i x v hN e hv
 have fin:EP X pins σ Q u s:=⟨v,H,I,r,h⟩
 rcases l with ⟨hk,hm⟩ | ⟨hk,c,hc,hcell⟩
 ·exact wpAny_Name (wpAny_loadName_local I.ok.kind hk hn hm fin) hd
 ·rcases hk with hk | hk
  ·exact wpAny_Name (wpAny_loadName_cell I.ok.kind hk hc hcell fin) hd
  ·exact wpAny_Name (wpAny_loadName_free I.ok.kind hk hc hcell fin hcd) hd
theorem Aa3 {i j pos}:PE X (.Constant (.int i) j pos) (tC (.int i)):=λ_ _ _ H _ I h=>wpAny_Constant_int ⟨.int i,H,I.tok _,⟨_,rfl⟩,h⟩
theorem Af5 {b j pos}:PE X (.Constant (.bool b) j pos) (tC (.bl b)):=λ_ _ _ H _ I h=>Constant_bool ⟨.bl b,H,I,rfl,h⟩
theorem Aq3 {j pos}:PE X (.Constant .none j pos) (tC .non):=λ_ _ _ H _ I h=>Constant_none ⟨.non,H,I,rfl,h⟩
theorem Ad7 {x j pos}:PE X (.Constant (.str x) j pos) (tC (.str x)):=λ_ _ _ H _ I h=>Calls.Constant_str ⟨.str x,H,I.tok _,⟨_,rfl⟩,h⟩
def Gl (X:Cx) (x:Str):Prop:=X.env.kindOf x=some .globalImplicit
theorem Ai5 {E:Value->Shared->Prop} {pins:List (Addr×Obj)} {s:Shared} {σ:St} {H:Hp} {x:Str} {u:Value} {pos:Pos} {Q:Value->Shared->Prop} (I:Inv X pins σ H s) (hg:Gl X x) (hm:X.mg x=some u) (h:Q u s)
  (hd:(x == ("__debug__":Str))=false:=by decide):wpAny (model X.prog X.w) X.A (eval (.Name x pos) X.env) Q E s :=
 Calls.Name_function_global I.ok.kind hg (Calls.loadGlobal_global (by rw [I.ok.glob]; exact I.mod.glob.keeps I.bk) hm h) hd
theorem An8 {E:Value->Shared->Prop} {pins:List (Addr×Obj)} {s:Shared} {σ:St} {H:Hp} {x:Str} {u:Value} {pos:Pos} {Q:Value->Shared->Prop} (I:Inv X pins σ H s) (hg:Gl X x) (hm:X.mg x=none) (hv:bootBuiltins x=some u) (h:Q u s)
  (hn:x≠"__name__":=by decide) (hd:(x == ("__debug__":Str))=false:=by decide):wpAny (model X.prog X.w) X.A (eval (.Name x pos) X.env) Q E s:=by
 obtain ⟨mb,h1,h2⟩:=I.mod.blt
 exact Calls.Name_function_global I.ok.kind hg (Calls.loadGlobal_builtin (by rw [I.ok.glob]; exact I.mod.glob.keeps I.bk) hm (by rw [I.ok.blt]; exact h1.keeps I.bk) ((h2 x hn).trans hv) h) hd
theorem Ae0 {x:Str} {v:V} {u:Value} {pos:Pos} (hg:Gl X x) (hm:X.mg x=some u) (r:RelV v u) (hd:(x == ("__debug__":Str))=false:=by decide):PE X (.Name x pos) (tC v) :=
 λ_ _ _ H _ I h=>Ai5 I hg hm ⟨v,H,I,r,h⟩ hd
theorem Ae4 {x:Str} {v:V} {u:Value} {pos:Pos} (hg:Gl X x) (hm:X.mg x=none) (hv:bootBuiltins x=some u) (r:RelV v u) (hn:x≠"__name__":=by decide) (hd:(x == ("__debug__":Str))=false:=by decide):PE X (.Name x pos) (tC v) :=
 λ_ _ _ H _ I h=>An8 I hg hm hv ⟨v,H,I,r,h⟩ hn hd
variable {a b : Expr} {ta tb : TE} {pos : Pos}
def tB (t:TE):TT:=λσ H Q=>t σ H λx H1=>∃ c,x=.bl c/\Q c H1
theorem Ad3 {e:Expr} {t:TE} (h:PE X e t) (he:∀ whole,isTrue e X.env whole=(do let v <- whole; standAt e.pos; holding [v] (truthy v)):=by intro _; rfl):PT X e (tB t):=by
 intro pins s σ H Q I hw
 refine isTrue_plain (thn (h pins s σ H _ I hw) λv s1 ⟨x,H1,I1,r1,q1⟩=>?_) (he _)
 obtain ⟨d,rfl,q⟩:=q1
 cases r1
 exact wpAny_truthy_bool ⟨H1,I1,q⟩
variable {tA tB' : TT} {rest : List Expr}
def tAnd (t u:TT):TT:=λσ H Q=>t σ H λc H1=>if c=true then u σ H1 Q else Q false H1
def tOr (t u:TT):TT:=λσ H Q=>t σ H λc H1=>if c=true then Q true H1 else u σ H1 Q
def tNot (t:TT):TT:=λσ H Q=>t σ H λc H1=>Q (!c) H1
theorem Al2 (ha:PT X a tA):PW X (.BoolOp .And [a] pos) tA:=by
 intro wh pins s σ H Q I h
 refine isTrue_and (thn (ha pins s σ H Q I h) λc s1 e=>?_)
 cases c with
 | true=>exact isTrue_and_nil e
 | false=>exact e
theorem Ag1 (ha:PT X a tA):PW X (.BoolOp .Or [a] pos) tA:=by
 intro wh pins s σ H Q I h
 refine isTrue_or (thn (ha pins s σ H Q I h) λc s1 e=>?_)
 cases c with
 | false=>exact isTrue_or_nil e
 | true=>exact e
theorem Aq1 (ha:PT X a tA) (hb:PW X (.BoolOp .And (b::rest) pos) tB'):PW X (.BoolOp .And (a::b::rest) pos) (tAnd tA tB'):=by
 intro wh pins s σ H Q I h
 refine isTrue_and (thn (ha pins s σ H _ I h) λc s1 ⟨H1,I1,q1⟩=>?_)
 cases c with
 | true=>exact hb wh pins s1 σ H1 Q I1 q1
 | false=>exact ⟨H1,I1,q1⟩
theorem Ag2 (ha:PT X a tA) (hb:PW X (.BoolOp .Or (b::rest) pos) tB'):PW X (.BoolOp .Or (a::b::rest) pos) (tOr tA tB'):=by
 intro wh pins s σ H Q I h
 refine isTrue_or (thn (ha pins s σ H _ I h) λc s1 ⟨H1,I1,q1⟩=>?_)
 cases c with
 | true=>exact ⟨H1,I1,q1⟩
 | false=>exact hb wh pins s1 σ H1 Q I1 q1
theorem Ad0 (ha:PT X a tA):PT X (.UnaryOp .Not a pos) (tNot tA):=by
 intro pins s σ H Q I h
 exact isTrue_not (ha pins s σ H (λc H1=>Q (!c) H1) I h)
def Bx4 (ta tb:TE):TE:=λσ H Q=>ta σ H λx H1=>∃ c,x=.bl c/\if c=true then tb σ H1 Q else Q (.bl false) H1
def tOrV (ta tb:TE):TE:=λσ H Q=>ta σ H λx H1=>∃ c,x=.bl c/\if c=true then Q (.bl true) H1 else tb σ H1 Q
def Bx1 (ta:TE):TE:=λσ H Q=>ta σ H λx H1=>∃ c,x=.bl c/\Q (.bl (!c)) H1
theorem An6 {op} {t:TE} (h:PE X a t):PE X (.BoolOp op [a] pos) t:=λpins s σ H Q I hw=>BoolOp_one (h pins s σ H Q I hw)
theorem Al5 (ha:PE X a ta) (hb:PE X (.BoolOp .And (b::rest) pos) tb):PE X (.BoolOp .And (a::b::rest) pos) (Bx4 ta tb):=by
 intro pins s σ H Q I h
 refine BoolOp_and (thn (ha pins s σ H _ I h) λv s1 ⟨x,H1,I1,r1,q1⟩=>?_)
 obtain ⟨c,rfl,q1⟩:=q1
 cases r1
 refine wpAny_truthy_bool ?_
 cases c with
 | true=>exact hb pins s1 σ H1 Q I1 q1
 | false=>exact ⟨.bl false,H1,I1,rfl,q1⟩
theorem By2 (ha:PE X a ta) (hb:PE X (.BoolOp .Or (b::rest) pos) tb):PE X (.BoolOp .Or (a::b::rest) pos) (tOrV ta tb):=by
 intro pins s σ H Q I h
 refine BoolOp_or (thn (ha pins s σ H _ I h) λv s1 ⟨x,H1,I1,r1,q1⟩=>?_)
 obtain ⟨c,rfl,q1⟩:=q1
 cases r1
 refine wpAny_truthy_bool ?_
 cases c with
 | false=>exact hb pins s1 σ H1 Q I1 q1
 | true=>exact ⟨.bl true,H1,I1,rfl,q1⟩
theorem Bk9 (ha:PE X a ta):PE X (.UnaryOp .Not a pos) (Bx1 ta):=by
 intro pins s σ H Q I h
 refine UnaryOp_ (thn (ha pins s σ H _ I h) λv s1 ⟨x,H1,I1,r1,q1⟩=>?_)
 obtain ⟨c,rfl,q1⟩:=q1
 cases r1
 exact not_of (wpAny_truthy_bool ⟨.bl (!c),H1,I1,rfl,q1⟩)
def tIf (t:TT) (ta tb:TE):TE:=λσ H Q=>t σ H λc H1=>if c=true then ta σ H1 Q else tb σ H1 Q
theorem Aj8 {c:Expr} (hc:PT X c tA) (ha:PE X a ta) (hb:PE X b tb):PE X (.IfExp c a b pos) (tIf tA ta tb):=by
 intro pins s σ H Q I h
 refine wpAny_IfExp (thn (hc pins s σ H _ I h) λd s1 ⟨H1,I1,q1⟩=>?_)
 cases d with
 | true=>exact ha pins s1 σ H1 Q I1 q1
 | false=>exact hb pins s1 σ H1 Q I1 q1
end
end L2
namespace L2
open PySem PySem.Spec PyProof.Rows
def SqL (K:PySem.W.Frag) (H:Hp) (a:Addr) (xs:List V):Prop :=
 Rd H a (.lst xs) \/
  ∃ (o:Obj) (its:Array Value) (n:Nat),K.lookup a=some o/\o.cls=.type "list"/\o.dict=none/\o.data=.seq its n/\its.size<=sizeLine/\Vals xs its.toList
def SqT (K:PySem.W.Frag) (H:Hp) (a:Addr) (xs:List V):Prop :=
 Rd H a (.tup xs) \/
  ∃ (o:Obj) (its:Array Value) (n:Nat),K.lookup a=some o/\o.cls=.type "tuple"/\o.data=.seq its n/\its.size<=sizeLine/\Vals xs its.toList
def absV:Value->Option V
 | .none=>some .non
 | .bool b=>some (.bl b)
 | .int i _=>some (.int i)
 | .str x _=>some (.str x)
 | .bytes b _=>some (.byt b)
 | .float b _=>some (.flt b)
 | .ref a=>some (.ref a)
 | .type n=>some (.ty n)
 | _=>none
theorem RelV.abs {x:V} {u:Value} (r:RelV x u):absV u=some x:=by
 cases x with
 | non=>cases r; rfl
 | bl _=>cases r; rfl
 | int _=>obtain ⟨t,rfl⟩:=r; rfl
 | str _=>obtain ⟨t,rfl⟩:=r; rfl
 | byt _=>obtain ⟨t,rfl⟩:=r; rfl
 | flt _=>obtain ⟨t,rfl⟩:=r; rfl
 | ref _=>cases r; rfl
 | ty _=>cases r; rfl
theorem RelV.inj {x y:V} {u:Value} (r:RelV x u) (q:RelV y u):x=y:=Option.some.inj (r.abs.symm.trans q.abs)
theorem Vals.inj:∀ {xs ys:List V} {us:List Value},Vals xs us->Vals ys us->xs=ys
 | _,_,_,.nil,.nil=>rfl
 | _,_,_,.cons r t,.cons r' t'=>by rw [r.inj r',Vals.inj t t']
section
variable {X : Cx} {pins : List (Addr × Obj)} {σ : St} {H : Hp} {s : Shared} {a : Addr} {xs ys : List V}
theorem SqL.of {K:PySem.W.Frag} (h:H a=some (.lst xs)):SqL K H a xs:=.inl (.inl h)
theorem SqT.of {K:PySem.W.Frag} (h:H a=some (.tup xs)):SqT K H a xs:=.inl (.inl h)
theorem Inv.list (I:Inv X pins σ H s) (h:SqL X.K H a xs):∃ its:List Value,Vals xs its/\PlainL s.heap a its.toArray/\xs.length<=sizeLine:=by
 rcases h with h | ⟨o,its,n,hk,hc,hd,hs,hz,r⟩
 ·obtain ⟨z,its,n,r,e⟩:=h.ok I.hok
  exact ⟨its,r,⟨_,n,e,rfl,rfl,rfl⟩,z⟩
 ·refine ⟨its.toList,r,⟨o,n,I.kIn a o hk,hc,hd,by simpa using hs⟩,?_⟩
  have e:=r.length
  simp only [Array.length_toList] at e
  omega
theorem Inv.tuple (I:Inv X pins σ H s) (h:SqT X.K H a xs):∃ its:List Value,Vals xs its/\IsTup s.heap a its.toArray/\xs.length<=sizeLine:=by
 rcases h with h | ⟨o,its,n,hk,hc,hs,hz,r⟩
 ·obtain ⟨z,its,r,p⟩:=h.ok I.hok
  exact ⟨its,r,p,z⟩
 ·refine ⟨its.toList,r,⟨o,I.kIn a o hk,hc,n,by simpa using hs⟩,?_⟩
  have e:=r.length
  simp only [Array.length_toList] at e
  omega
theorem Inv.list_inj (I:Inv X pins σ H s) (h:SqL X.K H a xs) (h':SqL X.K H a ys):xs=ys:=by
 obtain ⟨its,r,⟨o,n,e,_,_,d⟩,_⟩:=I.list h
 obtain ⟨its',r',⟨o',n',e',_,_,d'⟩,_⟩:=I.list h'
 rw [e] at e'; cases e'
 rw [d] at d'
 injection d' with d1 _
 have:its=its':=by simpa using congrArg Array.toList d1
 subst this
 exact r.inj r'
theorem Inv.tuple_inj (I:Inv X pins σ H s) (h:SqT X.K H a xs) (h':SqT X.K H a ys):xs=ys:=by
 obtain ⟨its,r,⟨o,e,_,n,d⟩,_⟩:=I.tuple h
 obtain ⟨its',r',⟨o',e',_,n',d'⟩,_⟩:=I.tuple h'
 rw [e] at e'; cases e'
 rw [d] at d'
 injection d' with d1 _
 have:its=its':=by simpa using congrArg Array.toList d1
 subst this
 exact r.inj r'
end
abbrev Cx.wish (X:Cx) (E:Value->Shared->Prop):Cx:={ X with xe:=E }
abbrev Cx.nox (X:Cx):Cx:=X.wish λ_ _=>False
theorem Cx.Ok.wish {X:Cx} (ok:X.Ok) (E:Value->Shared->Prop):(X.wish E).Ok :=
 ⟨ok.mod,ok.kind,ok.glob,ok.blt,ok.above,ok.inj,ok.has,ok.cab,ok.hd,ok.frames,ok.stk,ok.exf,ok.bs,ok.bsz,ok.noex,ok.exfs,ok.funs,ok.frf⟩
theorem Cx.Ok.unwish {X:Cx} {E:Value->Shared->Prop} (ok:(X.wish E).Ok):X.Ok :=
 ⟨ok.mod,ok.kind,ok.glob,ok.blt,ok.above,ok.inj,ok.has,ok.cab,ok.hd,ok.frames,ok.stk,ok.exf,ok.bs,ok.bsz,ok.noex,ok.exfs,ok.funs,ok.frf⟩
section
variable {X : Cx} {pins : List (Addr × Obj)} {σ : St} {H : Hp} {s : Shared} {E : Value → Shared → Prop}
theorem Inv.wish (I:Inv X pins σ H s) (E:Value->Shared->Prop):Inv (X.wish E) pins σ H s:=⟨I.ok.wish E,I.os,I.bare,I.base,I.loc,I.cell,I.free,I.freeC,I.pin,I.hok,I.len⟩
theorem Inv.unwish (I:Inv (X.wish E) pins σ H s):Inv X pins σ H s:=⟨I.ok.unwish,I.os,I.bare,I.base,I.loc,I.cell,I.free,I.freeC,I.pin,I.hok,I.len⟩
theorem SP.unwish {D:Ends} {f:Flow} {s':Shared} (h:SP (X.wish E) pins D f s'):SP X pins D f s':=by
 cases f with
 | next=>obtain ⟨σ',H',I,q⟩:=h; exact ⟨σ',H',I.unwish,q⟩
 | brk=>obtain ⟨σ',H',I,q⟩:=h; exact ⟨σ',H',I.unwish,q⟩
 | cont=>obtain ⟨σ',H',I,q⟩:=h; exact ⟨σ',H',I.unwish,q⟩
 | ret u=>obtain ⟨v,σ',H',I,r,q⟩:=h; exact ⟨v,σ',H',I.unwish,r,q⟩
theorem PSs.nox {st:List Stmt} {t:TS} (h:PSs X.nox st t):PSs X st t:=λpins s σ H D I hw =>
 wpAny_mono (h pins s σ H D (I.wish _) hw) (λ_ _ q=>q.unwish) λ_ _ z=>False.elim z
end
section
variable {X : Cx} {st : Stmt} {rest : List Stmt} {t u : TS} {e : Expr} {te : TE} {pos : Pos}
def Br8:TS:=λD σ H=>D.nx σ H
def tSeq (t u:TS):TS:=λD σ H=>t { D with nx:=u D } σ H
theorem Ac4:PSs X [] Br8:=λ_ _ σ H _ I h=>wpAny_execs_nil ⟨σ,H,I,h⟩
theorem Aa5 (h1:PS X st t) (h2:PSs X rest u):PSs X (st::rest) (tSeq t u):=by
 intro pins s σ H D I h
 refine wpAny_execs_cons (thn (h1 pins s σ H { D with nx:=u D } I h) λf s1 q=>?_)
 cases f with
 | next =>
  obtain ⟨σ',H',I',q⟩:=q
  exact h2 pins s1 σ' H' D I' q
 | ret v=>exact q
 | brk=>exact q
 | cont=>exact q
theorem Aa6 (h1:PS X st t):PSs X [st] t:=by
 intro pins s σ H D I h
 refine wpAny_execs_cons (thn (h1 pins s σ H D I h) λf s1 q=>?_)
 cases f with
 | next=>exact wpAny_execs_nil q
 | ret v=>exact q
 | brk=>exact q
 | cont=>exact q
theorem Inv.quiet {pins:List (Addr×Obj)} {σ:St} {H:Hp} {s:Shared} (I:Inv X pins σ H s):interactive X.env=false:=by simp [interactive,I.ok.kind]
def Bx3 (te:TE):TS:=λD σ H=>te σ H λ_ H1=>D.nx σ H1
theorem Af3 (he:PE X e te) (hs:swapsWith e none pos.line X.env=pure false:=by rfl):PS X (.Expr e pos) (Bx3 te):=by
 intro pins s σ H D I h
 exact wpAny_Expr_any (thn (he pins s σ H _ I h) λv s1 ⟨x,H1,I1,r1,q1⟩=>⟨σ,H1,I1,q1⟩) I.quiet hs
def tRet (te:TE):TS:=λD σ H=>te σ H D.rt
theorem Ac3 (he:PE X e te):PS X (.Return (some e) pos) (tRet te):=by
 intro pins s σ H D I h
 exact wpAny_Return_some (thn (he pins s σ H _ I h) λv s1 ⟨x,H1,I1,r1,q1⟩=>⟨x,σ,H1,I1,r1,q1⟩)
def tIfS (c:TT) (t u:TS):TS:=λD σ H=>c σ H λb H1=>if b=true then t D σ H1 else u D σ H1
theorem Ae5 {c:Expr} {a b:List Stmt} {tc:TT} (hc:PT X c tc) (ha:PSs X a t) (hb:PSs X b u):PS X (.If c a b pos) (tIfS tc t u):=by
 intro pins s σ H D I h
 refine wpAny_If (thn (hc pins s σ H _ I h) λd s1 ⟨H1,I1,q1⟩=>?_)
 cases d with
 | true=>exact ha pins s1 σ H1 D I1 q1
 | false=>exact hb pins s1 σ H1 D I1 q1
def Bk6:TS:=λ_ _ _=>False
theorem Ag7:PS X st Bk6:=λ_ _ _ _ _ _ h=>h.elim
theorem Bc9 {sts:List Stmt}:PSs X sts Bk6:=λ_ _ _ _ _ _ h=>h.elim
end
abbrev TG:=V->St->Hp->(St->Hp->Prop)->Prop
abbrev TGs:=List V->St->Hp->(St->Hp->Prop)->Prop
def PG (X:Cx) (target:Expr) (t:TG):Prop :=
 ∀ (pins:List (Addr×Obj)) (s:Shared) (σ:St) (H:Hp) (v:V) (u:Value) (Q:St->Hp->Prop),Inv X pins σ H s->RelV v u->t v σ H Q ->
  wpAny (model X.prog X.w) X.A (assign target X.env u) (λ_ s'=>∃ σ' H',Inv X pins σ' H' s'/\Q σ' H') X.xe s
def PGs (X:Cx) (ts:List Expr) (t:TGs):Prop :=
 ∀ (pins:List (Addr×Obj)) (s:Shared) (σ:St) (H:Hp) (vs:List V) (us:List Value) (Q:St->Hp->Prop),Inv X pins σ H s->Vals vs us->t vs σ H Q ->
  wpAny (model X.prog X.w) X.A (assignInOrder ((assignEach ts X.env).map (·.2)) us) (λ_ s'=>∃ σ' H',Inv X pins σ' H' s'/\Q σ' H') X.xe s
abbrev TSet:=V->V->V->Hp->(Hp->Prop)->Prop
def PSet (X:Cx) (t:TSet):Prop :=
 ∀ (pins:List (Addr×Obj)) (s:Shared) (σ:St) (H:Hp) (o i v:V) (ov iv u:Value) (Q:Hp->Prop),Inv X pins σ H s->RelV o ov->RelV i iv->RelV v u->t o i v H Q ->
  wpAny (model X.prog X.w) X.A (setItem ov iv u) (λ_ s'=>∃ H',Inv X pins σ H' s'/\Q H') X.xe s
abbrev TIp:=V->V->Hp->VK->Prop
def PIp (X:Cx) (op:Operator) (t:TIp):Prop :=
 ∀ (pins:List (Addr×Obj)) (s:Shared) (σ:St) (H:Hp) (x y:V) (v u:Value) (Q:VK),Inv X pins σ H s->RelV x v->RelV y u->t x y H Q ->
  wpAny (model X.prog X.w) X.A (inplaceOp op v u) (EP X pins σ Q) X.xe s
section
variable {X : Cx} {pos : Pos}
def Bf5 (i:Nat):TG:=λv σ H Q=>Q (σ.set i (some v)) H
theorem Ae7 {i:Nat} {x:Str} (hN:X.N.Nodup) (hi:X.N[i]?=some x) (hx:Loc X.env.scope x) (hf:X.fn x=true\/X.env.scope.names.lookup x=some .local:=by first | exact .inl rfl | exact .inr rfl | assumption):PG X (.Name x pos) (Bf5 i):=by
 intro pins s σ H v u Q I r h
 exact wpAny_assign_Name (Ah6 I hN hi hx r (λs' I'=>⟨_,H,I',h⟩) hf)
def gNil:TGs:=λvs σ H Q=>vs=[]/\Q σ H
def By7 (t:TG) (u:TGs):TGs:=λvs σ H Q=>∃ v r,vs=v::r/\t v σ H λσ' H'=>u r σ' H' Q
theorem Ao9:PGs X [] gNil:=by
 intro pins s σ H vs us Q I r h
 obtain ⟨e,h⟩:=h
 subst e
 cases r
 exact assignInOrder_nil ⟨σ,H,I,h⟩
theorem Af1 {e:Expr} {es:List Expr} {t:TG} {u:TGs} (h1:PG X e t) (h2:PGs X es u)
  (hs:(assignEach (e::es) X.env).map (·.2)=assign e X.env::(assignEach es X.env).map (·.2):=by rfl):PGs X (e::es) (By7 t u):=by
 intro pins s σ H vs us Q I r h
 obtain ⟨v,vr,e1,h⟩:=h
 subst e1
 cases r with
 | cons r rr =>
  rw [hs]
  refine assignInOrder_cons (thn (h1 pins s σ H _ _ _ I r h) λ_ s1 ⟨σ1,H1,I1,q1⟩=>?_)
  exact h2 pins s1 σ1 H1 _ _ Q I1 rr q1
def gTup (K:PySem.W.Frag) (n:Nat) (t:TGs):TG:=λv σ H Q=>∃ a xs,v=.ref a/\SqT K H a xs/\xs.length=n/\t xs σ H Q
theorem Ay3 {es:List Expr} {k:Nat} {t:TGs} {n:Nat} (hc:X.calm=true) (h:PGs X es t)
  (hn:(assignEach es X.env).length=n:=by rfl) (hst:(assignEach es X.env).findIdx? (·.1)=none:=by rfl):PG X (.Tuple es k pos) (gTup X.K n t):=by
 intro pins s σ H v u Q I r hw
 obtain ⟨a,xs,e1,hq,hl,hw⟩:=hw
 subst e1
 cases r
 obtain ⟨its,rv,ht,hz⟩:=I.tuple hq
 refine assign_Tuple_tuple (I.ok.hd hc) ht (by simp [hn,<- hl,rv.length]) hst λh' hx=>?_
 have I1:Inv X pins σ H { s with heap:=h' }:=I.kept (t':=s.toks) λb o e=>hx b o (Nat.ne_of_lt (Heap.lt_size e)) e
 exact h pins _ σ H xs _ Q I1 (by simpa using rv) hw
def gSub (to ti:TE) (t:TSet):TG:=λv σ H Q=>to σ H λo H1=>ti σ H1 λi H2=>t o i v H2 λH3=>Q σ H3
theorem Aj4 {o i:Expr} {to ti:TE} {t:TSet} (ho:PE X o to) (hi:PE X i ti) (hs:PSet X t)
  (ha:∀ v,assign (.Subscript o i pos) X.env v=(do
   let ov <- holding [v] (eval o X.env)
   let iv <- holding [v,ov] (eval i X.env)
   standAt pos
   holding [v,ov,iv] (setItem ov iv v)
   release [v,ov,iv] []):=by intro _; rfl):PG X (.Subscript o i pos) (gSub to ti t):=by
 intro pins s σ H v u Q I r h
 rw [ha]
 refine wpAny_bind (wpAny_holding (thn (ho pins s σ H _ I h) λov s1 ⟨x,H1,I1,r1,q1⟩=>?_))
 refine wpAny_bind (wpAny_holding (thn (hi pins s1 σ H1 _ I1 q1) λiv s2 ⟨y,H2,I2,r2,q2⟩=>?_))
 refine wpAny_bind (wpAny_standAt (wpAny_bind (wpAny_holding (thn (hs pins s2 σ H2 x y v ov iv u _ I2 r1 r2 r q2) λ_ s3 ⟨H3,I3,q3⟩=>?_))))
 exact wpAny_release ⟨σ,H3,I3,q3⟩
def tAsg (te:TE) (g:TG):TS:=λD σ H=>te σ H λx H1=>g x σ H1 D.nx
theorem Ai1 {tg e:Expr} {te:TE} {g:TG} (he:PE X e te) (hg:PG X tg g) (hs:swapsWithSole [tg] e pos.line X.env=pure false:=by rfl) (hw:swappedStores [tg] e X.env=pure none:=by rfl)
  (h1:(assignEach [tg] X.env).map (·.2)=[assign tg X.env]:=by rfl):PS X (.Assign [tg] e pos) (tAsg te g):=by
 intro pins s σ H D I h
 refine wpAny_Assign_stores (thn (he pins s σ H _ I h) λv s1 ⟨x,H1,I1,r1,q1⟩=>?_) hs hw
 rw [h1]
 exact thn (hg pins s1 σ H1 x v _ I1 r1 q1) λ_ s2 q=>q
theorem Ae8 {i:Nat} {x:Str} {e:Expr} {te:TE} {pos':Pos} (hN:X.N.Nodup) (hi:X.N[i]?=some x) (hx:Loc X.env.scope x) (he:PE X e te) (hs:swapsWith e (some (.Name x pos')) pos.line X.env=pure false:=by rfl) (hf:X.fn x=true\/X.env.scope.names.lookup x=some .local:=by first | exact .inl rfl | exact .inr rfl | assumption) :
  PS X (.Assign [.Name x pos'] e pos) (tAsg te (Bf5 i)):=by
 intro pins s σ H D I h
 refine wpAny_Assign_Name (thn (he pins s σ H _ I h) λv s1 ⟨y,H1,I1,r1,q1⟩=>?_) hs
 exact Ah6 I1 hN hi hx r1 (λs2 I2=>⟨_,H1,I2,q1⟩) hf
def tAug (i:Nat) (te:TE) (ti:TIp):TS:=λD σ H=>∃ x,σ[i]?=some (some x)/\te σ H λy H1=>ti x y H1 λz H2=>D.nx (σ.set i (some z)) H2
theorem Bt4 {i:Nat} {x:Str} {e:Expr} {te:TE} {op:Operator} {ti:TIp} {pos':Pos} (hN:X.N.Nodup) (hi:X.N[i]?=some x) (hx:Loc X.env.scope x) (he:PE X e te) (ho:PIp X op ti) (hf:X.fn x=true\/X.env.scope.names.lookup x=some .local:=by first | exact .inl rfl | exact .inr rfl | assumption) :
  PS X (.AugAssign (.Name x pos') op e pos) (tAug i te ti):=by
 intro pins s σ H D I h
 obtain ⟨v,e1,h⟩:=h
 obtain ⟨m,hn,hl⟩:=I.loc
 have vis:Vis X.env.scope x:=by rcases hx with k | k; exact .inl k; exact .inr (.inl k)
 obtain ⟨u,r,l⟩:=hl i x v hi e1 vis
 refine wpAny_AugAssign_Name ?_
 have go:wpAny (model X.prog X.w) X.A (eval e X.env) (λw s₂=>wpAny (model X.prog X.w) X.A (inplaceOp op u w) (λr s₃=>wpAny (model X.prog X.w) X.A (storeName X.env x r) (λ_=>SP X pins D .next) X.xe s₃) X.xe s₂) X.xe s:=by
  refine thn (he pins s σ H _ I h) λw s1 ⟨y,H1,I1,r1,q1⟩=>?_
  refine thn (ho pins s1 σ H1 v y u w _ I1 r r1 q1) λz s2 ⟨zv,H2,I2,r2,q2⟩=>?_
  exact Ah6 I2 hN hi hx r2 (λs3 I3=>⟨_,H2,I3,q2⟩) hf
 rcases l with ⟨hk,hm⟩ | ⟨hk,c,hc,hcell⟩
 ·exact wpAny_loadName_local I.ok.kind hk hn hm go
 ·rcases hk with hk | hk
  ·exact wpAny_loadName_cell I.ok.kind hk hc hcell go
  ·rcases hx with k | k
   ·have:X.env.scope.names.lookup x=some .free:=hk
    rw [k] at this; cases this
   ·have:X.env.scope.names.lookup x=some .free:=hk
    rw [k] at this; cases this
def ipI (f:Int->Int->Int):TIp:=λx y H Q=>∃ i j,x=.int i/\y=.int j/\Q (.int (f i j)) H
theorem Bw0:PIp X .Add (ipI λi j=>i+j):=by
 intro pins s σ H x y v u Q I r1 r2 h
 obtain ⟨i,j,e1,e2,q⟩:=h
 subst e1; subst e2
 obtain ⟨t,rfl⟩:=r1
 obtain ⟨t',rfl⟩:=r2
 exact iadd_int ⟨.int _,H,I.tok _,⟨_,rfl⟩,q⟩
end
section
variable {X : Cx} {pos : Pos}
def Br6 (c:TT) (tb:TS):TS:=λD σ H=>∃ W:Nat->St->Hp->Prop,(∃ m,W m σ H)/\∀ m σ H,W m σ H ->
 c σ H λb H1=>if b=true then ∃ N:St->Hp->Prop,(∀ σ' H',N σ' H'->∃ m',m'<m/\W m' σ' H')/\tb { D with nx:=N,ct:=N,bk:=D.nx } σ H1 else D.nx σ H1
theorem Ay1 {c:Expr} {body:List Stmt} {tc:TT} {tb:TS} (hp:PassesOwn (model X.prog X.w) X.A X.env X.xe) (hc:PT X c tc) (hb:PSs X body tb):PS X (.While c body [] pos) (Br6 tc tb):=by
 intro pins s σ H D I h
 obtain ⟨W,⟨m0,w0⟩,turn⟩:=h
 refine wpAny_While (codeAny_whileLoop (λn s'=>∃ σ' H',Inv X pins σ' H' s'/\W n σ' H') ?_ m0 ⟨σ,H,I,w0⟩)
 rintro n s1 ⟨σ1,H1,I1,w1⟩
 refine wpAny_passesOwn hp (thn (hc pins s1 σ1 H1 _ I1 (turn n σ1 H1 w1)) λb s2 ⟨H2,I2,q2⟩=>?_)
 cases b with
 | true =>
  obtain ⟨N,hN,q2⟩:=q2
  rw [if_pos rfl]
  refine wpAny_passesOwn hp (thn (hb pins s2 σ1 H2 _ I2 q2) λf s3 q3=>?_)
  cases f with
  | next =>
   obtain ⟨σ3,H3,I3,n3⟩:=q3
   obtain ⟨m',hm,w3⟩:=hN σ3 H3 n3
   exact ⟨m',hm,σ3,H3,I3,w3⟩
  | cont =>
   obtain ⟨σ3,H3,I3,n3⟩:=q3
   obtain ⟨m',hm,w3⟩:=hN σ3 H3 n3
   exact ⟨m',hm,σ3,H3,I3,w3⟩
  | brk=>exact q3
  | ret v=>exact q3
 | false =>
  rw [if_neg Bool.false_ne_true]
  exact wpAny_execs_nil ⟨σ1,H2,I2,q2⟩
end
structure It where
 go:Nat->Hp->Prop
 yld:Nat->Hp->V->Hp->Prop
 stop:Nat->Hp->Prop
def FpOk (X:Cx) (pins:List (Addr×Obj)) (H:Hp) (b:Addr):Prop :=
 H b=none/\b≠X.env.locals/\b ∉ X.fs/\(b ∈ X.ex\/X.s₀.heap.objs.size<=b)/\(∀ x c,X.env.cells.lookup x=some c->c≠b)/\∀ p ∈ X.pn++pins,p.1≠b
theorem Inv.fpOk {X:Cx} {pins:List (Addr×Obj)} {σ:St} {H H':Hp} {s:Shared} {b:Addr} (I:Inv X pins σ H s) (hb:s.heap.objs.size<=b) (hn:H' b=none):FpOk X pins H' b:=by
 refine ⟨hn,Nat.ne_of_gt (Nat.lt_of_lt_of_le I.lt hb),I.nofs hb,.inr (Nat.le_trans I.sz hb),λx c e z=>?_,λp hp z=>?_⟩
 ·obtain ⟨v,q⟩:=I.cell x c e
  exact absurd (Nat.lt_of_lt_of_le q.lt (by rw [z]; exact hb)) (Nat.lt_irrefl _)
 ·exact absurd (Nat.lt_of_lt_of_le (Heap.lt_size (I.pin p hp).1) (by rw [z]; exact hb)) (Nat.lt_irrefl _)
structure Turn (P:Program) (w:World) (K:PySem.W.Frag) (tg:Expr) (J:It) (fp:List Addr) (it:Addr) (tn:Nat->Heap->Prop):Prop where
 mem:it ∈ fp
 obj:∀ i h,tn i h->∀ b ∈ fp,∃ o,h.get? b=some o/\∀ v,o.data≠.cell v
 keep:∀ i h h',tn i h->(∀ b ∈ fp,∀ o,h.get? b=some o->h'.get? b=some o)->tn i h'
 item:∀ (X:Cx),X.prog=P->X.w=w->X.K=K->X.calm=true->∀ (i:Nat) (pins:List (Addr×Obj)) (s:Shared) (σ:St) (H:Hp) (E:Value->Shared->Prop),Inv X pins σ H s->(∀ b ∈ fp,FpOk X pins H b)->tn i s.heap->J.go i H ->
  wpAny (model P w) X.A (pyNext (.ref it)) (λr s1=>∃ u,r=some u /\
   wpAny (model P w) X.A (letOwnedTupleGo tg (.ref it) u) (λ_ s2=>∃ x H',Inv X pins σ H' s2/\RelV x u/\J.yld i H x H'/\tn (i+1) s2.heap/\∀ b ∈ fp,H' b=none) E s1) E s
 done:∀ (X:Cx),X.prog=P->X.w=w->X.K=K->X.calm=true->∀ (i:Nat) (pins:List (Addr×Obj)) (s:Shared) (σ:St) (H:Hp) (E:Value->Shared->Prop),Inv X pins σ H s->(∀ b ∈ fp,FpOk X pins H b)->tn i s.heap->J.stop i H ->
  wpAny (model P w) X.A (pyNext (.ref it)) (λr s1=>r=none/\Inv X pins σ H s1) E s
 self:∀ (A:Around) (i:Nat) (s:Shared) (Q:Value->Shared->Prop) (E:Value->Shared->Prop),tn i s.heap->Q (.ref it) s->wpAny (model P w) A (pyIter (.ref it)) Q E s
abbrev TI:=St->Hp->(It->Hp->Prop)->Prop
def PIE (X:Cx) (pins:List (Addr×Obj)) (σ:St) (tg:Expr) (R:It->Hp->Prop) (itv:Value) (s2:Shared):Prop :=
 ∃ (it:Addr) (fp:List Addr) (tn:Nat->Heap->Prop) (J:It) (H':Hp),itv=.ref it/\Inv X pins σ H' s2/\Turn X.prog X.w X.K tg J fp it tn/\tn 0 s2.heap/\(∀ b ∈ fp,FpOk X pins H' b)/\R J H'
def PI (X:Cx) (tg iter:Expr) (wi:TI):Prop :=
 ∀ (pins:List (Addr×Obj)) (s:Shared) (σ:St) (H:Hp) (R:It->Hp->Prop),Inv X pins σ H s->wi σ H R ->
  wpAny (model X.prog X.w) X.A (eval iter X.env) (λv s1=>wpAny (model X.prog X.w) X.A (pyIter v) (PIE X pins σ tg R) X.xe s1) X.xe s
theorem Bw1 {M:Model} {A:Around} {E:Value->Shared->Prop} {s:Shared} {tg:Expr} {it:Addr} {u:Value} {o:Obj} {n:String} {vs:Array Value} {Q:Unit->Shared->Prop} (ho:s.heap.get? it=some o) (hc:o.cls=.type n) (hd:o.data=.fields vs)
  (hn:["enumerate","zip","dict_itemiterator","dict_reverseitemiterator","odict_iterator","itertools.zip_longest","itertools.pairwise"].contains n=false) (hQ:Q () s):wpAny M A (letOwnedTupleGo tg (.ref it) u) Q E s:=by
 unfold letOwnedTupleGo
 cases tg <;> first
  | exact wpAny_pure hQ
  | (cases u <;> first
    | exact wpAny_pure hQ
    | (refine wpAny_bind (wpAny_load ho ?_)
       rw [hc,hd]
       show wpAny M A (if (["enumerate","zip","dict_itemiterator","dict_reverseitemiterator","odict_iterator","itertools.zip_longest","itertools.pairwise"].contains n && vs[0]? == some (rawInt _))=true then _ else _) Q E s
       rw [if_neg (by intro h; rw [hn,Bool.false_and] at h; cases h)]
       exact wpAny_pure hQ))
def Itl (K:PySem.W.Frag) (a:Addr):It :=
 ⟨λi H=>∃ xs x,SqL K H a xs/\xs[i]?=some x,λi H x H'=>H'=H/\∀ xs,SqL K H a xs->xs[i]?=some x,λi H=>∃ xs,SqL K H a xs/\xs.length<=i⟩
def Itr (lo:Int) (n:Nat):It:=⟨λi _=>i<n,λi H x H'=>H'=H/\x=.int (lo+i),λi _=>n<=i⟩
theorem Bb5 {P:Program} {w:World} {K:PySem.W.Frag} {tg:Expr} (a it:Addr):Turn P w K tg (Itl K a) [it] it (λi h=>h.IsListIter it a i) where
 mem:=by simp
 obj:=λi h st b hb=>by
  have e:b=it:=by simpa using hb
  subst e
  obtain ⟨o,e,c,d⟩:=st
  exact ⟨o,e,λv z=>by rw [d] at z; cases z⟩
 keep:=λi h h' st k=>st.at λo e=>k it (by simp) o e
 item:=by
  intro X hP hw hK hc i pins s σ H E I hf st hg
  subst hP hw hK
  obtain ⟨xs,x,hq,hx⟩:=hg
  obtain ⟨its,rv,p,hz⟩:=I.list hq
  obtain ⟨u,hu,ru⟩:=rv.get hx
  obtain ⟨f0,f1,f2,f3,f4,f5⟩:=hf it (by simp)
  refine wpAny_pyNext_list_item st p.isList (x:=u) (by simpa using hu) λh' st' sb=>?_
  have I1:Inv X pins σ H { s with heap:=h' }:=I.turned (t':=s.toks) (λb o hb e=>(sb.2 b hb).trans e) f0 f1 f3 f4 f5
  obtain ⟨o,e,c,d⟩:=id st'
  exact ⟨u,rfl,Bw1 (s:={ s with heap:=h' }) e c d (by decide) ⟨x,H,I1,ru,⟨rfl,λys hy=>by rw [I.list_inj hy hq]; exact hx⟩,st',λb hb=>(hf b hb).1⟩⟩
 done:=by
  intro X hP hw hK hc i pins s σ H E I hf st hg
  subst hP hw hK
  obtain ⟨xs,hq,hx⟩:=hg
  obtain ⟨its,rv,p,hz⟩:=I.list hq
  obtain ⟨f0,f1,f2,f3,f4,f5⟩:=hf it (by simp)
  have hl:=rv.length
  exact wpAny_pyNext_list_end (I.ok.hd hc) st p.isList (by simp; omega) λh' eb=>⟨rfl,I.turned (t':=s.toks) (λb o hb e=>eb b o hb e) f0 f1 f3 f4 f5⟩
 self:=λ_ _ _ _ _ st h=>wpAny_pyIter_listiter st h
theorem Az3 {P:Program} {w:World} {K:PySem.W.Frag} {tg:Expr} (it:Addr) (lo:Int) (n:Nat):Turn P w K tg (Itr lo n) [it] it (λi h=>IsRangeIter h it (lo+(i:Nat) * 1) ((n:Int) - (i:Nat)) 1) where
 mem:=by simp
 obj:=λi h st b hb=>by
  have e:b=it:=by simpa using hb
  subst e
  exact ⟨_,st,λv z=>by
   have z':Data.fields _=Data.cell v:=z
   cases z'⟩
 keep:=λi h h' st k=>k it (by simp) _ st
 item:=by
  intro X hP hw hK hc i pins s σ H E I hf st hg
  subst hP hw hK
  obtain ⟨f0,f1,f2,f3,f4,f5⟩:=hf it (by simp)
  have W:=Walks.range (prog:=X.prog) (w:=X.w) (I.ok.hd hc) it lo 1 n
  refine W.item i s _ _ hg st λv h' tk hv st' kk=>?_
  obtain ⟨t,rfl⟩:=hv
  have I1:Inv X pins σ H { s with heap:=h',toks:=tk }:=I.turned (λb o hb e=>kk b o (by simpa using hb) e) f0 f1 f3 f4 f5
  refine ⟨_,rfl,Bw1 (s:={ s with heap:=h',toks:=tk }) (n:="range_iterator") st' rfl rfl (by decide) ⟨.int (lo+i),H,I1,⟨t,?_⟩,⟨rfl,rfl⟩,st',λb hb=>(hf b hb).1⟩⟩
  rw [Int.mul_one]
 done:=by
  intro X hP hw hK hc i pins s σ H E I hf st hg
  subst hP hw hK
  obtain ⟨f0,f1,f2,f3,f4,f5⟩:=hf it (by simp)
  exact wpAny_pyNext_range_end (I.ok.hd hc) st (by have:n<=i:=hg; omega) λh' eb=>⟨rfl,I.turned (t':=s.toks) (λb o hb e=>eb b o hb e) f0 f1 f3 f4 f5⟩
 self:=λ_ _ _ _ _ st h=>wpAny_pyIter_rangeiter st h
end L2
namespace L2
open PySem PySem.Spec PyProof.Rows
section
variable {X : Cx} {tg : Expr}
def By5 (K:PySem.W.Frag) (tl:TE):TI:=λσ H R=>tl σ H λx H1=>∃ a,x=.ref a/\(∃ xs,SqL K H1 a xs)/\R (Itl K a) H1
theorem Aj0 {l:Expr} {tl:TE} (hl:PE X l tl):PI X tg l (By5 X.K tl):=by
 intro pins s σ H R I h
 refine thn (hl pins s σ H _ I h) λv s1 ⟨x,H1,I1,r1,q1⟩=>?_
 obtain ⟨a,e,⟨xs,hq⟩,q⟩:=q1
 subst e
 cases r1
 obtain ⟨its,rv,p,hz⟩:=I1.list hq
 refine wpAny_pyIter_list p.isList ?_
 refine ⟨s1.heap.objs.size,[s1.heap.objs.size],_,_,H1,rfl,I1.kept (t':=s1.toks) λb o e=>Heap.get?_push_of_some _ e,Bb5 a _,⟨_,Heap.get?_push_size _ rfl,rfl,rfl⟩,λb hb=>?_,q⟩
 have e:b=s1.heap.objs.size:=by simpa using hb
 subst e
 exact I1.fpOk (Nat.le_refl _) (I1.hok.fresh (Nat.le_refl _))
theorem Bh2 {pins:List (Addr×Obj)} {σ:St} {H:Hp} {s:Shared} {R:It->Hp->Prop} {E:Value->Shared->Prop} {lo hi:Int} {t u v:Tok} {tk:Nat} (I:Inv X pins σ H s) (h1:-(2 ^ 62)<=lo) (h2:lo<2 ^ 62) (h3:-(2 ^ 62)<=hi) (h4:hi<2 ^ 62)
  (q:R (Itr lo (hi - lo).toNat) H):wpAny (model X.prog X.w) X.A (pyIter (.ref s.heap.objs.size)) (PIE X pins σ tg R) E { s with heap:=s.heap.push { cls:=.type "range",data:=.fields #[.int lo t,.int hi u,.int 1 v] },toks:=tk }:=by
 refine wpAny_pyIter_range (IsRange.new ..) (small_one h1 h2 h3 h4) ?_
 have I1:Inv X pins σ H { s with heap:=s.heap.push { cls:=.type "range",data:=.fields #[.int lo t,.int hi u,.int 1 v] },toks:=tk }:=I.kept λb o e=>Heap.get?_push_of_some _ e
 refine ⟨(s.heap.push { cls:=.type "range",data:=.fields #[.int lo t,.int hi u,.int 1 v] }).objs.size,[(s.heap.push { cls:=.type "range",data:=.fields #[.int lo t,.int hi u,.int 1 v] }).objs.size],_,_,H,rfl,
  I1.kept (t':=tk) λb o e=>Heap.get?_push_of_some _ e,Az3 _ lo (hi - lo).toNat,?_,λb hb=>?_,q⟩
 ·have e1:lo+((0:Nat):Int) * 1=lo:=by simp
  have e2:(((hi - lo).toNat:Nat):Int) - ((0:Nat):Int)=Builtin.Range.rangeSize lo hi 1:=by rw [rangeSize_one]; split <;> omega
  show IsRangeIter _ _ (lo+((0:Nat):Int) * 1) ((((hi - lo).toNat:Nat):Int) - ((0:Nat):Int)) 1
  rw [e1,e2]
  exact Heap.get?_push_size _ rfl
 ·have e:b=(s.heap.push { cls:=.type "range",data:=.fields #[.int lo t,.int hi u,.int 1 v] }).objs.size:=by simpa using hb
  subst e
  exact I1.fpOk (Nat.le_refl _) (I1.hok.fresh (Nat.le_refl _))
def By4 (ta:TA):TI:=λσ H R=>ta σ H λvs H1=>∃ j:Int,vs=[.int j]/\-(2 ^ 62)<=j/\j<2 ^ 62/\R (Itr 0 j.toNat) H1
theorem Bd1 {a:Expr} {ta:TA} {p pos:Pos} (hg:Gl X "range") (hm:X.mg "range"=none) (ha:PA X [a] ta) (hs:starEach [a] X.env=[(false,eval a X.env)]:=by rfl):PI X tg (.Call (.Name "range" p) [a] [] pos) (By4 ta):=by
 intro pins s σ H R I h
 refine Call_ (An8 I hg hm boot_range (PyProof.Rows.callWith_type1 (thn (ha pos pins s σ H _ I h) λus s1 ⟨vs,H1,I1,r1,q1⟩=>?_) hs rfl))
 obtain ⟨j,e,q1,q2,q⟩:=q1
 subst e
 cases r1 with
 | cons r rr =>
  cases rr
  obtain ⟨t,rfl⟩:=r
  exact call_range_1 (Bh2 I1 (by omega) (by omega) q1 q2 (by simpa using q))
def tFor (wi:TI) (g:TG) (tb:TS):TS:=λD σ H=>wi σ H λJ H1=>∃ W:Nat->Nat->St->Hp->Prop,(∃ m,W 0 m σ H1)/\∀ i m σ H,W i m σ H ->
 (J.stop i H/\D.nx σ H)\/(J.go i H/\∃ N:St->Hp->Prop,(∀ σ' H',N σ' H'->∃ m',m'<m/\W (i+1) m' σ' H')/\∀ x H',J.yld i H x H'->g x σ H' λσ2 H2=>tb { D with nx:=N,ct:=N,bk:=D.nx } σ2 H2)
def Al4 (fp:List Addr) (h:Heap):List (Addr×Obj):=fp.filterMap λb=>(h.get? b).map λo=>(b,o)
theorem Af6 {fp:List Addr} {h:Heap} {b:Addr} {o:Obj} (hb:b ∈ fp) (e:h.get? b=some o):(b,o) ∈ Al4 fp h:=List.mem_filterMap.mpr ⟨b,hb,by rw [e]; rfl⟩
theorem Be5 {fp:List Addr} {h:Heap} {p:Addr×Obj} (hp:p ∈ Al4 fp h):p.1 ∈ fp/\h.get? p.1=some p.2:=by
 obtain ⟨b,hb,e⟩:=List.mem_filterMap.mp hp
 cases q:h.get? b with
 | none=>rw [q] at e; cases e
 | some o =>
  rw [q] at e
  have e':(b,o)=p:=Option.some.inj e
  subst e'
  exact ⟨hb,q⟩
theorem Inv.pinned {pins:List (Addr×Obj)} {σ:St} {H:Hp} {s:Shared} {fp:List Addr} (I:Inv X pins σ H s) (hf:∀ b ∈ fp,FpOk X pins H b) (ho:∀ b ∈ fp,∃ o,s.heap.get? b=some o/\∀ v,o.data≠.cell v):Inv X (pins++Al4 fp s.heap) σ H s :=
 I.pins_of λp hp=>(List.mem_append.mp hp).elim (λz=>I.pin p (List.mem_append_right _ z)) λz=>by
  obtain ⟨hb,e⟩:=Be5 z
  obtain ⟨f0,f1,f2,_⟩:=hf p.1 hb
  obtain ⟨o,e',d⟩:=ho p.1 hb
  rw [e] at e'; cases e'
  exact ⟨e,f0,f1,f2,d⟩
theorem Inv.unpinned {pins pl:List (Addr×Obj)} {σ:St} {H:Hp} {s:Shared} (I:Inv X (pins++pl) σ H s):Inv X pins σ H s:=I.pins_of λp hp=>I.pin p (List.mem_append_right _ (List.mem_append_left _ hp))
theorem Aq2 {iter:Expr} {body:List Stmt} {wi:TI} {g:TG} {tb:TS} {pos:Pos} (hp:PassesOwn (model X.prog X.w) X.A X.env X.xe) (hc:X.calm=true) (hi:PI X tg iter wi) (hg:PG X tg g) (hb:PSs X body tb)
  (hs:∀ x,foldedSetIterable iter X.env x=pure x:=by intro _; rfl):PS X (.For tg iter body [] pos) (tFor wi g tb):=by
 intro pins s σ H D I h
 refine wpAny_For (thn (hi pins s σ H _ I h) λv s1 h1=>thn h1 λitv s2 h2=>?_) hs
 obtain ⟨it,fp,tn,J,H2,e,I2,T,st2,f2,W,⟨m0,w0⟩,turn⟩:=h2
 subst e
 have stat:∀ {H':Hp},(∀ b ∈ fp,H' b=none)->∀ b ∈ fp,FpOk X pins H' b:=λhn b hb=>⟨hn b hb,(f2 b hb).2⟩
 refine codeAny_forLoop_any (λn s'=>∃ i σ' H',Inv X pins σ' H' s'/\tn i s'.heap/\(∀ b ∈ fp,H' b=none)/\W i n σ' H') ?_ m0 ⟨0,σ,H2,I2,st2,λb hb=>(f2 b hb).1,w0⟩
 rintro n s3 ⟨i,σ3,H3,I3,st3,fr3,w3⟩
 rcases turn i n σ3 H3 w3 with ⟨stop,qn⟩ | ⟨go,N,hN,step⟩
 ·refine wpAny_passesOwn hp (thn (T.done X rfl rfl rfl hc i pins s3 σ3 H3 X.xe I3 (stat fr3) st3 stop) λr s4 ⟨hr,I4⟩=>?_)
  subst hr
  exact wpAny_execs_nil ⟨σ3,H3,I4,qn⟩
 ·refine wpAny_passesOwn hp (thn (T.item X rfl rfl rfl hc i pins s3 σ3 H3 X.xe I3 (stat fr3) st3 go) λr s4 ⟨u,hr,h4⟩=>?_)
  subst hr
  refine wpAny_passesOwn hp (thn h4 λ_ s5 ⟨x,H5,I5,r5,y5,st5,fr5⟩=>?_)
  have I5':=I5.pinned (stat fr5) (T.obj _ _ st5)
  refine wpAny_passesOwn hp (thn (hg _ s5 σ3 H5 x u _ I5' r5 (step x H5 y5)) λ_ s6 ⟨σ6,H6,I6,q6⟩=>?_)
  refine wpAny_passesOwn hp (thn (hb _ s6 σ6 H6 _ I6 q6) λf s7 q7=>?_)
  have again:∀ {σ7:St} {H7:Hp},Inv X (pins++Al4 fp s5.heap) σ7 H7 s7->N σ7 H7->∃ m,m<n/\∃ i σ' H',Inv X pins σ' H' s7/\tn i s7.heap/\(∀ b ∈ fp,H' b=none)/\W i m σ' H':=λ{σ7 H7} I7 n7=>by
   obtain ⟨m',hm,w7⟩:=hN σ7 H7 n7
   refine ⟨m',hm,i+1,σ7,H7,I7.unpinned,T.keep _ _ _ st5 λb hb o e=>(I7.pin (b,o) (List.mem_append_right _ (List.mem_append_right _ (Af6 hb e)))).1,λb hb=>?_,w7⟩
   obtain ⟨o,e,d⟩:=T.obj _ _ st5 b hb
   exact (I7.pin (b,o) (List.mem_append_right _ (List.mem_append_right _ (Af6 hb e)))).2.1
  cases f with
  | next=>obtain ⟨σ7,H7,I7,n7⟩:=q7; exact again I7 n7
  | cont=>obtain ⟨σ7,H7,I7,n7⟩:=q7; exact again I7 n7
  | brk=>obtain ⟨σ7,H7,I7,q7⟩:=q7; exact ⟨σ7,H7,I7.unpinned,q7⟩
  | ret v=>obtain ⟨x7,σ7,H7,I7,r7,q7⟩:=q7; exact ⟨x7,σ7,H7,I7.unpinned,r7,q7⟩
end
theorem Aj9 {K:PySem.W.Frag} {a:Addr} {xs:List V} {g:TG} {tb:TS} {D:Ends} {σ:St} {H:Hp} (Pv:Nat->St->Hp->Prop) (h0:Pv 0 σ H) (hl:∀ i σ H,i<=xs.length->Pv i σ H->SqL K H a xs)
  (hs:∀ i x σ H,xs[i]?=some x->Pv i σ H->g x σ H λσ2 H2=>tb { D with nx:=Pv (i+1),ct:=Pv (i+1),bk:=D.nx } σ2 H2) (hd:∀ σ H,Pv xs.length σ H->D.nx σ H) :
  ∃ W:Nat->Nat->St->Hp->Prop,(∃ m,W 0 m σ H)/\∀ i m σ H,W i m σ H ->
   ((Itl K a).stop i H/\D.nx σ H)\/((Itl K a).go i H/\∃ N:St->Hp->Prop,(∀ σ' H',N σ' H'->∃ m',m'<m/\W (i+1) m' σ' H')/\∀ x H',(Itl K a).yld i H x H'->g x σ H' λσ2 H2=>tb { D with nx:=N,ct:=N,bk:=D.nx } σ2 H2):=by
 refine ⟨λi m σ H=>m=xs.length - i/\i<=xs.length/\Pv i σ H,⟨xs.length,by simp,Nat.zero_le _,h0⟩,?_⟩
 rintro i m σ H ⟨rfl,hi,p⟩
 have q:=hl i σ H hi p
 by_cases hlt:i<xs.length
 ·refine .inr ⟨⟨xs,xs[i],q,by simp [hlt]⟩,Pv (i+1),λσ' H' p'=>⟨xs.length - (i+1),by omega,rfl,hlt,p'⟩,λx H' y=>?_⟩
  obtain ⟨e,y⟩:=y
  subst e
  exact hs i x σ _ (y xs q) p
 ·have e:i=xs.length:=by omega
  subst e
  exact .inl ⟨⟨xs,q,Nat.le_refl _⟩,hd σ H p⟩
end L2
namespace L2
open PySem PySem.Spec PyProof.Rows
abbrev R2:=V->V->Hp->VK->Prop
def OpR (X:Cx) (f:Value->Value->Sem Value) (r:R2):Prop :=
 ∀ (pins:List (Addr×Obj)) (s:Shared) (σ:St) (H:Hp) (x y:V) (v u:Value) (Q:VK),Inv X pins σ H s->RelV x v->RelV y u->r x y H Q ->
  wpAny (model X.prog X.w) X.A (f v u) (EP X pins σ Q) X.xe s
def Am9 (X:Cx) (f:Value) (r:List V->Hp->VK->Prop):Prop :=
 ∀ (pins:List (Addr×Obj)) (s:Shared) (σ:St) (H:Hp) (xs:List V) (us:List Value) (Q:VK),Inv X pins σ H s->Vals xs us->r xs H Q ->
  wpAny (model X.prog X.w) X.A (call f us) (EP X pins σ Q) X.xe s
def tOp (r:R2) (ta tb:TE):TE:=λσ H Q=>ta σ H λx H1=>tb σ H1 λy H2=>r x y H2 Q
def rI (C:Int->Int->Prop) (g:Int->Int->V):R2:=λx y H Q=>∃ i j,x=.int i/\y=.int j/\C i j/\Q (g i j) H
def rI0 (g:Int->Int->V):R2:=λx y H Q=>∃ i j,x=.int i/\y=.int j/\Q (g i j) H
section
variable {X : Cx} {a b c : Expr} {ta tb tc : TE} {pos : Pos}
theorem binT (ha:PE X a ta) (hb:PE X b tb) {pins:List (Addr×Obj)} {s:Shared} {σ:St} {H:Hp} {R:V->V->Hp->Prop} (I:Inv X pins σ H s)
  (h:ta σ H λx H1=>tb σ H1 λy H2=>R x y H2) {Q:Value->Shared->Prop} {f:Value->Value->Sem Value}
  (hf:∀ v u s2 x y H2,Inv X pins σ H2 s2->RelV x v->RelV y u->R x y H2->wpAny (model X.prog X.w) X.A (f v u) Q X.xe s2) :
  wpAny (model X.prog X.w) X.A (eval a X.env) (λv s₁=>wpAny (model X.prog X.w) X.A (eval b X.env) (λu s₂=>wpAny (model X.prog X.w) X.A (f v u) Q X.xe s₂) X.xe s₁) X.xe s:=by
 refine thn (ha pins s σ H _ I h) λv s1 ⟨x,H1,I1,r1,q1⟩=>?_
 refine thn (hb pins s1 σ H1 _ I1 q1) λu s2 ⟨y,H2,I2,r2,q2⟩=>?_
 exact hf v u s2 x y H2 I2 r1 r2 q2
theorem Ad9 {op:Operator} {r:R2} (ho:OpR X (binaryOp op) r) (ha:PE X a ta) (hb:PE X b tb):PE X (.BinOp a op b pos) (tOp r ta tb):=by
 intro pins s σ H Q I h
 exact wpAny_BinOp (binT ha hb I h λv u s2 x y H2 I2 rx ry q=>ho pins s2 σ H2 x y v u Q I2 rx ry q)
theorem opI {f:Value->Value->Sem Value} {C:Int->Int->Prop} {g:Int->Int->Int}
  (rule:∀ (i j:Int) (t u:Tok) (s:Shared) (Q:Value->Shared->Prop) (E:Value->Shared->Prop),C i j->Q (.int (g i j) s.toks) { s with toks:=s.toks+1 }->wpAny (model X.prog X.w) X.A (f (.int i t) (.int j u)) Q E s) :
  OpR X f (rI C λi j=>.int (g i j)):=by
 intro pins s σ H x y v u Q I rx ry h
 obtain ⟨i,j,rfl,rfl,hc,q⟩:=h
 obtain ⟨t,rfl⟩:=rx
 obtain ⟨t',rfl⟩:=ry
 exact rule i j t t' s _ _ hc ⟨.int (g i j),H,I.tok _,⟨_,rfl⟩,q⟩
theorem opI0 {f:Value->Value->Sem Value} {g:Int->Int->Int}
  (rule:∀ (i j:Int) (t u:Tok) (s:Shared) (Q:Value->Shared->Prop) (E:Value->Shared->Prop),Q (.int (g i j) s.toks) { s with toks:=s.toks+1 }->wpAny (model X.prog X.w) X.A (f (.int i t) (.int j u)) Q E s) :
  OpR X f (rI0 λi j=>.int (g i j)):=by
 intro pins s σ H x y v u Q I rx ry h
 obtain ⟨i,j,rfl,rfl,q⟩:=h
 obtain ⟨t,rfl⟩:=rx
 obtain ⟨t',rfl⟩:=ry
 exact rule i j t t' s _ _ ⟨.int (g i j),H,I.tok _,⟨_,rfl⟩,q⟩
theorem opB0 {f:Value->Value->Sem Value} {g:Int->Int->Bool}
  (rule:∀ (i j:Int) (t u:Tok) (s:Shared) (Q:Value->Shared->Prop) (E:Value->Shared->Prop),Q (.bool (g i j)) s->wpAny (model X.prog X.w) X.A (f (.int i t) (.int j u)) Q E s) :
  OpR X f (rI0 λi j=>.bl (g i j)):=by
 intro pins s σ H x y v u Q I rx ry h
 obtain ⟨i,j,rfl,rfl,q⟩:=h
 obtain ⟨t,rfl⟩:=rx
 obtain ⟨t',rfl⟩:=ry
 exact rule i j t t' s _ _ ⟨.bl (g i j),H,I,rfl,q⟩
def CDiv (i j:Int):Prop:=0<j/\j<1073741824
def CPow (i j:Int):Prop:=0<=j/\j<=1000000/\i.natAbs<2 ^ 64
def CMul (i j:Int):Prop:=(-(2 ^ 64)<i/\i<2 ^ 64)\/(-(2 ^ 64)<j/\j<2 ^ 64)
theorem CMul.ok {i j:Int} (h:CMul i j):IntMulOk i j:=by
 rcases h with ⟨h1,h2⟩ | ⟨h1,h2⟩
 ·exact .of_left (intBits_le_64 h1 h2)
 ·exact .of_right (intBits_le_64 h1 h2)
theorem Ah3:OpR X (binaryOp .Add) (rI0 λi j=>.int (i+j)):=opI0 λ_ _ _ _ _ _ _ q=>add_int q
theorem Ay6:OpR X (binaryOp .Sub) (rI0 λi j=>.int (i - j)):=opI0 λ_ _ _ _ _ _ _ q=>sub_int q
theorem Bu2:OpR X (binaryOp .Mult) (rI CMul λi j=>.int (i * j)):=opI λ_ _ _ _ _ _ _ hc q=>mul_int q hc.ok
theorem Bo8:OpR X (binaryOp .FloorDiv) (rI CDiv λi j=>.int (i / j)):=opI λi j _ _ _ _ _ hc q=>by
 have h1:(0:Int)<j:=hc.1
 have h2:j<1073741824:=hc.2
 exact floordiv_int (by omega) (by rw [Int.fdiv_eq_ediv_of_nonneg i (by omega)]; exact q) (.inl (PyProof.noPylong_small (by omega)))
theorem Ai2:OpR X (binaryOp .Mod) (rI (λ_ j=>0<j) λi j=>.int (i % j)):=opI λi j _ _ _ _ _ hc q=>by
 have h1:(0:Int)<j:=hc
 exact mod_int' (by omega) (by rw [Int.fmod_eq_emod_of_nonneg i (by omega)]; exact q)
theorem Bd5:OpR X (binaryOp .Pow) (rI CPow λi j=>.int (i ^ j.toNat)):=opI λ_ _ _ _ _ _ _ hc q=>pow_int_small hc.1 hc.2.1 hc.2.2 q
theorem Bl3:OpR X (binaryOp .BitAnd) (rI0 λi j=>.int (Builtin.bitAnd i j)):=opI0 λ_ _ _ _ _ _ _ q=>and_int q
theorem Bl0:OpR X (binaryOp .BitXor) (rI0 λi j=>.int (Builtin.bitXor i j)):=opI0 λ_ _ _ _ _ _ _ q=>xor_int q
end
def scal:V->V->Bool
 | .non,.non=>true | .non,.int _=>true | .int _,.non=>true | .non,.bl _=>true | .bl _,.non=>true | .non,.str _=>true | .str _,.non=>true
 | .int _,.int _=>true | .bl _,.bl _=>true | .str _,.str _=>true | .byt _,.byt _=>true
 | .int _,.str _=>true | .str _,.int _=>true | .bl _,.str _=>true | .str _,.bl _=>true
 | _,_=>false
def rEq:R2:=λx y H Q=>scal x y=true/\Q (.bl (decide (x=y))) H
def rNe:R2:=λx y H Q=>scal x y=true/\Q (.bl (!decide (x=y))) H
theorem Bf8 {i j:Int}:decide (V.int i=V.int j)=(i == j):=by
 rw [Bool.eq_iff_iff]
 simp
theorem Bl7 {i j:Bool}:decide (V.bl i=V.bl j)=(i == j):=by
 rw [Bool.eq_iff_iff]
 simp
theorem Bf7 {i j:Str}:decide (V.str i=V.str j)=(i == j):=by
 rw [Bool.eq_iff_iff]
 simp
theorem Bf9 {i j:Array UInt8}:decide (V.byt i=V.byt j)=(i.toList == j.toList):=by
 rw [Bool.eq_iff_iff]
 cases i
 cases j
 simp
section
variable {X : Cx} {a b c : Expr} {ta tb tc : TE} {pos : Pos}
theorem Ac9 {pins:List (Addr×Obj)} {σ:St} {H:Hp} {s:Shared} {Q:VK} {k k':Bool} (I:Inv X pins σ H s) (q:Q (.bl k) H) (e:k=k'):EP X pins σ Q (.bool k') s:=by
 subst e
 exact ⟨.bl k,H,I,rfl,q⟩
theorem Ag8:OpR X (compareOp .Eq) rEq:=by
 intro pins s σ H x y v u Q I rx ry h
 obtain ⟨hs,q⟩:=h
 cases x with
 | non =>
  cases rx
  cases y with
  | non=>cases ry; exact PySem.EqNone.eq_none_none (Ac9 I q (by simp))
  | bl j=>cases ry; exact PySem.EqNone.eq_none_bool (Ac9 I q (by simp))
  | int j=>obtain ⟨t',rfl⟩:=ry; exact PySem.EqNone.eq_none_int (Ac9 I q (by simp))
  | str j=>obtain ⟨t',rfl⟩:=ry; exact PySem.EqNone.eq_none_str (Ac9 I q (by simp))
  | _=>exact absurd (show false=true from hs) Bool.false_ne_true
 | bl i =>
  cases rx
  cases y with
  | non=>cases ry; exact PySem.EqNone.eq_bool_none (Ac9 I q (by simp))
  | bl j=>cases ry; exact eq_bool (Ac9 I q Bl7)
  | str j=>obtain ⟨t',rfl⟩:=ry; exact PySem.EqMixed.eq_bool_str (Ac9 I q (by simp))
  | _=>exact absurd (show false=true from hs) Bool.false_ne_true
 | int i =>
  obtain ⟨t,rfl⟩:=rx
  cases y with
  | non=>cases ry; exact PySem.EqNone.eq_int_none (Ac9 I q (by simp))
  | int j=>obtain ⟨t',rfl⟩:=ry; exact eq_int (Ac9 I q Bf8)
  | str j=>obtain ⟨t',rfl⟩:=ry; exact PySem.EqMixed.eq_int_str (Ac9 I q (by simp))
  | _=>exact absurd (show false=true from hs) Bool.false_ne_true
 | str i =>
  obtain ⟨t,rfl⟩:=rx
  cases y with
  | non=>cases ry; exact PySem.EqNone.eq_str_none (Ac9 I q (by simp))
  | bl j=>cases ry; exact PySem.EqMixed.eq_str_bool (Ac9 I q (by simp))
  | int j=>obtain ⟨t',rfl⟩:=ry; exact PySem.EqMixed.eq_str_int (Ac9 I q (by simp))
  | str j=>obtain ⟨t',rfl⟩:=ry; exact eq_str (Ac9 I q Bf7)
  | _=>exact absurd (show false=true from hs) Bool.false_ne_true
 | byt i =>
  obtain ⟨t,rfl⟩:=rx
  cases y with
  | byt j=>obtain ⟨t',rfl⟩:=ry; exact PySem.W.eq_bytes (Ac9 I q Bf9)
  | _=>exact absurd (show false=true from hs) Bool.false_ne_true
 | _=>cases y <;> exact absurd (show false=true from hs) Bool.false_ne_true
theorem Bo6:OpR X (compareOp .NotEq) rNe:=by
 intro pins s σ H x y v u Q I rx ry h
 obtain ⟨hs,q⟩:=h
 cases x with
 | non =>
  cases rx
  cases y with
  | non=>cases ry; exact PySem.EqNone.ne_none_none (Ac9 I q (by simp))
  | bl j=>cases ry; exact PySem.EqNone.ne_none_bool (Ac9 I q (by simp))
  | int j=>obtain ⟨t',rfl⟩:=ry; exact PySem.EqNone.ne_none_int (Ac9 I q (by simp))
  | str j=>obtain ⟨t',rfl⟩:=ry; exact PySem.EqNone.ne_none_str (Ac9 I q (by simp))
  | _=>exact absurd (show false=true from hs) Bool.false_ne_true
 | bl i =>
  cases rx
  cases y with
  | non=>cases ry; exact PySem.EqNone.ne_bool_none (Ac9 I q (by simp))
  | bl j=>cases ry; exact ne_bool (Ac9 I q (congrArg not Bl7))
  | str j=>obtain ⟨t',rfl⟩:=ry; exact PySem.EqMixed.ne_bool_str (Ac9 I q (by simp))
  | _=>exact absurd (show false=true from hs) Bool.false_ne_true
 | int i =>
  obtain ⟨t,rfl⟩:=rx
  cases y with
  | non=>cases ry; exact PySem.EqNone.ne_int_none (Ac9 I q (by simp))
  | int j=>obtain ⟨t',rfl⟩:=ry; exact ne_int (Ac9 I q (congrArg not Bf8))
  | str j=>obtain ⟨t',rfl⟩:=ry; exact PySem.EqMixed.ne_int_str (Ac9 I q (by simp))
  | _=>exact absurd (show false=true from hs) Bool.false_ne_true
 | str i =>
  obtain ⟨t,rfl⟩:=rx
  cases y with
  | non=>cases ry; exact PySem.EqNone.ne_str_none (Ac9 I q (by simp))
  | bl j=>cases ry; exact PySem.EqMixed.ne_str_bool (Ac9 I q (by simp))
  | int j=>obtain ⟨t',rfl⟩:=ry; exact PySem.EqMixed.ne_str_int (Ac9 I q (by simp))
  | str j=>obtain ⟨t',rfl⟩:=ry; exact ne_str (Ac9 I q (congrArg not Bf7))
  | _=>exact absurd (show false=true from hs) Bool.false_ne_true
 | byt i =>
  obtain ⟨t,rfl⟩:=rx
  cases y with
  | byt j=>obtain ⟨t',rfl⟩:=ry; exact PySem.W.ne_bytes (Ac9 I q (congrArg not Bf9))
  | _=>exact absurd (show false=true from hs) Bool.false_ne_true
 | _=>cases y <;> exact absurd (show false=true from hs) Bool.false_ne_true
theorem Bi0:OpR X (compareOp .Lt) (rI0 λi j=>.bl (decide (i<j))):=opB0 λ_ _ _ _ _ _ _ q=>lt_int q
theorem Av3:OpR X (compareOp .LtE) (rI0 λi j=>.bl (decide (i<=j))):=opB0 λ_ _ _ _ _ _ _ q=>le_int q
theorem Bo7:OpR X (compareOp .GtE) (rI0 λi j=>.bl (decide (j<=i))):=opB0 λ_ _ _ _ _ _ _ q=>ge_int q
theorem Bd8:OpR X (compareOp .Is) (λx y H Q=>y=.non/\Q (.bl (decide (x=.non))) H):=by
 intro pins s σ H x y v u Q I rx ry h
 obtain ⟨rfl,q⟩:=h
 cases ry
 refine is_none_gen (Ac9 I q ?_)
 cases x <;> first
  | (cases rx; rfl)
  | (obtain ⟨t,rfl⟩:=rx; rfl)
theorem Bo5:OpR X (compareOp .IsNot) (λx y H Q=>y=.non/\Q (.bl (!decide (x=.non))) H):=by
 intro pins s σ H x y v u Q I rx ry h
 obtain ⟨rfl,q⟩:=h
 cases ry
 refine isnot_none_gen (Ac9 I q ?_)
 cases x <;> first
  | (cases rx; rfl)
  | (obtain ⟨t,rfl⟩:=rx; rfl)
theorem Ac7 (b:Expr) {op:CmpOp} (h:op≠.In:=by decide) (h2:op≠.NotIn:=by decide):behindInMarks op b=false:=by
 have e1:(op == CmpOp.In)=false:=by cases op <;> first | rfl | exact absurd rfl h
 have e2:(op == CmpOp.NotIn)=false:=by cases op <;> first | rfl | exact absurd rfl h2
 cases b <;> simp [behindInMarks,e1,e2]
theorem Aj1 {op:CmpOp} {r:R2} (ho:OpR X (compareOp op) r) (ha:PE X a ta) (hb:PE X b tb) (hm:behindInMarks op b=false):PE X (.Compare a [op] [b] pos) (tOp r ta tb):=by
 intro pins s σ H Q I h
 exact wpAny_Compare1 (binT ha hb I h λv u s2 x y H2 I2 rx ry q=>ho pins s2 σ H2 x y v u Q I2 rx ry q) hm
def Bl9 (t:TE):TT:=λσ H Q=>t σ H λx H'=>∃ k,x=.bl k/\Q k H'
theorem Ac2 {op:CmpOp} {r:R2} (ho:OpR X (compareOp op) r) (ha:PE X a ta) (hb:PE X b tb) (hm:behindInMarks op b=false):PT X (.Compare a [op] [b] pos) (Bl9 (tOp r ta tb)):=by
 intro pins s σ H Q I h
 refine wpAny_isTrue_Compare1 (thn (ha pins s σ H _ I h) λv s1 ⟨x,H1,I1,r1,q1⟩=>thn (hb pins s1 σ H1 _ I1 q1) λu s2 ⟨y,H2,I2,r2,q2⟩ =>
  thn (ho pins s2 σ H2 x y v u _ I2 r1 r2 q2) λc s3 ⟨z,H3,I3,r3,k,e,q3⟩=>?_) hm
 subst e
 cases r3
 exact wpAny_truthy_bool ⟨H3,I3,q3⟩
def Bk7 (r r':R2) (ta tb tc:TE):TE:=λσ H Q=>ta σ H λx H1=>tb σ H1 λy H2=>r x y H2 λz H3=>∃ k,z=.bl k /\
 (if k=true then tc σ H3 λw' H4=>r' y w' H4 Q else Q (.bl false) H3)
theorem Bh8 {op op':CmpOp} {r r':R2} (ho:OpR X (compareOp op) r) (ho':OpR X (compareOp op') r') (ha:PE X a ta) (hb:PE X b tb) (hc:PE X c tc)
  (hm:lastMarks [op,op'] [b,c]=false:=by with_unfolding_all rfl):PE X (.Compare a [op,op'] [b,c] pos) (Bk7 r r' ta tb tc):=by
 intro pins s σ H Q I h
 refine Compare_chain (thn (ha pins s σ H _ I h) λv s1 ⟨x,H1,I1,r1,q1⟩=>chain_link (thn (hb pins s1 σ H1 _ I1 q1) λu s2 ⟨y,H2,I2,r2,q2⟩ =>
  thn (ho pins s2 σ H2 x y v u _ I2 r1 r2 q2) λd s3 ⟨z,H3,I3,r3,k,e,q3⟩=>?_)) hm
 subst e
 cases r3
 refine wpAny_truthy_bool ?_
 cases k with
 | false=>exact ite_ff ⟨.bl false,H3,I3,rfl,q3⟩
 | true=>exact ite_tt (chain_last (thn (hc pins s3 σ H3 _ I3 q3) λw' s4 ⟨z',H4,I4,r4,q4⟩=>ho' pins s4 σ H4 y z' u w' Q I4 r2 r4 q4))
theorem Ao8 {op op':CmpOp} {r r':R2} (ho:OpR X (compareOp op) r) (ho':OpR X (compareOp op') r') (ha:PE X a ta) (hb:PE X b tb) (hc:PE X c tc)
  (hm:lastMarks [op,op'] [b,c]=false:=by with_unfolding_all rfl):PT X (.Compare a [op,op'] [b,c] pos) (Bl9 (Bk7 r r' ta tb tc)):=by
 intro pins s σ H Q I h
 refine isTrue_chain (thn (ha pins s σ H _ I h) λv s1 ⟨x,H1,I1,r1,q1⟩=>test_link (thn (hb pins s1 σ H1 _ I1 q1) λu s2 ⟨y,H2,I2,r2,q2⟩ =>
  thn (ho pins s2 σ H2 x y v u _ I2 r1 r2 q2) λd s3 ⟨z,H3,I3,r3,k,e,q3⟩=>?_)) hm
 subst e
 cases r3
 refine wpAny_truthy_bool ?_
 cases k with
 | false =>
  obtain ⟨k',e',q'⟩:=q3
  cases e'
  exact ite_ff ⟨H3,I3,q'⟩
 | true =>
  refine ite_tt (test_last (thn (hc pins s3 σ H3 _ I3 q3) λw' s4 ⟨z',H4,I4,r4,q4⟩=>thn (ho' pins s4 σ H4 y z' u w' _ I4 r2 r4 q4) λd' s5 ⟨z2,H5,I5,r5,k2,e2,q5⟩=>?_))
  subst e2
  cases r5
  exact wpAny_truthy_bool ⟨H5,I5,q5⟩
theorem Az0:(sizeLine:Nat)<2 ^ 63:=by rw [sizeLine_eq]; decide
theorem Br5 {x:V} {us:List Value} (r:Vals [x] us):∃ u,us=[u]/\RelV x u:=by
 cases r with
 | cons r1 r2=>cases r2; exact ⟨_,rfl,r1⟩
end
end L2
namespace L2
open PySem PySem.Spec PyProof.Rows
structure ObjM (h:Heap) (x dx C:Addr) (mA:Str->Option Value):Prop where
 obj:h.get? x=some (PySem.W.instObj C dx)
 ns:h.Ns1 dx mA
 ne:dx≠x
theorem Be8 {h:Heap} {dx:Addr} {mA:Str->Option Value} (n:h.Ns1 dx mA):∃ od,h.get? dx=some od/\∀ name,PySem.W.lookIn name od=some (mA name):=by
 obtain ⟨o,es,ep,ho,hd,hk,_,hm⟩:=n
 refine ⟨o,ho,λname=>?_⟩
 have e:=hm name
 unfold nsFind findBy at e
 rw [<- Array.find?_toList] at e
 unfold PySem.W.lookIn
 rw [hd]
 dsimp only
 split
 ·rename_i y q
  rw [q] at e
  exact congrArg some e
 ·rename_i q
  rw [q] at e
  have a:es.toList.any (·.refKey)=false:=by
   rw [List.any_eq_false]
   intro y hy
   obtain ⟨z,t,hkey⟩:=hk y (Array.mem_toList_iff.mp hy)
   simp [DictEntry.refKey,hkey]
  have a':¬ es.toList.any (·.refKey)=true:=by rw [a]; exact Bool.false_ne_true
  rw [if_neg a']
  exact congrArg some e
theorem ObjM.look {h:Heap} {x dx C:Addr} {mA:Str->Option Value} (I:ObjM h x dx C mA):∃ od,PySem.W.InstAt h x (PySem.W.instObj C dx) C (some od)/\∀ name,PySem.W.lookIn name od=some (mA name) :=
 let ⟨od,ho,hl⟩:=Be8 I.ns
 ⟨od,⟨I.obj,rfl,rfl,ho⟩,hl⟩
section
variable {prog : Program} {w : World} {A : Around} {E : Value → Shared → Prop} {s : Shared} {K : PySem.W.Frag} {x dx C f : Addr} {mA : Str → Option Value} {name : Str} {v : Value}
theorem Bq6 {expr:Bool} {Q:Value->Shared->Prop} (X:K.In s.heap) (I:ObjM s.heap x dx C mA) (hg:PySem.W.plainGet K C name=true) (hh:PySem.W.hasDictIn K C=true)
  (ha:PySem.W.findIn K (.ref C) name=some none) (hv:mA name=some v) (hv':PySem.W.handedIn v=true) (h:Q v { s with toks:=s.toks+1 }) :
  wpAny (model prog w) A (getAttr (.ref x) name expr) Q E s:=by
 obtain ⟨od,J,hl⟩:=I.look
 exact PySem.W.get_value X J (PySem.W.plainGet_of hg).1 (PySem.W.findObj_own hh ha rfl (by rw [hl,hv])) hv' h
theorem Bj8 {pl:Sem Bool} {Q:Value×List Value->Shared->Prop} (X:K.In s.heap) (I:ObjM s.heap x dx C mA) (hg:PySem.W.plainGet K C name=true)
  (hf:PySem.W.findIn K (.ref C) name=some (some (.ref f))) (ht:PySem.W.isFn K (.ref f)=true) (hv:mA name=none) (h:Q (.ref f,[.ref x]) s) :
  wpAny (model prog w) A (getMethod (.ref x) name pl) Q E s:=by
 obtain ⟨od,J,hl⟩:=I.look
 exact PySem.W.method_fn X J (PySem.W.plainGet_of hg).1 (PySem.W.plainGet_of hg).2 hf (beq_iff_eq.mp ht) (by show (PySem.W.lookIn name od).map (·.isSome)=some false; rw [hl,hv]; rfl) h
theorem Bn1 {ns:List Str} {Q:Unit->Shared->Prop} (X:K.In s.heap) (I:ObjM s.heap x dx C mA)
  (hs:PySem.W.findIn K (.ref C) "__setattr__"=some (some (.builtin "object.__setattr__"))) (hp:PySem.W.plainOver K C=true) (ht:PySem.W.takerIn K C name=some none) (hh:PySem.W.hasDictIn K C=true)
  (hw:PySem.Within mA ns) (hsz:ns.length<=sizeLine)
  (h:∀ h',ObjM h' x dx C (λy=>if y=name then some v else mA y)->Heap.SameBut dx s.heap h'->Q () { s with heap:=h',toks:=s.toks+2 }) :
  wpAny (model prog w) A (setAttr (.ref x) name v) Q E s:=by
 obtain ⟨od,J,hl⟩:=I.look
 refine PySem.W.set_plain X J hs (PySem.W.osa_open (s:={ s with toks:=s.toks+1 }) (r:=none) X J hp ht λb=>?_)
 obtain ⟨cd,hc,hd'⟩:=PySem.W.any_some hh
 have hx:s.heap.get? x=some ⟨.ref C,some dx,.plain,#[]⟩:=I.obj
 refine wpAny_bind (wpAny_pure (wpAny_bind (wpAny_bind (wpAny_loadPart hx (wpAny_bind (PySem.W.Looks.here (s:={ s with toks:=s.toks+1 }) (PySem.W.looks_clsIn X hc) ?_))))))
 rw [hd']
 refine wpAny_pure (a:=some dx) (wpAny_bind (wpAny_pure (wpAny_bind ?_)))
 refine wpAny_nsSet1 (s:={ s with toks:=s.toks+1 }) I.ns λh' hn2 hs2=>?_
 obtain ⟨oD,esD,epD,hoD,hdD,hcD⟩:=hn2.count (PySem.Within.cons name v hw)
 refine wpAny_bind (wpAny_lookBehind hoD (by rw [hdD]; exact pastItsLine_dict (Nat.le_trans hcD (by rw [List.length_cons]; omega))) ?_)
 exact wpAny_pure (h _ ⟨(hs2.2 _ (Ne.symm I.ne)).trans I.obj,hn2,I.ne⟩ hs2)
theorem Bj5 {R:Result->Shared->Prop} {vs:List Value} {kw:List (Str×Value)} (X:K.In s.heap) (hm:PySem.W.makesIn K C=true)
  (hi:PySem.W.findIn K (.ref C) "__init__"=some (some (.ref f))) (hf:PySem.W.typeIn K (.ref f)=some (.type "function"))
  (h:codeAny (model prog w) (A.under (.builtin "type.__call__" ⟨.ref C::vs,kw⟩)) (.call (.ref f) ⟨.ref (s.heap.objs.size+1)::vs,kw⟩) (PySem.W.InitBack (s.heap.objs.size+1) R)
   { s with heap:=(s.heap.push PySem.W.emptyDict).push (PySem.W.instObj C s.heap.objs.size) }) :
  codeAny (model prog w) A (.call (.ref C) ⟨vs,kw⟩) R s:=by
 obtain ⟨hh,g,d,t,os⟩:=s
 exact PySem.W.make_core (PySem.W.makes_of X hm) (PySem.W.looks_findIn X hi) (λself=>PySem.W.bind_fn X self hf) (.inl rfl) h
end
def putF (f:Str) (v:V):List (Str×V)->List (Str×V)
 | []=>[(f,v)]
 | (g,x)::r=>if g=f then (g,v)::r else (g,x)::putF f v r
theorem Aa2 (f g:Str) (v:V):∀ fs:List (Str×V),(putF f v fs).lookup g=if g=f then some v else fs.lookup g
 | []=>by
  show List.lookup g [(f,v)]=_
  by_cases h:g=f
  ·have hb:(g == f)=true:=beq_iff_eq.mpr h
   simp only [List.lookup,hb,if_pos h]
  ·have hb:(g == f)=false:=beq_eq_false_iff_ne.mpr h
   simp only [List.lookup,hb,if_neg h]
 | (k,x)::r=>by
  have ih:=Aa2 f g v r
  rw [show putF f v ((k,x)::r)=(if k=f then (k,v)::r else (k,x)::putF f v r) from rfl]
  by_cases hk:k=f
  ·rw [if_pos hk]
   by_cases h:g=k
   ·have hb:(g == k)=true:=beq_iff_eq.mpr h
    simp only [List.lookup,hb,if_pos (h.trans hk)]
   ·have hb:(g == k)=false:=beq_eq_false_iff_ne.mpr h
    simp only [List.lookup,hb,if_neg (λe:g=f=>h (e.trans hk.symm))]
  ·rw [if_neg hk]
   by_cases h:g=k
   ·have hb:(g == k)=true:=beq_iff_eq.mpr h
    simp only [List.lookup,hb,if_neg (λe:g=f=>hk (h.symm.trans e))]
   ·have hb:(g == k)=false:=beq_eq_false_iff_ne.mpr h
    simp only [List.lookup,hb]
    exact ih
theorem Am1 (f:Str) (v:V):∀ fs:List (Str×V),f ∈ (putF f v fs).map (·.1)/\∀ g,g ∈ fs.map (·.1)->g ∈ (putF f v fs).map (·.1)
 | []=>⟨by simp [putF],λg h=>by simp at h⟩
 | (k,x)::r=>by
  obtain ⟨i1,i2⟩:=Am1 f v r
  rw [show putF f v ((k,x)::r)=(if k=f then (k,v)::r else (k,x)::putF f v r) from rfl]
  by_cases hk:k=f
  ·rw [if_pos hk]
   subst hk
   exact ⟨by simp,λg h=>by simpa using h⟩
  ·rw [if_neg hk]
   refine ⟨?_,λg h=>?_⟩
   ·rw [List.map_cons]
    exact List.mem_cons_of_mem _ i1
   ·rw [List.map_cons] at h ⊢
    rcases List.mem_cons.mp h with e | e
    ·exact List.mem_cons.mpr (.inl e)
    ·exact List.mem_cons_of_mem _ (i2 g e)
theorem Ac1 (f:Str) (v:V):∀ fs:List (Str×V),(putF f v fs).length<=fs.length+1
 | []=>by simp [putF]
 | (k,x)::r=>by
  have ih:=Ac1 f v r
  rw [show putF f v ((k,x)::r)=(if k=f then (k,v)::r else (k,x)::putF f v r) from rfl]
  by_cases hk:k=f
  ·rw [if_pos hk,List.length_cons,List.length_cons]; omega
  ·rw [if_neg hk,List.length_cons,List.length_cons]; omega
theorem RelO.some_of {v:V} {o:Option Value} (r:RelO (some v) o):∃ u,o=some u/\RelV v u:=by
 cases o with
 | none=>exact (show False from r).elim
 | some u=>exact ⟨u,rfl,r⟩
theorem RelO.none_of {o:Option Value} (r:RelO none o):o=none:=by
 cases o with
 | none=>rfl
 | some u=>exact (show False from r).elim
theorem Bf3 {v:V} {u:Value} (r:RelV v u):PySem.W.handedIn u=true:=by
 cases v with
 | non=>cases (show u=Value.none from r); rfl
 | bl b=>cases (show u=Value.bool b from r); rfl
 | int i=>obtain ⟨t,e⟩:=(show ∃ t,u=Value.int i t from r); cases e; rfl
 | str x=>obtain ⟨t,e⟩:=(show ∃ t,u=Value.str x t from r); cases e; rfl
 | byt b=>obtain ⟨t,e⟩:=(show ∃ t,u=Value.bytes b t from r); cases e; rfl
 | flt b=>obtain ⟨t,e⟩:=(show ∃ t,u=Value.float b t from r); cases e; rfl
 | ref a=>cases (show u=Value.ref a from r); rfl
 | ty n=>cases (show u=Value.type n from r); rfl
section
variable {P : Program} {w : World} {H H' : Hp} {h h' : Heap} {a C dx : Addr} {fs fs' : List (Str × V)}
theorem Ap4 (hok:HOk P w H h) (e:H a=some (.ins C dx fs)):∃ mA,ObjM h a dx C mA/\(∀ f,RelO (fs.lookup f) (mA f))/\PySem.Within mA (fs.map (·.1))/\fs.length<=1000/\H dx=some (.own a):=by
 obtain ⟨d,z,ne,ob,mA,n,r,q⟩:=(show ObjOk P w H h a (.ins C dx fs) from hok a _ e)
 exact ⟨mA,⟨ob,n,ne⟩,r,q,z,d⟩
end
structure Cls (K:PySem.W.Frag) (C:Addr):Prop where
 pg:PySem.W.plainGet K C Str.empty=true
 hd:PySem.W.hasDictIn K C=true
 po:PySem.W.plainOver K C=true
 sa:PySem.W.findIn K (.ref C) "__setattr__"=some (some (.builtin "object.__setattr__"))
theorem Cls.get {K:PySem.W.Frag} {C:Addr} (c:Cls K C) (f:Str):PySem.W.plainGet K C f=true:=c.pg
def NoAttr (K:PySem.W.Frag) (C:Addr) (f:Str):Prop:=PySem.W.findIn K (.ref C) f=some none
theorem NoAttr.taker {K:PySem.W.Frag} {C:Addr} {f:Str} (n:NoAttr K C f):PySem.W.takerIn K C f=some none:=by
 unfold PySem.W.takerIn
 rw [show PySem.W.findIn K (.ref C) f=some none from n]
 rfl
structure Con (K:PySem.W.Frag) (C:Addr) (f:Str) (v:V) (u:Value):Prop where
 at_:PySem.W.findIn K (.ref C) f=some (some u)
 rel:RelV v u
 get:PySem.W.specialIn K u "__get__"=some none
 cp:PySem.W.copiedNames.contains f=false
structure Meth (K:PySem.W.Frag) (C:Addr) (m:Str) (f:Addr):Prop where
 at_:PySem.W.findIn K (.ref C) m=some (some (.ref f))
 fn:PySem.W.isFn K (.ref f)=true
 kp:PySem.W.keepIn K (.ref f)=true
section
variable {X : Cx} {pins : List (Addr × Obj)} {σ : St} {H : Hp} {s : Shared} {a C dx : Addr} {fs : List (Str × V)} {f : Str} {v : V} {A : Around} {E : Value → Shared → Prop}
theorem Ba9 {b:Bool} {Q:Value->Shared->Prop} (I:Inv X pins σ H s) (e:H a=some (.ins C dx fs)) (c:Cls X.K C) (n:NoAttr X.K C f) (l:fs.lookup f=some v)
  (h:∀ u s',Inv X pins σ H s'->RelV v u->Q u s'):wpAny (model X.prog X.w) A (getAttr (.ref a) f b) Q E s:=by
 obtain ⟨mA,O,r,_,_,_⟩:=Ap4 I.hok e
 obtain ⟨u,hu,ru⟩:=RelO.some_of (v:=v) (o:=mA f) (by rw [<- l]; exact r f)
 exact Bq6 I.kIn O (c.get f) c.hd n hu (Bf3 ru) (h u _ (I.tok _) ru)
theorem Aj3 {m:Str} {g:Addr} {pl:Sem Bool} {Q:Value×List Value->Shared->Prop} (I:Inv X pins σ H s) (e:H a=some (.ins C dx fs)) (c:Cls X.K C) (k:Meth X.K C m g) (l:fs.lookup m=none)
  (h:Q (.ref g,[.ref a]) s):wpAny (model X.prog X.w) A (getMethod (.ref a) m pl) Q E s:=by
 obtain ⟨mA,O,r,_,_,_⟩:=Ap4 I.hok e
 have hn:mA m=none:=RelO.none_of (by rw [<- l]; exact r m)
 exact Bj8 I.kIn O (c.get m) k.at_ k.fn hn h
theorem Az4 {y:V} {u:Value} {Q:Unit->Shared->Prop} (I:Inv X pins σ H s) (e:H a=some (.ins C dx fs)) (c:Cls X.K C) (n:NoAttr X.K C f) (hl:fs.length<1000) (ry:RelV y u)
  (h:∀ s',Inv X pins σ (upd H a (.ins C dx (putF f y fs))) s'->Q () s'):wpAny (model X.prog X.w) A (setAttr (.ref a) f u) Q E s:=by
 obtain ⟨mA,O,r,wi,_,ho⟩:=Ap4 I.hok e
 have hz:(fs.map (·.1)).length<=sizeLine:=by rw [List.length_map,sizeLine_eq]; omega
 refine Bn1 I.kIn O c.sa c.po n.taker c.hd wi hz λh' O' sb=>h _ ?_
 have hd:∃ o,h'.get? dx=some o:=let ⟨o,_,_,e',_⟩:=O'.ns; ⟨o,e'⟩
 refine I.write (x:=a) (e:=dx) (by rw [e]; exact True.intro) (.inr ho) (λb q hb z=>(sb.2 b hb).trans z) hd ?_
 refine ⟨by rw [Ab0 O.ne]; exact ho,?_,O.ne,O'.obj,_,O'.ns,λg=>?_,λg hg=>?_⟩
 ·have:=Ac1 f y fs; omega
 ·show RelO ((putF f y fs).lookup g) (if g=f then some u else mA g)
  rw [Aa2]
  by_cases q:g=f
  ·rw [if_pos q,if_pos q]; exact ry
  ·rw [if_neg q,if_neg q]; exact r g
 ·by_cases q:g=f
  ·rw [q]; exact (Am1 f y fs).1
  ·refine (Am1 f y fs).2 g (wi g λz=>hg ?_)
   show (if g=f then some u else mA g)=none
   rw [if_neg q]; exact z
theorem Inv.made (I:Inv X pins σ H s):Inv X pins σ (upd (upd H s.heap.objs.size (.own (s.heap.objs.size+1))) (s.heap.objs.size+1) (.ins C s.heap.objs.size []))
  { s with heap:=(s.heap.push PySem.W.emptyDict).push (PySem.W.instObj C s.heap.objs.size) }:=by
 have e1:(s.heap.push PySem.W.emptyDict).get? s.heap.objs.size=some PySem.W.emptyDict:=Heap.get?_push_size s.heap rfl
 have e2:((s.heap.push PySem.W.emptyDict).push (PySem.W.instObj C s.heap.objs.size)).get? (s.heap.objs.size+1)=some (PySem.W.instObj C s.heap.objs.size):=by
  have:=Heap.get?_push_size (s.heap.push PySem.W.emptyDict) (o:=PySem.W.instObj C s.heap.objs.size) rfl
  rwa [Heap.size_push] at this
 have e3:(s.heap.push PySem.W.emptyDict).Ns s.heap.objs.size (λ_=>none):=⟨PySem.W.emptyDict,#[],_,e1,rfl,(λe he=>absurd he (by simp)),λ_=>rfl⟩
 have I1:=I.laid (a:=s.heap.objs.size) (o:=.own (s.heap.objs.size+1)) (h':=s.heap.push PySem.W.emptyDict) (t':=s.toks) (λb u q=>Heap.get?_push_of_some _ q) (Nat.le_refl _) ⟨_,e1⟩
 refine I1.laid (a:=s.heap.objs.size+1) (o:=.ins C s.heap.objs.size []) (t':=s.toks) (λb u q=>Heap.get?_push_of_some _ q) (Nat.le_of_eq (Heap.size_push _ _)) ?_
 have ne:s.heap.objs.size≠s.heap.objs.size+1:=Nat.ne_of_lt (Nat.lt_succ_self _)
 refine ⟨by rw [Ab0 ne,upd_same],Nat.zero_le _,ne,e2,λ_=>none,(Heap.Ns1.of_empty e3).at λo q=>Heap.get?_push_of_some _ q,λ_=>True.intro,λy hy=>absurd rfl hy⟩
theorem Br0 {prog:Program} {w:World} {env:Env} {e:Expr} {f:Str} {pos:Pos} {s:Shared} {Q:Value->Shared->Prop} (hb:attributeBase e f env (eval e env)=eval e env)
  (h:wpAny (model prog w) A (eval e env) (λo s₁=>wpAny (model prog w) A (getAttr o f true) Q E s₁) E s):wpAny (model prog w) A (eval (.Attribute e f pos) env) Q E s :=
 Attribute_any_ h (by rw [arm_eval_Attribute,hb])
end
def tFld (K:PySem.W.Frag) (ta:TE) (f:Str):TE:=λσ H Q=>ta σ H λx H1=>∃ a C dx fs v,x=.ref a/\H1 a=some (.ins C dx fs)/\Cls K C/\NoAttr K C f/\fs.lookup f=some v/\Q v H1
def sFld (K:PySem.W.Frag) (ta tv:TE) (f:Str):TS:=λD σ H=>tv σ H λy H1=>ta σ H1 λx H2=>∃ a C dx fs,x=.ref a/\H2 a=some (.ins C dx fs)/\Cls K C/\NoAttr K C f/\fs.length<1000 /\
 D.nx σ (upd H2 a (.ins C dx (putF f y fs)))
section
variable {X : Cx} {o e value : Expr} {f : Str} {pos pos' tpos : Pos} {ta tv : TE}
theorem Ad5 (he:PE X e ta) (hb:attributeBase e f X.env (eval e X.env)=eval e X.env):PE X (.Attribute e f pos) (tFld X.K ta f):=by
 intro pins s σ H Q I h
 refine Br0 hb (thn (he pins s σ H _ I h) λu s1 ⟨x,H1,I1,rx,a,C,dx,fs,v,ex,ea,c,n,l,q⟩=>?_)
 subst ex
 obtain rfl:u=Value.ref a:=rx
 exact Ba9 I1 ea c n l λu' s2 I2 ru=>⟨v,H1,I2,ru,q⟩
theorem Ae9 (ha:PE X o ta) (hv:PE X value tv) (hs:swapsWith value (some (.Attribute o f pos')) pos.line X.env=pure false):PS X (.Assign [.Attribute o f pos'] value pos) (sFld X.K ta tv f):=by
 intro pins s σ H D I h
 refine plainObj_wpAny_Assign_Attribute (thn (hv pins s σ H _ I h) λu s1 ⟨y,H1,I1,ry,q⟩=>thn (ha pins s1 σ H1 _ I1 q) λov s2 ⟨x,H2,I2,rx,a,C,dx,fs,ex,ea,c,n,l,q2⟩=>?_) hs
 subst ex
 obtain rfl:ov=Value.ref a:=rx
 exact Az4 I2 ea c n l ry λs3 I3=>⟨σ,_,I3,q2⟩
end
section
variable {X : Cx} {pins : List (Addr × Obj)} {σ : St} {H : Hp} {s : Shared} {A : Around} {E : Value → Shared → Prop} {Q : Value → Shared → Prop} {c : Value} {b : Bool}
inductive TyOf (K:PySem.W.Frag) (H:Hp):V->Value->Prop where
 | non:TyOf K H .non (.type "NoneType")
 | bl (x:Bool):TyOf K H (.bl x) (.type "bool")
 | int (i:Int):TyOf K H (.int i) (.type "int")
 | str (x:Str):TyOf K H (.str x) (.type "str")
 | flt (x:UInt64):TyOf K H (.flt x) (.type "float")
 | lst {a:Addr} {xs:List V} (e:H a=some (.lst xs)):TyOf K H (.ref a) (.type "list")
 | frz {a:Addr} {o:Obj} {xs:List V} (e:H a=some (.frz o (.lst xs))):TyOf K H (.ref a) (.type "list")
 | tup {a:Addr} {xs:List V} (e:H a=some (.tup xs)):TyOf K H (.ref a) (.type "tuple")
 | dK {a:Addr} {kvs:List (Key×V)} (e:H a=some (.dK kvs)):TyOf K H (.ref a) (.type "dict")
 | dT {a:Addr} {kvs:List (List Key×V)} (e:H a=some (.dT kvs)):TyOf K H (.ref a) (.type "dict")
 | ins {a C dx:Addr} {fs:List (Str×V)} (e:H a=some (.ins C dx fs)) (cl:Cls K C) (ha:PySem.W.findIn K (.ref C) "__class__"=some (some (.builtin "object.__class__")))
   (hn:PySem.W.specialIn K (.builtin "object.__class__") "__get__"=some (some (.builtin "getset_descriptor.__get__"))) (htk:PySem.W.takesIn K (.builtin "object.__class__")=some true)
   (hm:PySem.W.mroIn K C (.type "object")=some true):TyOf K H (.ref a) (.ref C)
theorem Ab2 {x:V} {u t:Value} (I:Inv X pins σ H s) (rx:RelV x u) (ty:TyOf X.K H x t) (e:PySem.W.kitOne X.K t c=some b) (h:∀ tk,Q (.bool b) { s with toks:=tk }) :
  wpAny (model X.prog X.w) A (call (.builtin "isinstance") [u,c]) Q E s:=by
 cases ty with
 | non=>cases (show u=Value.none from rx); exact PySem.W.kia_one PySem.W.kitx_none I.kIn True.intro e (λz=>nomatch z) h
 | bl y=>cases (show u=Value.bool y from rx); exact PySem.W.kia_one PySem.W.kitx_bool I.kIn True.intro e (λz=>nomatch z) h
 | int i=>obtain ⟨t,q⟩:=(show ∃ t,u=Value.int i t from rx); cases q; exact PySem.W.kia_one PySem.W.kitx_int I.kIn True.intro e (λz=>nomatch z) h
 | str y=>obtain ⟨t,q⟩:=(show ∃ t,u=Value.str y t from rx); cases q; exact PySem.W.kia_one PySem.W.kitx_str I.kIn True.intro e (λz=>nomatch z) h
 | flt y=>obtain ⟨t,q⟩:=(show ∃ t,u=Value.float y t from rx); cases q; exact PySem.W.kia_one PySem.W.kitx_float I.kIn True.intro e (λz=>nomatch z) h
 | @lst a xs ea =>
  cases (show u=Value.ref a from rx)
  obtain ⟨_,_,n,_,h1⟩:=(show ObjOk X.prog X.w H s.heap a (.lst xs) from I.hok a _ ea)
  exact PySem.W.kia_one PySem.W.kitx_list I.kIn ⟨_,h1,rfl⟩ e (λz=>nomatch z) h
 | @frz a ob xs ea =>
  cases (show u=Value.ref a from rx)
  obtain ⟨_,_,_,n,_,h1⟩:=(show ObjOk X.prog X.w H s.heap a (.frz ob (.lst xs)) from I.hok a _ ea)
  exact PySem.W.kia_one PySem.W.kitx_list I.kIn ⟨_,h1,rfl⟩ e (λz=>nomatch z) h
 | @tup a xs ea =>
  cases (show u=Value.ref a from rx)
  obtain ⟨_,_,_,p⟩:=(show ObjOk X.prog X.w H s.heap a (.tup xs) from I.hok a _ ea)
  obtain ⟨o,h1,h2,_⟩:=p
  exact PySem.W.kia_one PySem.W.kitx_tuple I.kIn ⟨o,h1,h2⟩ e (λz=>nomatch z) h
 | @dK a kvs ea =>
  cases (show u=Value.ref a from rx)
  obtain ⟨_,_,vs,_,p⟩:=(show ObjOk X.prog X.w H s.heap a (.dK kvs) from I.hok a _ ea)
  obtain ⟨o,es,ep,h1,h2,_⟩:=p
  exact PySem.W.kia_one PySem.W.kitx_dict I.kIn ⟨o,h1,h2.1⟩ e (λz=>nomatch z) h
 | @dT a kvs ea =>
  cases (show u=Value.ref a from rx)
  obtain ⟨_,_,xs,_,o,es,ep,h1,h2,_⟩:=(show ObjOk X.prog X.w H s.heap a (.dT kvs) from I.hok a _ ea)
  exact PySem.W.kia_one PySem.W.kitx_dict I.kIn ⟨o,h1,h2.1⟩ e (λz=>nomatch z) h
 | @ins a C dx fs ea cl ha hn htk hm =>
  cases (show u=Value.ref a from rx)
  obtain ⟨mA,O,_⟩:=Ap4 I.hok ea
  obtain ⟨od,J,_⟩:=O.look
  exact PySem.W.kia_one (PySem.W.kitx_own (cl.get _) cl.hd ha hn htk hm) I.kIn J e (λz=>nomatch z) h
end
end L2
namespace L2
open PySem PySem.Spec PyProof.Rows
structure Room (k:Nat) (A:Around):Prop where
 hd:A.handled=none
 dp:A.depth+3 * k+5<recursionLimit
 un:A.units+16 * k+200<cLine
theorem Room.mono {j k:Nat} {A:Around} (r:Room k A) (h:j<=k):Room j A:=⟨r.hd,by have:=r.dp; omega,by have:=r.un; omega⟩
theorem Room.deeper {k:Nat} {A:Around} (r:Room (k+1) A) (env:Env):Room k (A.deeper env) :=
 ⟨r.hd,by have:=r.dp; show A.depth+1+3 * k+5<_; omega,by have:=r.un; show A.units+3+16 * k+200<_; omega⟩
theorem Ba3 {A:Around} {C:Addr} {us:List Value} {kw:List (Str×Value)}:(A.under (.builtin "type.__call__" ⟨.ref C::us,kw⟩)).depth=A.depth+1:=by
 first | rfl | simp [Around.under,Code.weight,Code.isCreation,Code.isGuard,Code.isCaller,Code.frames,Code.isFrame,guardIds]
theorem Ba2 {A:Around} {C:Addr} {us:List Value} {kw:List (Str×Value)}:(A.under (.builtin "type.__call__" ⟨.ref C::us,kw⟩)).units=A.units+1:=by
 first | rfl | simp [Around.under,Code.cUnits,Code.frames,Code.isFrame]
theorem Room.make {k:Nat} {A:Around} (r:Room (k+1) A) (C:Addr) (us:List Value) (kw:List (Str×Value)):Room k (A.under (.builtin "type.__call__" ⟨.ref C::us,kw⟩)) :=
 ⟨r.hd,by have:=r.dp; rw [Ba3]; omega,by have:=r.un; rw [Ba2]; omega⟩
theorem Room.depth {k:Nat} {A:Around} (r:Room k A):A.depth<recursionLimit:=by have:=r.dp; omega
theorem Room.units {k:Nat} {A:Around} (r:Room k A):A.units+64<cLine:=by have:=r.un; omega
def tNil:TA:=λ_ H Q=>Q [] H
def Aj6 (ta:TE) (tr:TA):TA:=λσ H Q=>ta σ H λx H1=>tr σ H1 λxs H2=>Q (x::xs) H2
section
variable {X : Cx} {e : Expr} {es : List Expr} {te : TE} {t : TA} {pos : Pos}
theorem Aa4:PA X [] tNil:=λ_ _ _ _ H Q I h=>Calls.spliced_nil ⟨[],H,I,.nil,h⟩
theorem Aa0 (ha:PE X e te) (hr:PA X es t) (hs:starEach (e::es) X.env=(false,eval e X.env)::starEach es X.env:=by rfl):PA X (e::es) (Aj6 te t):=by
 intro pos pins s σ H Q I h
 rw [hs]
 show wpAny _ _ (spliced ((false,eval e X.env)::backTo pos (starEach es X.env))) _ _ s
 refine Calls.spliced_cons (thn (ha pins s σ H _ I h) λu s1 ⟨x,H1,I1,r1,q1⟩=>?_)
 exact thn (hr pos pins s1 σ H1 _ I1 q1) λus s2 ⟨xs,H2,I2,r2,q2⟩=>⟨x::xs,H2,I2,.cons r1 r2,q2⟩
def tTup (t:TA):TE:=λσ H Q=>t σ H λxs H1=>xs.length<=sizeLine/\∀ p,H1 p=none->Q (.ref p) (upd H1 p (.tup xs))
def tLst (t:TA):TE:=λσ H Q=>t σ H λxs H1=>xs.length<=sizeLine/\∀ p,H1 p=none->Q (.ref p) (upd H1 p (.lst xs))
theorem Ae3 {x1} (h:PA X es t):PE X (.Tuple es x1 pos) (tTup t):=by
 intro pins s σ H Q I hq
 refine wpAny_Tuple_spliced (thn (h pos pins s σ H _ I hq) λus s1 ⟨xs,H1,I1,r,z,q⟩=>⟨by rw [<- r.length]; exact z,?_⟩)
 have hf:H1 s1.heap.objs.size=none:=I1.hok.fresh (Nat.le_refl _)
 refine ⟨.ref s1.heap.objs.size,upd H1 s1.heap.objs.size (.tup xs),I1.laid (t':=s1.toks) (λb u e=>Heap.get?_push_of_some _ e) (Nat.le_refl _) ?_,rfl,q _ hf⟩
 exact ⟨z,us,r,⟨_,Heap.get?_push_size _ rfl,rfl,_,rfl⟩⟩
theorem Ah2 (h:PA X es t):PE X (.List es pos) (tLst t):=by
 intro pins s σ H Q I hq
 refine wpAny_List_spliced (thn (h pos pins s σ H _ I hq) λus s1 ⟨xs,H1,I1,r,z,q⟩=>⟨by rw [<- r.length]; exact z,?_⟩)
 have hf:H1 s1.heap.objs.size=none:=I1.hok.fresh (Nat.le_refl _)
 refine ⟨.ref s1.heap.objs.size,upd H1 s1.heap.objs.size (.lst xs),I1.laid (t':=s1.toks) (λb u e=>Heap.get?_push_of_some _ e) (Nat.le_refl _) ?_,rfl,q _ hf⟩
 exact ⟨z,us,0,r,Heap.get?_push_size _ rfl⟩
end
abbrev Sp:=List V->Hp->VK->XK->Prop
abbrev CXT:=List Env->Hp->Shared->XK->Value->Shared->Prop
structure Env0 (P:Program) (w:World) (K:PySem.W.Frag) (mg:Str->Option Value) (base:Heap) (A:Around) (outer:List Env) (s:Shared) (H:Hp):Prop where
 frames:A.frames=some outer
 mod:Mod K mg base
 bs:∀ b o,base.get? b=some o->s.heap.get? b=some o/\H b=none
 bsz:base.objs.size<=s.heap.objs.size
 funs:s.heap.FunFrames base outer
 frf:∀ b ∈ frs outer,H b=none
 hok:HOk P w H s.heap
 bare:AllBare s.gens
def CE (outer:List Env) (P:Program) (w:World) (H:Hp) (s:Shared) (Q:VK) (u:Value) (s':Shared):Prop :=
 ∃ v H',s'.os=s.os/\AllBare s'.gens/\Un (frs outer) [] H H' s.heap s'.heap/\HOk P w H' s'.heap/\RelV v u/\Q v H'
def CR (CX:CXT) (outer:List Env) (P:Program) (w:World) (H:Hp) (s:Shared) (Q:VK) (E:XK) (r:Result) (s':Shared):Prop :=
 match r with
 | .ok (.ret u)=>CE outer P w H s Q u s'
 | .ok _=>False
 | .error e=>CX outer H s E e s'
structure FnOk (P:Program) (w:World) (K:PySem.W.Frag) (mg:Str->Option Value) (base:Heap) (CX:CXT) (k:Nat) (f:Addr) (fd:FuncData) (ps:List Str) (sp:Sp):Prop where
 len:∀ vs H Q E,sp vs H Q E->vs.length=ps.length
 run:∀ (A:Around) (outer:List Env) (s:Shared) (H:Hp) (args:Args) (us:List Value) (vs:List V) (Q:VK) (E:XK),Room k A->Env0 P w K mg base A outer s H->BindsTo s fd args (ps.zip us)->Vals vs us->sp vs H Q E ->
  codeAny (model P w) A (.call (.ref f) args) (CR CX outer P w H s Q E) s
theorem Env0.make {P:Program} {w:World} {K:PySem.W.Frag} {mg:Str->Option Value} {base:Heap} {A:Around} {outer:List Env} {s:Shared} {H:Hp} (e:Env0 P w K mg base A outer s H) (C:Addr) (us:List Value) (kw:List (Str×Value)) :
  Env0 P w K mg base (A.under (.builtin "type.__call__" ⟨.ref C::us,kw⟩)) outer s H:=⟨by first | exact e.frames | (simpa [Around.under,Code.envs,Code.isFrame,pushEnvs] using e.frames),e.mod,e.bs,e.bsz,e.funs,e.frf,e.hok,e.bare⟩
section
variable {X : Cx} {pins : List (Addr × Obj)} {σ : St} {H : Hp} {s s' : Shared}
theorem Inv.env0 (I:Inv X pins σ H s):Env0 X.prog X.w X.K X.mg X.base X.A X.stack s H :=
 ⟨I.ok.frames,I.ok.mod,I.bs,Nat.le_trans I.ok.bsz I.sz,I.stack,I.stkFree,I.hok,I.bare⟩
theorem Inv.after {Q:VK} {u:Value} (I:Inv X pins σ H s) (h:CE X.stack X.prog X.w H s Q u s'):EP X pins σ Q u s':=by
 obtain ⟨v,H',os,bare,un,hok,r,q⟩:=h
 obtain ⟨hh,g,d,t,os'⟩:=s'
 obtain rfl:os'=s.os:=os
 exact ⟨v,H',I.call (h':=hh) (g':=g) (d':=d) (t':=t) (ch:=[]) un hok bare (λb z=>absurd z (by simp)),r,q⟩
end
def As7 (sp:Sp) (dvs:List V) (E:XK) (t:TA):TE:=λσ H Q=>t σ H λvs H1=>sp (vs++dvs) H1 Q E
def Bs0 (C:Addr) (m:Str) (sp:Sp) (dvs:List V) (E:XK) (ta:TE) (t:TA):TE:=λσ H Q=>ta σ H λx H1=>∃ a dx fs,x=.ref a/\H1 a=some (.ins C dx fs)/\fs.lookup m=none /\
 t σ H1 λvs H2=>sp (x::(vs++dvs)) H2 Q E
def Bx2 (C:Addr) (sp:Sp) (dvs:List V) (E:XK) (t:TA):TE:=λσ H Q=>t σ H λvs H1=>∀ x dx,H1 x=none->H1 dx=none->dx≠x ->
 sp (.ref x::(vs++dvs)) (upd (upd H1 dx (.own x)) x (.ins C dx [])) (λv H2=>v=.non/\Q (.ref x) H2) E
def Binds (K:PySem.W.Frag) (fd:FuncData) (ps:List Str) (ds:List Value):Prop :=
 ∀ (s:Shared) (us:List Value),K.In s.heap->(us++ds).length=ps.length->BindsTo s fd ⟨us,[]⟩ (ps.zip (us++ds))
theorem Binds.all {K:PySem.W.Frag} {fd:FuncData} {ps:List Str} (h:∀ us:List Value,us.length=ps.length->bindArgs fd ⟨us,[]⟩=pure (ps.zip us)):Binds K fd ps []:=λs us _ hl=>by
 rw [List.append_nil] at hl ⊢
 exact .of_eq (h us hl)
def Ah1 (CX:CXT) (X:Cx) (E:XK):Prop:=∀ (pins:List (Addr×Obj)) (σ:St) (H:Hp) (s:Shared) (e:Value) (s':Shared),Inv X pins σ H s->CX X.stack H s E e s'->X.xe e s'
section
variable {X : Cx} {CX : CXT} {k : Nat} {f C : Addr} {fd : FuncData} {ps : List Str} {sp : Sp} {dvs : List V} {ds : List Value} {E : XK} {x m : Str} {p pos apos : Pos} {e o : Expr} {es : List Expr} {ta : TE} {t : TA}
theorem An5 {pins:List (Addr×Obj)} {σ:St} {H:Hp} {s:Shared} {Q:VK} {us:List Value} {vs:List V} (F:FnOk X.prog X.w X.K X.mg X.base CX k f fd ps sp) (hr:Room k X.A) (hb:Binds X.K fd ps ds) (hd:Vals dvs ds) (hx:Ah1 CX X E)
  (I:Inv X pins σ H s) (r:Vals vs us) (h:sp (vs++dvs) H Q E):wpAny (model X.prog X.w) X.A (call (.ref f) us) (EP X pins σ Q) X.xe s:=by
 have r2:Vals (vs++dvs) (us++ds):=r.append hd
 have hl:(us++ds).length=ps.length:=by rw [<- r2.length]; exact F.len _ _ _ _ h
 refine wpAny_call (codeAny_mono (F.run X.A X.stack s H ⟨us,[]⟩ (us++ds) (vs++dvs) Q E hr I.env0 (hb s us I.kIn hl) r2 h) λr s' hq=>?_)
 cases r with
 | error e=>exact hx pins σ H s e s' I hq
 | ok fl =>
  cases fl with
  | ret u=>exact I.after hq
  | next=>exact False.elim hq
  | brk=>exact False.elim hq
  | cont=>exact False.elim hq
theorem Ab9 (F:FnOk X.prog X.w X.K X.mg X.base CX k f fd ps sp) (hr:Room k X.A) (hg:Gl X x) (hm:X.mg x=some (.ref f)) (hk:PySem.W.keepIn X.K (.ref f)=true) (hb:Binds X.K fd ps ds) (hd:Vals dvs ds) (hx:Ah1 CX X E)
  (ha:PA X (e::es) t) (hdb:(x == ("__debug__":Str))=false:=by decide) (he:starEach (e::es) X.env=(false,eval e X.env)::starEach es X.env:=by rfl) (hpl:(backTo pos (starEach es X.env)).any (·.1)=false:=by rfl) :
  PE X (.Call (.Name x p) (e::es) [] pos) (As7 sp dvs E t):=by
 intro pins s σ H Q I h
 refine wpAny_Call_Name_kw (Ai5 I hg hm ?_ hdb)
 refine PySem.W.callWith_K (h₀:=X.base) I.ok.mod.kin hk (thn (ha pos pins s σ H _ I h) λus s1 ⟨vs,H1,I1,r,q⟩=>⟨I1.kIn,?_⟩) he hpl
 exact An5 F hr hb hd hx I1 r q
theorem Bh9 (F:FnOk X.prog X.w X.K X.mg X.base CX k f fd ps sp) (hr:Room k X.A) (hg:Gl X x) (hm:X.mg x=some (.ref f)) (hk:PySem.W.keepIn X.K (.ref f)=true) (hb:Binds X.K fd ps ds) (hd:Vals dvs ds) (hx:Ah1 CX X E)
  (hdb:(x == ("__debug__":Str))=false:=by decide):PE X (.Call (.Name x p) [] [] pos) (As7 sp dvs E tNil):=by
 intro pins s σ H Q I h
 refine wpAny_Call_Name_kw (Ai5 I hg hm ?_ hdb)
 exact PySem.W.callWith_K0 I.kIn hk (An5 (us:=[]) F hr hb hd hx I .nil h)
theorem Av2 {pl:Sem Bool} (he:PE X o ta) (c:Cls X.K C) (hm:Meth X.K C m f) (F:FnOk X.prog X.w X.K X.mg X.base CX k f fd ps sp) (hr:Room k X.A) (hb:Binds X.K fd ps ds) (hd:Vals dvs ds) (hx:Ah1 CX X E) (ha:PA X (e::es) t)
  (hst:starEach (e::es) X.env=(false,eval e X.env)::starEach es X.env:=by rfl) (hpl:(backTo pos (starEach es X.env)).any (·.1)=false:=by rfl)
  (ht:eval (.Call (.Attribute o m apos) (e::es) [] pos) X.env=(do
   let ov <- eval o X.env
   standAt apos.atName
   let (f,first) <- holding [ov] (getMethod ov m pl)
   callWith pos f first (backTo pos (starEach (e::es) X.env)) (backToKw pos (keywordEach [] X.env))):=by rfl) :
  PE X (.Call (.Attribute o m apos) (e::es) [] pos) (Bs0 C m sp dvs E ta t):=by
 intro pins s σ H Q I h
 refine PySem.W.methodCall_KW (pl:=pl) (thn (he pins s σ H _ I h) λu s1 ⟨x,H1,I1,rx,a,dx,fs,ex,ea,l,q⟩=>?_) ht
 subst ex
 obtain rfl:u=Value.ref a:=rx
 refine Aj3 I1 ea c hm l ?_
 refine PySem.W.callWith_K (first:=[.ref a]) (h₀:=X.base) I.ok.mod.kin hm.kp (thn (ha pos pins s1 σ H1 _ I1 q) λus s2 ⟨vs,H2,I2,r,q2⟩=>⟨I2.kIn,?_⟩) hst hpl
 exact An5 (us:=.ref a::us) (vs:=.ref a::vs) F hr hb hd hx I2 (.cons rfl r) q2
theorem Ai8 {pl:Sem Bool} (he:PE X o ta) (c:Cls X.K C) (hm:Meth X.K C m f) (F:FnOk X.prog X.w X.K X.mg X.base CX k f fd ps sp) (hr:Room k X.A) (hb:Binds X.K fd ps ds) (hd:Vals dvs ds) (hx:Ah1 CX X E)
  (ht:eval (.Call (.Attribute o m apos) [] [] pos) X.env=(do
   let ov <- eval o X.env
   standAt apos.atName
   let (f,first) <- holding [ov] (getMethod ov m pl)
   callWith pos f first (backTo pos (starEach [] X.env)) (backToKw pos (keywordEach [] X.env))):=by rfl) :
  PE X (.Call (.Attribute o m apos) [] [] pos) (Bs0 C m sp dvs E ta tNil):=by
 intro pins s σ H Q I h
 refine PySem.W.methodCall_KW (pl:=pl) (thn (he pins s σ H _ I h) λu s1 ⟨x,H1,I1,rx,a,dx,fs,ex,ea,l,q⟩=>?_) ht
 subst ex
 obtain rfl:u=Value.ref a:=rx
 refine Aj3 I1 ea c hm l ?_
 exact PySem.W.callWith_K0 (first:=[.ref a]) I1.kIn hm.kp (An5 (us:=[.ref a]) (vs:=[.ref a]) F hr hb hd hx I1 (.cons rfl .nil) q)
structure Mk (K:PySem.W.Frag) (C f:Addr):Prop where
 makes:PySem.W.makesIn K C=true
 init:PySem.W.findIn K (.ref C) "__init__"=some (some (.ref f))
 fn:PySem.W.isFn K (.ref f)=true
 kp:PySem.W.keepIn K (.ref C)=true
theorem Bh1 {pins:List (Addr×Obj)} {σ:St} {H:Hp} {s:Shared} {Q:VK} {us:List Value} {vs:List V} (M:Mk X.K C f) (F:FnOk X.prog X.w X.K X.mg X.base CX k f fd ps sp) (hr:Room (k+1) X.A) (hb:Binds X.K fd ps ds) (hd:Vals dvs ds)
  (hx:Ah1 CX X E) (I:Inv X pins σ H s) (r:Vals vs us)
  (h:∀ x dx,H x=none->H dx=none->dx≠x->sp (.ref x::(vs++dvs)) (upd (upd H dx (.own x)) x (.ins C dx [])) (λv H2=>v=.non/\Q (.ref x) H2) E) :
  wpAny (model X.prog X.w) X.A (call (.ref C) us) (EP X pins σ Q) X.xe s:=by
 have hq:=h (s.heap.objs.size+1) s.heap.objs.size (I.hok.fresh (Nat.le_succ _)) (I.hok.fresh (Nat.le_refl _)) (Nat.ne_of_lt (Nat.lt_succ_self _))
 have I2:=Inv.made (C:=C) I
 have r2:Vals (V.ref (s.heap.objs.size+1)::(vs++dvs)) (Value.ref (s.heap.objs.size+1)::(us++ds)):=.cons rfl (r.append hd)
 have hl:(Value.ref (s.heap.objs.size+1)::us++ds).length=ps.length:=by
  have e:=r2.length
  rw [F.len _ _ _ _ hq] at e
  exact e.symm
 refine wpAny_call (Bj5 (f:=f) I.kIn M.makes M.init (beq_iff_eq.mp M.fn) (codeAny_mono (F.run _ X.stack _ _ ⟨Value.ref (s.heap.objs.size+1)::us,[]⟩ (Value.ref (s.heap.objs.size+1)::(us++ds)) _ _ E (hr.make C us [])
  (I2.env0.make C us []) (hb _ (Value.ref (s.heap.objs.size+1)::us) I2.kIn hl) r2 hq) λr s' hq'=>?_))
 cases r with
 | error e=>exact hx pins σ _ _ e s' I2 hq'
 | ok fl =>
  cases fl with
  | ret u =>
   obtain ⟨v,H',I3,rv,ev,q3⟩:=I2.after hq'
   subst ev
   exact ⟨rv,⟨V.ref (s.heap.objs.size+1),H',I3,rfl,q3⟩⟩
  | next=>exact False.elim hq'
  | brk=>exact False.elim hq'
  | cont=>exact False.elim hq'
theorem Ap0 (M:Mk X.K C f) (F:FnOk X.prog X.w X.K X.mg X.base CX k f fd ps sp) (hr:Room (k+1) X.A) (hg:Gl X x) (hm:X.mg x=some (.ref C)) (hb:Binds X.K fd ps ds) (hd:Vals dvs ds) (hx:Ah1 CX X E)
  (ha:PA X (e::es) t) (hdb:(x == ("__debug__":Str))=false:=by decide) (he:starEach (e::es) X.env=(false,eval e X.env)::starEach es X.env:=by rfl) (hpl:(backTo pos (starEach es X.env)).any (·.1)=false:=by rfl) :
  PE X (.Call (.Name x p) (e::es) [] pos) (Bx2 C sp dvs E t):=by
 intro pins s σ H Q I h
 refine wpAny_Call_Name_kw (Ai5 I hg hm ?_ hdb)
 refine PySem.W.callWith_K (h₀:=X.base) I.ok.mod.kin M.kp (thn (ha pos pins s σ H _ I h) λus s1 ⟨vs,H1,I1,r,q⟩=>⟨I1.kIn,?_⟩) he hpl
 exact Bh1 M F hr hb hd hx I1 r q
end
section
variable {X : Cx} {CX : CXT} {k : Nat} {f C : Addr} {fd : FuncData} {ps ks : List Str} {sp : Sp} {E : XK} {x m : Str} {p pos apos kpos : Pos} {e o : Expr} {es : List Expr} {kws : List Keyword} {te ta : TE} {t tk : TA} {nm : Option Str}
structure Bz5 (K:PySem.W.Frag) (fd:FuncData) (ps ks:List Str) (g:List Value->List Value->List Value) (gV:List V->List V->List V):Prop where
 to:∀ (s:Shared) (us ws:List Value),K.In s.heap->(g us ws).length=ps.length->BindsTo s fd ⟨us,ks.zip ws⟩ (ps.zip (g us ws))
 rel:∀ {vs:List V} {us:List Value} {zs:List V} {ws:List Value},Vals vs us->Vals zs ws->Vals (gV vs zs) (g us ws)
variable {g : List Value → List Value → List Value} {gV : List V → List V → List V}
end
structure Ab6 (N P:List Str) (sc:Scope):Prop where
 kind:sc.kind=.function
 co:sc.isCoroutine=false
 gen:sc.isGenerator=false
 nd:N.Nodup
 pre:N.take P.length=P
 par:∀ x ∈ P,sc.names.lookup x=some .local\/sc.names.lookup x=some .cell
 nofree:∀ y ∈ sc.names,y.2≠.free
theorem FSc {N P:List Str} {sc:Scope} (a:sc.kind=.function:=by rfl) (b:sc.isCoroutine=false:=by rfl) (c:sc.isGenerator=false:=by rfl) (d:N.Nodup:=by decide +kernel) (e:N.take P.length=P:=by rfl) (f:∀ x ∈ P,sc.names.lookup x=some .local\/sc.names.lookup x=some .cell:=by decide +kernel) (g:∀ y ∈ sc.names,y.2≠.free:=by decide +kernel):Ab6 N P sc:=⟨a,b,c,d,e,f,g⟩
theorem As2 {kindOf:Str->Option NameKind} {x:Str}:∀ {binds:List (Str×Value)} {m:Str->Option Value},(∀ v,(x,v) ∉ binds)->bindL kindOf binds m x=m x
 | [],_,_=>rfl
 | (n,v)::r,m,h=>by
  unfold bindL
  rw [As2 λw hw=>h w (List.mem_cons_of_mem _ hw)]
  split
  ·have:x≠n:=by rintro rfl; exact h v List.mem_cons_self
   simp [this]
  ·rfl
theorem As4 {kindOf:Str->Option NameKind} {x:Str}:∀ {binds:List (Str×Value)} {m:Str->Option Value},(∀ v,(x,v) ∉ binds)->bindC kindOf binds m x=m x
 | [],_,_=>rfl
 | (n,v)::r,m,h=>by
  unfold bindC
  rw [As4 λw hw=>h w (List.mem_cons_of_mem _ hw)]
  split
  ·rfl
  ·have:x≠n:=by rintro rfl; exact h v List.mem_cons_self
   simp [this]
theorem As3 {kindOf:Str->Option NameKind} {x:Str} {v:Value}:∀ {P:List Str} {vs:List Value} {i:Nat} {m:Str->Option Value},P.Nodup->P[i]?=some x->vs[i]?=some v->kindOf x=some .local ->
  bindL kindOf (P.zip vs) m x=some v
 | [],_,_,_,_,h,_,_=>by simp at h
 | _::_,[],_,_,_,_,h,_=>by simp at h
 | p::P,w::vs,0,m,nd,h1,h2,hk=>by
  simp at h1 h2; subst h1; subst h2
  show bindL kindOf ((p,w)::P.zip vs) m p=_
  unfold bindL
  rw [As2 λv hv=>(List.nodup_cons.mp nd).1 (List.of_mem_zip hv).1,if_pos hk]
  simp
 | p::P,w::vs,i+1,m,nd,h1,h2,hk=>by
  show bindL kindOf ((p,w)::P.zip vs) m x=_
  unfold bindL
  exact As3 (i:=i) (List.nodup_cons.mp nd).2 (by simpa using h1) (by simpa using h2) hk
theorem As5 {kindOf:Str->Option NameKind} {x:Str} {v:Value}:∀ {P:List Str} {vs:List Value} {i:Nat} {m:Str->Option Value},P.Nodup->P[i]?=some x->vs[i]?=some v->kindOf x≠some .local ->
  bindC kindOf (P.zip vs) m x=some v
 | [],_,_,_,_,h,_,_=>by simp at h
 | _::_,[],_,_,_,_,h,_=>by simp at h
 | p::P,w::vs,0,m,nd,h1,h2,hk=>by
  simp at h1 h2; subst h1; subst h2
  show bindC kindOf ((p,w)::P.zip vs) m p=_
  unfold bindC
  rw [As4 λv hv=>(List.nodup_cons.mp nd).1 (List.of_mem_zip hv).1,if_neg hk]
  simp
 | p::P,w::vs,i+1,m,nd,h1,h2,hk=>by
  show bindC kindOf ((p,w)::P.zip vs) m x=_
  unfold bindC
  exact As5 (i:=i) (List.nodup_cons.mp nd).2 (by simpa using h1) (by simpa using h2) hk
def Am7 (N:List Str) (vs:List V):St:=vs.map some++List.replicate (N.length - vs.length) none
def cxOf (CX:CXT) (P:Program) (w:World) (K:PySem.W.Frag) (mg:Str->Option Value) (base:Heap) (N:List Str) (qual:Str) (scope:Scope) (f:Addr) (cd:Value) (A:Around) (outer:List Env) (s:Shared) (H:Hp) (E:XK):Cx where
 prog:=P
 w:=w
 K:=K
 mg:=mg
 base:=base
 A:=A.deeper (envOfC qual scope s.heap.objs.size f cd)
 N:=N
 s₀:=s
 H₀:=H
 env:=envOfC qual scope s.heap.objs.size f cd
 outer:=outer
 stack:=envOfC qual scope s.heap.objs.size f cd::outer
 ex:=[]
 calm:=true
 fn:=λ_=>true
 pn:=[]
 xe:=λe s'=>wpAny (model P w) (A.deeper (envOfC qual scope s.heap.objs.size f cd)) (leaving (envOfC qual scope s.heap.objs.size f cd) e) (λ_ s''=>CX outer H s E e s'') (λe' s''=>CX outer H s E e' s'') s'
theorem Az1 {sc:Scope} {n:Nat} {x:Str} (h:sc.names.lookup x=some .cell):∃ c,(cellsFrom n sc.names []).lookup x=some c:=by
 have q:=PySem.W.cellsFrom_some sc.names n [] (.inl h)
 exact Option.isSome_iff_exists.mp q
theorem Bf1 {CX:CXT} {P:Program} {w:World} {K:PySem.W.Frag} {mg:Str->Option Value} {base:Heap} {N ps:List Str} {qual:Str} {scope:Scope} {f:Addr} {cd:Value} {A:Around} {outer:List Env} {s s1:Shared} {H:Hp} {E:XK} {us:List Value} {vs:List V}
  (S:Ab6 N ps scope) (hd:A.handled=none) (e0:Env0 P w K mg base A outer s H) (hl:vs.length=ps.length) (r:Vals vs us)
  (x:InCallC s s.heap.objs.size (bindL (envOfC qual scope s.heap.objs.size f cd).kindOf (ps.zip us) λ_=>none) (cellsFrom (s.heap.objs.size+1) scope.names []) (bindC (envOfC qual scope s.heap.objs.size f cd).kindOf (ps.zip us) λ_=>none) s1) :
  Inv (cxOf CX P w K mg base N qual scope f cd A outer s H E) [] (Am7 N vs) H s1:=by
 have hpl:ps.length<=N.length:=by have:=congrArg List.length S.pre; rw [List.length_take] at this; omega
 obtain ⟨h1,tk,rfl,hk⟩:=x.done
 have noA:∀ b:Addr,b ∉ (cxOf CX P w K mg base N qual scope f cd A outer s H E).ex:=λb z=>absurd (show b ∈ ([]:List Addr) from z) (by simp)
 refine ⟨⟨e0.mod,S.kind,rfl,rfl,Nat.le_refl _,λy z c h1 h2=>?_,λy hy=>?_,λy c _ h=>?_,λ_=>hd,Around.frames_deeper e0.frames,.inr ⟨rfl,rfl⟩,λb z=>absurd z (noA b),e0.bs,e0.bsz,λb _ _=>noA b,λb z=>absurd z (noA b),e0.funs,e0.frf⟩,
  rfl,e0.bare,Un.kept hk,⟨_,x.toInCall.ns,λi y v h1 h2 h3=>?_⟩,λy c h=>⟨_,x.cell y c h⟩,e0.hok.fresh (Nat.le_refl _),λy c h=>?_,λp hp=>absurd (show p ∈ ([]:List (Addr×Obj)) from hp) (by simp),e0.hok.kept hk,?_⟩
 ·exact name_of_addr x.apart (PySem.mem_of_lookup h1) (PySem.mem_of_lookup h2)
 ·have hy:scope.names.lookup y=some .cell\/scope.names.lookup y=some .free:=hy
  rcases hy with hy | hy
  ·exact Az1 hy
  ·exact absurd rfl (S.nofree _ (PySem.mem_of_lookup hy))
 ·exact Nat.le_of_lt (x.above y c (PySem.mem_of_lookup h))
 ·have hi:i<vs.length:=by
   unfold Am7 at h2
   by_cases hi:i<vs.length
   ·exact hi
   ·rw [List.getElem?_append_right (by simpa using hi)] at h2
    rw [List.getElem?_replicate] at h2
    split at h2 <;> cases h2
  have ha:vs[i]?=some v:=by
   unfold Am7 at h2
   rw [List.getElem?_append_left (by simpa using hi),List.getElem?_map] at h2
   cases e:vs[i]? with
   | none=>rw [e] at h2; cases h2
   | some a=>rw [e] at h2; cases h2; rfl
  obtain ⟨u,hu,rv⟩:=r.get ha
  have hp:ps[i]?=some y:=by
   rw [<- S.pre,List.getElem?_take_of_lt (by omega)]; exact h1
  have ndP:ps.Nodup:=by rw [<- S.pre]; exact S.nd.sublist (List.take_sublist _ _)
  refine ⟨u,rv,?_⟩
  rcases S.par y (List.mem_of_getElem? hp) with k | k
  ·exact .inl ⟨k,As3 ndP hp hu k⟩
  ·obtain ⟨c,e⟩:=Az1 (n:=s.heap.objs.size+1) k
   refine .inr ⟨.inl k,c,e,?_⟩
   have q:=x.cell y c e
   rw [As5 ndP hp hu (by show scope.names.lookup y≠_; rw [k]; decide)] at q
   exact q
 ·exact e0.hok.fresh (Nat.le_of_lt (x.above y c (PySem.mem_of_lookup h)))
 ·unfold Am7
  show _=N.length
  rw [List.length_append,List.length_map,List.length_replicate]
  omega
theorem Bq8 {CX:CXT} {P:Program} {w:World} {K:PySem.W.Frag} {mg:Str->Option Value} {base:Heap} {k:Nat} {f:Addr} {name qual:Str} {params:Arguments} {body:List Stmt} {scope:Scope} {dV kV doc pm cdv ct oc:Value} {an od:Option Addr}
  {osl:Array (Option Value)} {N ps:List Str} {sp:Sp} (lk:K.lookup f=some ⟨oc,od,.func (PySem.W.fnOf name qual params body scope dV kV doc pm an cdv ct),osl⟩) (hcd:PySem.W.codeIn K cdv qual=true) (S:Ab6 N ps scope)
  (len:∀ vs H Q E,sp vs H Q E->vs.length=ps.length)
  (hbody:∀ (A:Around) (outer:List Env) (s:Shared) (H:Hp) (vs:List V) (Q:VK) (E:XK),Room k (A.deeper (envOfC qual scope s.heap.objs.size f cdv))->sp vs H Q E ->
   ∃ t,PSs (cxOf CX P w K mg base N qual scope f cdv A outer s H E) body t/\t { nx:=λ_ H'=>Q .non H',rt:=Q } (Am7 N vs) H) :
  FnOk P w K mg base CX (k+1) f (PySem.W.fnOf name qual params body scope dV kV doc pm an cdv ct) ps sp:=by
 refine ⟨len,λA outer s H args us vs Q E hr e0 hb r hsp=>?_⟩
 have hl:=len _ _ _ _ hsp
 have KX:K.In s.heap:=e0.mod.kin.keeps λb o e=>(e0.bs b o e).1
 have lim:s.heap.NoLimit:=e0.mod.nolimit.keeps λb o e=>(e0.bs b o e).1
 have hkind:∀ y ∈ ps.zip us,scope.names.lookup y.1=some .local\/(scope.names.lookup y.1=some .cell/\((cellsFrom (s.heap.objs.size+1) scope.names []).lookup y.1).isSome=true):=λ⟨n,v⟩ hy=>by
  rcases S.par n (List.of_mem_zip hy).1 with q | q
  ·exact .inl q
  ·exact .inr ⟨q,PySem.W.cellsFrom_some _ _ _ (.inl q)⟩
 refine codeAny_call_function hr.depth (KX _ _ lk) rfl S.co S.gen rfl (PySem.W.codeRec_of KX hcd) (hb _ _ _ _ ?_)
 refine wpAny_newFunctionEnv_cells S.kind hkind λenv he s1 x=>?_
 subst he
 refine ⟨lim.keeps x.toInCall.keep,codeAny_func ?_⟩
 obtain ⟨t,ht,hq⟩:=hbody A outer s H vs Q E (hr.deeper _) hsp
 have I:Inv (cxOf CX P w K mg base N qual scope f cdv A outer s H E) [] (Am7 N vs) H s1:=Bf1 S hr.hd e0 hl r x
 refine wpAny_mono (ht [] s1 (Am7 N vs) H _ I hq) (λfl s' hs=>?_) λe s' hs=>hs
 have fin:∀ {σ':St} {H':Hp} {v:V} {u:Value},Inv (cxOf CX P w K mg base N qual scope f cdv A outer s H E) [] σ' H' s'->RelV v u->Q v H'->CE outer P w H s Q u s' :=
  λ{σ' H' v u} J rv q=>⟨v,H',J.os,J.bare,J.base,J.hok,rv,q⟩
 cases fl with
 | ret u =>
  obtain ⟨v,σ',H',J,rv,q⟩:=hs
  exact fin J rv q
 | next =>
  obtain ⟨σ',H',J,q⟩:=hs
  exact fin (v:=V.non) (u:=Value.none) J rfl q
 | brk =>
  obtain ⟨_,_,_,q⟩:=hs
  exact False.elim q
 | cont =>
  obtain ⟨_,_,_,q⟩:=hs
  exact False.elim q
end L2
namespace L2
open PySem PySem.Spec PyProof.Rows
section
variable {X : Cx} {x : Str} {p pos : Pos} {e : Expr} {es : List Expr} {t : TA} {id T : String} {r : List V → Hp → VK → Prop}
def tCB (r:List V->Hp->VK->Prop) (t:TA):TE:=λσ H Q=>t σ H λvs H1=>r vs H1 Q
theorem Ac0 (hc:Am9 X (.builtin id) r) (hg:Gl X x) (hm:X.mg x=none) (hv:bootBuiltins x=some (.builtin id)) (ha:PA X (e::es) t) (hn:x≠"__name__":=by decide) (hdb:(x == ("__debug__":Str))=false:=by decide)
  (he:starEach (e::es) X.env=(false,eval e X.env)::starEach es X.env:=by rfl) (hpl:(backTo pos (starEach es X.env)).any (·.1)=false:=by rfl):PE X (.Call (.Name x p) (e::es) [] pos) (tCB r t):=by
 intro pins s σ H Q I h
 refine wpAny_Call_Name_kw (An8 I hg hm hv ?_ hn hdb)
 exact PyProof.Rows.callWith_builtin1 (thn (ha pos pins s σ H _ I h) λus s1 ⟨vs,H1,I1,r1,q1⟩=>hc pins s1 σ H1 vs us Q I1 r1 q1) he hpl
theorem Ae6 (hc:Am9 X (.type T) r) (hg:Gl X x) (hm:X.mg x=none) (hv:bootBuiltins x=some (.type T)) (ha:PA X (e::es) t) (hn:x≠"__name__":=by decide) (hdb:(x == ("__debug__":Str))=false:=by decide)
  (he:starEach (e::es) X.env=(false,eval e X.env)::starEach es X.env:=by rfl) (hpl:(backTo pos (starEach es X.env)).any (·.1)=false:=by rfl):PE X (.Call (.Name x p) (e::es) [] pos) (tCB r t):=by
 intro pins s σ H Q I h
 refine wpAny_Call_Name_kw (An8 I hg hm hv ?_ hn hdb)
 exact PyProof.Rows.callWith_type1 (thn (ha pos pins s σ H _ I h) λus s1 ⟨vs,H1,I1,r1,q1⟩=>hc pins s1 σ H1 vs us Q I1 r1 q1) he hpl
end
end L2
namespace HT
open PySem PyProof.Rows
section
open PySem.SeqAt
open PySem.AutoSeq1 (wpAny_loadPart')
open PySem.MeetsSeq PySem.MeetsSeq2 PySem.MeetsSeq3
end
section
variable {prog : Program} {w : World} {A : Around} {E : Value → Shared → Prop} {s : Shared}
def sIx (n d:Nat):Option Int->Nat
 | none=>d
 | some v=>if v<0 then (v+(n:Int)).toNat else min v.toNat n
theorem sIx_none (n d:Nat):sIx n d none=d:=rfl
theorem sIx_nat (n d k:Nat):sIx n d (some (k:Int))=min k n:=by
 show (if (k:Int)<0 then ((k:Int)+(n:Int)).toNat else min (k:Int).toNat n)=min k n
 rw [if_neg (by omega),Int.toNat_natCast]
theorem Bt1 (n d:Nat) (hd:d<=n) (o:Option Int):sIx n d o<=n:=by
 cases o with
 | none=>exact hd
 | some v =>
  show (if v<0 then (v+(n:Int)).toNat else min v.toNat n)<=n
  by_cases hv:v<0
  ·rw [if_pos hv]; omega
  ·rw [if_neg hv]; exact Nat.min_le_right _ _
theorem Bg2 (v:Int) (n d:Nat):(if v<0 then max (v+(n:Int)) 0 else min v (n:Int))=((sIx n d (some v):Nat):Int):=by
 show (if v<0 then max (v+(n:Int)) 0 else min v (n:Int))=(((if v<0 then (v+(n:Int)).toNat else min v.toNat n):Nat):Int)
 by_cases hv:v<0
 ·simp only [if_pos hv]; omega
 ·simp only [if_neg hv]; omega
theorem Bb2 (lo hi:Option Int) (n:Nat):Builtin.Slice.sliceAdjust lo hi 1 (n:Int)=(((sIx n 0 lo:Nat):Int),((sIx n n hi:Nat):Int)):=by
 have h1:¬ ((1:Int)<0):=by omega
 unfold Builtin.Slice.sliceAdjust
 simp only [h1,if_false]
 refine Prod.ext ?_ ?_
 ·cases lo with
  | none=>rfl
  | some v=>exact Bg2 v n 0
 ·cases hi with
  | none=>rfl
  | some v=>exact Bg2 v n n
theorem Az6 (i j:Nat):Builtin.Slice.slicePlaces (i:Int) (j:Int) 1=j - i:=by
 unfold Builtin.Slice.slicePlaces
 have h1:(1:Int) > 0:=by omega
 simp only [h1,if_true,Int.ediv_one]
 split <;> omega
theorem An0 {v:Value} {o:Option Int} {Q:Option Int->Shared->Prop} (p:IsPart v o) (h:Q o s):wpAny (model prog w) A (Builtin.Slice.slicePartIndex v) Q E s:=by
 cases p with
 | none=>exact slicePart_none h
 | int i t=>exact slicePart_int h
theorem Aj7 {sl:Addr} {vl vu:Value} {lo hi:Option Int} {n:Nat} {Q:Int×Int×Nat->Shared->Prop} (hs:s.heap.IsSliceOf sl vl vu .none) (pl:IsPart vl lo) (pu:IsPart vu hi)
  (h:Q (((sIx n 0 lo:Nat):Int),1,sIx n n hi - sIx n 0 lo) s):wpAny (model prog w) A (Builtin.Slice.sliceApplied (.ref sl) (pure (n:Int))) Q E s:=by
 obtain ⟨os,hos,hcs,hds⟩:=id hs
 unfold Builtin.Slice.sliceApplied Builtin.Slice.sliceFields
 refine wpAny_bind (wpAny_bind (wpAny_field hos hds (x:=vl) rfl (wpAny_bind (wpAny_field hos hds (x:=vu) rfl (wpAny_bind (wpAny_field hos hds (x:=.none) rfl (wpAny_pure ?_)))))))
 refine wpAny_bind (slicePart_none ?_)
 show wpAny _ _ (if ((1:Int) == 0)=true then _ else _) _ _ s
 rw [if_neg (by decide)]
 refine wpAny_bind (An0 pl (wpAny_bind (An0 pu (wpAny_bind (wpAny_pure ?_)))))
 show wpAny _ _ (match Builtin.Slice.sliceAdjust lo hi 1 (n:Int) with | (lo,hi)=>pure (lo,(1:Int),Builtin.Slice.slicePlaces lo hi 1)) _ _ s
 rw [Bb2 lo hi n]
 show wpAny _ _ (pure (((sIx n 0 lo:Nat):Int),(1:Int),Builtin.Slice.slicePlaces ((sIx n 0 lo:Nat):Int) ((sIx n n hi:Nat):Int) 1)) _ _ s
 rw [Az6]
 exact wpAny_pure h
theorem Bh3 (xs:Array Value) (i k:Nat):((List.range k).filterMap λ(m:Nat)=>xs[((i:Int)+(m:Int) * 1).toNat]?).toArray=((xs.toList.drop i).take k).toArray:=by
 have e:(λ(m:Nat)=>xs[((i:Int)+(m:Int) * 1).toNat]?)=λm=>xs[i+m]?:=by
  funext m
  have:((i:Int)+(m:Int) * 1).toNat=i+m:=by omega
  rw [this]
 rw [e]
 have:=pick_run xs i k
 rw [List.filterMap_map] at this
 have e2:((λx=>xs[x]?) ∘ λx=>i+x)=λm=>xs[i+m]?:=rfl
 rw [e2] at this
 rw [this]
theorem getItem_tuple_cut {t sl:Addr} {items:Array Value} {vl vu:Value} {lo hi:Option Int} {Q:Value->Shared->Prop} (ht:IsTup s.heap t items) (hs:s.heap.IsSliceOf sl vl vu .none) (pl:IsPart vl lo) (pu:IsPart vu hi)
  (hw:¬ (sIx items.size 0 lo=0/\sIx items.size items.size hi=items.size))
  (h:Q (.ref s.heap.objs.size) { s with heap:=s.heap.push { cls:=.type "tuple",data:=.seq ((items.toList.drop (sIx items.size 0 lo)).take (sIx items.size items.size hi - sIx items.size 0 lo)).toArray } })
  (hsz:items.size<=sizeLine):wpAny (model prog w) A (getItem (.ref t) (.ref sl)) Q E s:=by
 have htake:sizeOk (.seq ((items.toList.drop (sIx items.size 0 lo)).take (sIx items.size items.size hi - sIx items.size 0 lo)).toArray):=by
  show ((items.toList.drop (sIx items.size 0 lo)).take (sIx items.size items.size hi - sIx items.size 0 lo)).toArray.size<=sizeLine
  rw [List.size_toArray,List.length_take,List.length_drop,Array.length_toList]
  omega
 have hj:sIx items.size items.size hi<=items.size:=Bt1 _ _ (Nat.le_refl _) hi
 obtain ⟨os,hos,hcs,hds⟩:=id hs
 have hTs:s.TypeIs (.ref sl) "slice":=⟨os,hos,hcs⟩
 unfold getItem
 try with_reducible refine wpAny_holding ?_
 first | refine wpAny_bind (wpAny_pure ?_) | skip
 refine wpAny_bind (wpAny_sequenceKey ht.typeIs (by decide) ?_)
 refine wpAny_bind (wpAny_callSpecial?_slot (name:=Str.ofString "__getitem__") ht.typeIs PyProof.Rows.slot_tuple_getitem
  (wpAny_call_entry PyProof.Rows.slot_tuple_getitem ht.typeIs entry_tuple_getitem ?_ (args_tuple_getitem _ _)))
 show wpAny _ _ (Builtin.Tuple.tupleItemsOf (.ref t) >>= _) _ _ s
 refine wpAny_bind (tupleItemsOf_ ht ?_)
 refine wpAny_bind (wpAny_typeOf hTs ?_)
 rw [if_pos (by decide)]
 refine wpAny_bind (Aj7 hs pl pu ?_)
 have hno:¬ ((((sIx items.size 0 lo:Nat):Int) == 0 && (1:Int) == 1 && (sIx items.size items.size hi - sIx items.size 0 lo) == items.size)=true):=by
  intro q
  rw [Bool.and_eq_true,Bool.and_eq_true] at q
  have q1:((sIx items.size 0 lo:Nat):Int)=0:=eq_of_beq q.1.1
  have q2:sIx items.size items.size hi - sIx items.size 0 lo=items.size:=eq_of_beq q.2
  exact hw ⟨by omega,by omega⟩
 show wpAny _ _ (if (((sIx items.size 0 lo:Nat):Int) == 0 && (1:Int) == 1 && (sIx items.size items.size hi - sIx items.size 0 lo) == items.size)=true then _ else _) _ _ s
 rw [if_neg hno,Bh3]
 first
  | exact wpAny_bind (m:=Builtin.Tuple.tupleExact _) (wpAny_newObj_type (wpAny_pure ⟨_,rfl,wpAny_pure h⟩) htake)
  | exact wpAny_bind (m:=Builtin.Tuple.tupleExact _) (wpAny_newObj_type (wpAny_bind (wpAny_pure (wpAny_pure ⟨_,rfl,wpAny_pure h⟩))) htake)
  | exact wpAny_bind (wpAny_bind (m:=Builtin.Tuple.tupleExact _) (wpAny_newObj_type (wpAny_pure (wpAny_pure ⟨_,rfl,wpAny_pure h⟩)) htake))
  | exact wpAny_bind (wpAny_bind (m:=Builtin.Tuple.tupleExact _) (wpAny_newObj_type (wpAny_pure ⟨_,rfl,wpAny_pure h⟩) htake))
end
end HT
namespace L2
open PySem PySem.Spec PyProof.Rows
abbrev TO:=St->Hp->(Option Int->Hp->Prop)->Prop
def PO (X:Cx) (e:Option Expr) (t:TO):Prop :=
 ∀ (pins:List (Addr×Obj)) (s:Shared) (σ:St) (H:Hp) (Q:Option Int->Hp->Prop),Inv X pins σ H s->t σ H Q ->
  wpAny (model X.prog X.w) X.A (evalPart e X.env) (λu s'=>∃ o H',Inv X pins σ H' s'/\IsPart u o/\Q o H') X.xe s
def Bm0:TO:=λ_ H Q=>Q none H
def Bx0 (t:TE):TO:=λσ H Q=>t σ H λx H1=>∃ i,x=.int i/\Q (some i) H1
section
variable {X : Cx} {e : Expr} {te : TE} {lo hi : Option Expr} {tl th : TO} {pos p2 : Pos}
theorem Bo2:PO X none Bm0:=by
 intro pins s σ H Q I h
 rw [evalPart_none]
 exact wpAny_pure ⟨none,H,I,.none,h⟩
theorem Av1 (h:PE X e te):PO X (some e) (Bx0 te):=by
 intro pins s σ H Q I hw
 rw [evalPart_some]
 refine thn (h pins s σ H _ I hw) λu s1 ⟨x,H1,I1,r1,q1⟩=>?_
 obtain ⟨i,rfl,q⟩:=q1
 obtain ⟨t,rfl⟩:=r1
 exact ⟨some i,H1,I1,.int i t,q⟩
def SlR (X:Cx) (r:V->Option Int->Option Int->Hp->VK->Prop):Prop :=
 ∀ (pins:List (Addr×Obj)) (s:Shared) (σ:St) (H:Hp) (x:V) (v vl vu:Value) (lo hi:Option Int) (sl:Addr) (Q:VK),Inv X pins σ H s->RelV x v->s.heap.IsSliceOf sl vl vu .none->IsPart vl lo->IsPart vu hi->r x lo hi H Q ->
  ∃ T id,typeLookup (.type T) "__getitem__"=pure (some (.builtin id))/\s.TypeIs v T/\wpAny (model X.prog X.w) X.A (getItem v (.ref sl)) (EP X pins σ Q) X.xe s
def tSl (r:V->Option Int->Option Int->Hp->VK->Prop) (te:TE) (tl th:TO):TE:=λσ H Q=>te σ H λx H1=>tl σ H1 λl H2=>th σ H2 λu H3=>r x l u H3 Q
theorem Ay4 {r:V->Option Int->Option Int->Hp->VK->Prop} (hr:SlR X r) (he:PE X e te) (hl:PO X lo tl) (hu:PO X hi th):PE X (.Subscript e (.Slice lo hi none p2) pos) (tSl r te tl th):=by
 intro pins s σ H Q I h
 refine Subscript_ (thn (he pins s σ H _ I h) λv s1 ⟨x,H1,I1,r1,q1⟩=>?_)
 refine wpAny_Slice (thn (hl pins s1 σ H1 _ I1 q1) λvl s2 ⟨l,H2,I2,pl,q2⟩=>thn (hu pins s2 σ H2 _ I2 q2) λvu s3 ⟨u,H3,I3,pu,q3⟩=>?_)
 rw [evalPart_none]
 refine wpAny_pure ?_
 have I4:Inv X pins σ H3 { s3 with heap:=s3.heap.push { cls:=.type "slice",data:=.fields #[vl,vu,.none] } }:=I3.kept (t':=s3.toks) λb ob q=>Heap.get?_push_of_some _ q
 obtain ⟨T,id,hT,ht,hg⟩:=hr pins { s3 with heap:=s3.heap.push { cls:=.type "slice",data:=.fields #[vl,vu,.none] } } σ H3 x v vl vu l u s3.heap.objs.size Q I4 r1 (Heap.IsSliceOf.new ..) pl pu q3
 show wpAny (model X.prog X.w) X.A (subscriptTail e (.Slice lo hi none p2) v (.ref s3.heap.objs.size)) (EP X pins σ Q) X.xe { s3 with heap:=s3.heap.push { cls:=.type "slice",data:=.fields #[vl,vu,.none] } }
 exact tail_any (ops:=[.ref s3.heap.objs.size,v]) ht hT hg (by with_unfolding_all rfl)
def cutV (xs:List V) (lo hi:Option Int):List V:=(xs.drop (HT.sIx xs.length 0 lo)).take (HT.sIx xs.length xs.length hi - HT.sIx xs.length 0 lo)
theorem Am5 (xs:List V) (lo hi:Option Int):(cutV xs lo hi).length<=xs.length:=by
 unfold cutV
 rw [List.length_take,List.length_drop]
 omega
def rSlT (K:PySem.W.Frag):V->Option Int->Option Int->Hp->VK->Prop:=λx lo hi H Q=>∃ a xs,x=.ref a/\SqT K H a xs /\
 ¬ (HT.sIx xs.length 0 lo=0/\HT.sIx xs.length xs.length hi=xs.length)/\∀ p,H p=none->Q (.ref p) (upd H p (.tup (cutV xs lo hi)))
theorem Bs6:SlR X (rSlT X.K):=by
 intro pins s σ H x v vl vu lo hi sl Q I rx hs pl pu h
 obtain ⟨a,xs,rfl,hx,hw,q⟩:=h
 cases rx
 obtain ⟨its,r,ht,hz⟩:=I.tuple hx
 have hlen:its.toArray.size=xs.length:=by rw [List.size_toArray]; exact r.length.symm
 refine ⟨"tuple",_,PyProof.Rows.slot_tuple_getitem.lookup,ht.typeIs,?_⟩
 refine HT.getItem_tuple_cut ht hs pl pu (by rw [hlen]; exact hw) ?_ (by rw [hlen]; exact hz)
 rw [hlen]
 refine ⟨.ref s.heap.objs.size,_,I.laid (t':=s.toks) (o:=.tup (cutV xs lo hi)) (λb ob q=>Heap.get?_push_of_some _ q) (Nat.le_refl _) ?_,rfl,q _ (I.hok.fresh (Nat.le_refl _))⟩
 exact ⟨Nat.le_trans (Am5 xs lo hi) hz,_,(r.drop (HT.sIx xs.length 0 lo)).take (HT.sIx xs.length xs.length hi - HT.sIx xs.length 0 lo),IsTup.new _ _⟩
end
end L2
namespace L2
open PySem PySem.Spec PyProof.Rows
def ixN (n:Nat) (i:Int):Option Nat:=if 0<=i then (if i<n then some i.toNat else none) else if -(n:Int)<=i then some (i+n).toNat else none
def atI {α:Type} (xs:List α) (i:Int):Option α:=(ixN xs.length i).bind λj=>xs[j]?
theorem Bf0 {n:Nat} {i:Int} {j:Nat} (h:ixN n i=some j):seqIndex? i n=some j/\j<n/\-(n:Int)<=i/\i<n:=by
 unfold ixN at h
 by_cases h0:0<=i
 ·rw [if_pos h0] at h
  by_cases h1:i<n
  ·rw [if_pos h1] at h
   have e:i.toNat=j:=Option.some.inj h
   exact ⟨by rw [seqIndex_of h0 h1,e],by omega,by omega,h1⟩
  ·rw [if_neg h1] at h; cases h
 ·rw [if_neg h0] at h
  by_cases h1:-(n:Int)<=i
  ·rw [if_pos h1] at h
   have e:(i+n).toNat=j:=Option.some.inj h
   exact ⟨by rw [seqIndex_neg (by omega) h1,e],by omega,h1,by omega⟩
  ·rw [if_neg h1] at h; cases h
theorem Bg5 {α:Type} {xs:List α} {i:Int} {v:α} (h:atI xs i=some v):∃ j,seqIndex? i xs.length=some j/\xs[j]?=some v/\j<xs.length/\-(xs.length:Int)<=i/\i<xs.length:=by
 unfold atI at h
 cases e:ixN xs.length i with
 | none=>rw [e] at h; cases h
 | some j =>
  rw [e] at h
  obtain ⟨h1,h2,h3,h4⟩:=Bf0 e
  exact ⟨j,h1,h,h2,h3,h4⟩
theorem Ap6 {α:Type} {xs:List α} {j:Nat} {v:α} (h:xs[j]?=some v):atI xs (j:Int)=some v:=by
 have hj:j<xs.length:=(List.getElem?_eq_some_iff.mp h).1
 have e:ixN xs.length (j:Int)=some j:=by
  unfold ixN
  rw [if_pos (by omega),if_pos (by omega)]; simp
 unfold atI; rw [e]; exact h
def Br2 (b:Expr):Prop:=∀ o i,subscripted b false o i=operate [o,i] (getItem o i)
def IxR (X:Cx) (r:R2):Prop :=
 ∀ (value slice:Expr) (pins:List (Addr×Obj)) (s:Shared) (σ:St) (H:Hp) (x y:V) (v u:Value) (Q:VK),Inv X pins σ H s->RelV x v->RelV y u->r x y H Q ->
  subscripted slice false v u=operate [v,u] (getItem v u)->wpAny (model X.prog X.w) X.A (subscriptTail value slice v u) (EP X pins σ Q) X.xe s
def MtR (X:Cx) (id:String) (r:V->List V->Hp->VK->Prop):Prop :=
 ∀ (pins:List (Addr×Obj)) (s:Shared) (σ:St) (H:Hp) (x:V) (xs:List V) (v:Value) (us:List Value) (Q:VK),Inv X pins σ H s->RelV x v->Vals xs us->r x xs H Q ->
  wpAny (model X.prog X.w) X.A (call (.builtin id) (v::us)) (EP X pins σ Q) X.xe s
section
variable {X : Cx} {a b : Expr} {ta tb : TE} {pos : Pos}
theorem Ab5 {r:R2} (hr:IxR X r) (ha:PE X a ta) (hb:PE X b tb) (hs:Br2 b):PE X (.Subscript a b pos) (tOp r ta tb):=by
 intro pins s σ H Q I h
 exact Subscript_ (binT ha hb I h λv u s2 x y H2 I2 rx ry q=>hr a b pins s2 σ H2 x y v u Q I2 rx ry q (hs _ _))
def rIxL (K:PySem.W.Frag):R2:=λx y H Q=>∃ p xs i v,x=.ref p/\y=.int i/\SqL K H p xs/\atI xs i=some v/\Q v H
def rIxT (K:PySem.W.Frag):R2:=λx y H Q=>∃ p xs i v,x=.ref p/\y=.int i/\SqT K H p xs/\atI xs i=some v/\Q v H
theorem Ad4:IxR X (rIxL X.K):=by
 intro value slice pins s σ H x y v u Q I rx ry h hs
 obtain ⟨p,xs,i,z,rfl,rfl,hq,he,q⟩:=h
 cases rx
 obtain ⟨t,rfl⟩:=ry
 obtain ⟨its,r,pl,hz⟩:=I.list hq
 obtain ⟨j,h1,h2,h3,h4,h5⟩:=Bg5 he
 obtain ⟨w,ew,rw'⟩:=r.get h2
 have hl:=r.length
 have hn:=Az0
 have fin:EP X pins σ Q w s:=⟨z,H,I,rw',q⟩
 by_cases h0:0<=i
 ·have hj:i.toNat=j:=by
   rw [seqIndex_of h0 h5] at h1
   exact Option.some.inj h1
  exact item_listR pl.isList h0 (by omega) (by rw [hj]; simpa using ew) fin hs
 ·have hj:(i+(its.toArray.size:Int)).toNat=j:=by
   rw [seqIndex_neg (by omega) h4] at h1
   rw [List.size_toArray,<- hl]
   exact Option.some.inj h1
  exact subscriptTail_builtinR (x:=w) pl.isList.typeIs slot_list_getitem.lookup
   (wpAny_getItem_list_neg (Q:=λr s'=>r=w/\EP X pins σ Q r s') pl.isList (by omega) (by rw [List.size_toArray] <;> omega) (by omega) (by rw [hj]; simpa using ew) ⟨rfl,fin⟩) hs
theorem Ab3:IxR X (rIxT X.K):=by
 intro value slice pins s σ H x y v u Q I rx ry h hs
 obtain ⟨p,xs,i,z,rfl,rfl,hq,he,q⟩:=h
 cases rx
 obtain ⟨t,rfl⟩:=ry
 obtain ⟨its,r,pl,hz⟩:=I.tuple hq
 obtain ⟨j,h1,h2,h3,h4,h5⟩:=Bg5 he
 obtain ⟨w,ew,rw'⟩:=r.get h2
 have hl:=r.length
 have hn:=Az0
 have fin:EP X pins σ Q w s:=⟨z,H,I,rw',q⟩
 exact subscriptTail_builtinR (x:=w) pl.typeIs slot_tuple_getitem.lookup
  (getItem_tuple (j:=j) (Q:=λr s'=>r=w/\EP X pins σ Q r s') pl (by omega) (by omega) (by rw [List.size_toArray,<- hl]; exact h1) (by simpa using ew) ⟨rfl,fin⟩) hs
theorem Ba1 (its:List Value) (n j:Nat) (u:Value):Obj.mapSeq (·.setIfInBounds j u) { cls:=.type "list",data:=.seq its.toArray n }={ cls:=.type "list",data:=.seq (its.set j u).toArray n }:=by
 simp [Obj.mapSeq]
theorem Inv.lst {pins:List (Addr×Obj)} {σ:St} {H:Hp} {s:Shared} {p:Addr} {xs:List V} (I:Inv X pins σ H s) (h:H p=some (.lst xs)) :
  ∃ (its:List Value) (n:Nat),Vals xs its/\s.heap.get? p=some { cls:=.type "list",data:=.seq its.toArray n }/\xs.length<=sizeLine:=by
 obtain ⟨z,its,n,r,e⟩:=I.hok p _ h
 exact ⟨its,n,r,e,z⟩
theorem Inv.lstUpd {pins:List (Addr×Obj)} {σ:St} {H:Hp} {s:Shared} {p:Addr} {xs ys:List V} {its its':List Value} {n n':Nat} {f:Obj->Obj} (I:Inv X pins σ H s) (h:H p=some (.lst xs))
  (ho:s.heap.get? p=some { cls:=.type "list",data:=.seq its.toArray n }) (hf:f { cls:=.type "list",data:=.seq its.toArray n }={ cls:=.type "list",data:=.seq its'.toArray n' }) (r:Vals ys its') (hz:ys.length<=sizeLine) (t:Nat) :
  Inv X pins σ (upd H p (.lst ys)) { s with heap:=s.heap.update p f,toks:=t }:=by
 have e:(s.heap.update p f).get? p=some { cls:=.type "list",data:=.seq its'.toArray n' }:=by
  rw [Heap.get?_update_self f ho (by rw [hf] <;> rfl),hf]
 refine I.write (x:=p) (e:=p) (by rw [h]; trivial) (.inl rfl) (λb u hb q=>(Heap.get?_update_other _ _ (Ne.symm hb)).trans q) ⟨_,e⟩ ?_
 exact ⟨hz,its',n',r,e⟩
def By1:V->V->V->Hp->(Hp->Prop)->Prop:=λo i v H Q=>∃ p xs k j,o=.ref p/\i=.int k/\H p=some (.lst xs)/\ixN xs.length k=some j/\Q (upd H p (.lst (xs.set j v)))
theorem Af8:PSet X By1:=by
 intro pins s σ H o i v ov iv u Q I ro ri rv h
 obtain ⟨p,xs,k,j,rfl,rfl,hp,hj,q⟩:=h
 cases ro
 obtain ⟨t,rfl⟩:=ri
 obtain ⟨its,n,r,ho,hz⟩:=I.lst hp
 obtain ⟨h1,h2,h3,h4⟩:=Bf0 hj
 have hl:=r.length
 have hn:=Az0
 have I':Inv X pins σ (upd H p (.lst (xs.set j v))) { s with heap:=s.heap.update p (Obj.mapSeq (·.setIfInBounds j u)) } :=
  I.lstUpd hp ho (Ba1 its n j u) (r.set rv j) (by rw [List.length_set]; exact hz) s.toks
 by_cases h0:0<=k
 ·have hk:k.toNat=j:=by
   rw [seqIndex_of h0 h4] at h1
   exact Option.some.inj h1
  exact PySem.W.ki_setAt ho h0 (by omega) (by rw [List.size_toArray,<- hl]; exact h4) (by rw [hk]; exact ⟨_,I',q⟩)
 ·have hk:(k+(its.toArray.size:Int)).toNat=j:=by
   rw [seqIndex_neg (by omega) h3] at h1
   rw [List.size_toArray,<- hl]
   exact Option.some.inj h1
  exact PySem.W.ki_setBack ho (by omega) (by rw [List.size_toArray,<- hl]; exact h3) (by omega) (by rw [hk]; exact ⟨_,I',q⟩)
theorem Aq0 (lo hi:Option Int) (n:Nat):(sliceBounds lo hi none n).1=((HT.sIx n 0 lo:Nat):Int)/\(sliceBounds lo hi none n).2.1=((HT.sIx n n hi:Nat):Int)/\(sliceBounds lo hi none n).2.2=1:=by
 refine ⟨?_,?_,rfl⟩
 ·cases lo with
  | none=>simp [sliceBounds,HT.sIx]
  | some i =>
   simp only [sliceBounds,HT.sIx,Option.getD_none,show (1:Int) > 0 by decide,if_true]
   by_cases h:i<0
   ·simp only [h,if_true] <;> omega
   ·simp only [h,if_false] <;> omega
 ·cases hi with
  | none=>simp [sliceBounds,HT.sIx]
  | some i =>
   simp only [sliceBounds,HT.sIx,Option.getD_none,show (1:Int) > 0 by decide,if_true]
   by_cases h:i<0
   ·simp only [h,if_true] <;> omega
   ·simp only [h,if_false] <;> omega
theorem Ao5 (its:List Value) (lo hi:Option Int):slicePick its.toArray lo hi none=((its.drop (HT.sIx its.length 0 lo)).take (HT.sIx its.length its.length hi - HT.sIx its.length 0 lo)).toArray:=by
 obtain ⟨h1,h2,h3⟩:=Aq0 lo hi its.toArray.size
 unfold slicePick
 rw [h1,h2,h3]
 simp only [sliceRange_one,pick_run,List.size_toArray] <;> rfl
def rSlL (K:PySem.W.Frag):V->Option Int->Option Int->Hp->VK->Prop:=λx lo hi H Q=>∃ a xs,x=.ref a/\SqL K H a xs/\∀ p,H p=none->Q (.ref p) (upd H p (.lst (cutV xs lo hi)))
theorem Bm9:SlR X (rSlL X.K):=by
 intro pins s σ H x v vl vu lo hi sl Q I rx hs pl pu h
 obtain ⟨a,xs,rfl,hx,q⟩:=h
 cases rx
 obtain ⟨its,r,ht,hz⟩:=I.list hx
 have hlen:=r.length
 refine ⟨"list",_,slot_list_getitem.lookup,ht.isList.typeIs,?_⟩
 refine wpAny_getItem_list_slice ht.isList hs pl pu .none (by simp) ?_ (by rw [List.size_toArray] <;> omega)
 rw [Ao5,<- hlen]
 refine ⟨.ref s.heap.objs.size,_,I.laid (t':=s.toks) (o:=.lst (cutV xs lo hi)) (λb ob q=>Heap.get?_push_of_some _ q) (Nat.le_refl _) ?_,rfl,q _ (I.hok.fresh (Nat.le_refl _))⟩
 exact ⟨Nat.le_trans (Am5 xs lo hi) hz,_,0,(r.drop (HT.sIx xs.length 0 lo)).take (HT.sIx xs.length xs.length hi - HT.sIx xs.length 0 lo),Heap.get?_push_size _ rfl⟩
def Ar6:V->Bool
 | .non=>true
 | .bl _=>true
 | .int _=>true
 | .str _=>true
 | _=>false
def eqV:V->V->Bool
 | .non,.non=>true
 | .bl a,.bl b=>a == b
 | .bl a,.int b=>(if a then 1 else 0) == b
 | .int a,.bl b=>a == (if b then 1 else 0)
 | .int a,.int b=>a == b
 | .str a,.str b=>a == b
 | _,_=>false
theorem Bw4 {A:Around} {s:Shared} {y x:V} {u v:Value} (ry:RelV y u) (rx:RelV x v) (fy:Ar6 y=true) (fx:Ar6 x=true):SeqAt.EqAt A s u v (eqV y x):=by
 cases y with
 | non =>
  cases ry
  cases x with
  | non=>cases rx; exact SeqAt.EqAt.same _
  | bl b=>cases rx; exact SeqAt.EqAt.none_bool b
  | int b=>obtain ⟨t,rfl⟩:=rx; exact SeqAt.EqAt.none_int b t
  | str b=>obtain ⟨t,rfl⟩:=rx; exact SeqAt.EqAt.none_str b t
  | _=>exact absurd (show false=true from fx) Bool.false_ne_true
 | bl a =>
  cases ry
  cases x with
  | non=>cases rx; exact SeqAt.EqAt.bool_none a
  | bl b=>cases rx; exact SeqAt.EqAt.bool_bool a b
  | int b=>obtain ⟨t,rfl⟩:=rx; exact SeqAt.EqAt.bool_int a b t
  | str b=>obtain ⟨t,rfl⟩:=rx; exact SeqAt.EqAt.bool_str a b t
  | _=>exact absurd (show false=true from fx) Bool.false_ne_true
 | int a =>
  obtain ⟨t',rfl⟩:=ry
  cases x with
  | non=>cases rx; exact SeqAt.EqAt.int_none a t'
  | bl b=>cases rx; exact SeqAt.EqAt.int_bool a t' b
  | int b=>obtain ⟨t,rfl⟩:=rx; exact SeqAt.EqAt.int_int a t' b t
  | str b=>obtain ⟨t,rfl⟩:=rx; exact SeqAt.EqAt.int_str a t' b t
  | _=>exact absurd (show false=true from fx) Bool.false_ne_true
 | str a =>
  obtain ⟨t',rfl⟩:=ry
  cases x with
  | non=>cases rx; exact SeqAt.EqAt.str_none a t'
  | bl b=>cases rx; exact SeqAt.EqAt.str_bool a t' b
  | int b=>obtain ⟨t,rfl⟩:=rx; exact SeqAt.EqAt.str_int a t' b t
  | str b=>obtain ⟨t,rfl⟩:=rx; exact SeqAt.EqAt.str_str a t' b t
  | _=>exact absurd (show false=true from fx) Bool.false_ne_true
 | _=>exact absurd (show false=true from fy) Bool.false_ne_true
def eqU (x:V) (u:Value):Bool:=match u with
 | .none=>eqV .non x
 | .bool b=>eqV (.bl b) x
 | .int i _=>eqV (.int i) x
 | .str z _=>eqV (.str z) x
 | _=>false
theorem Bl5 {x y:V} {u:Value} (r:RelV y u) (f:Ar6 y=true):eqU x u=eqV y x:=by
 cases y with
 | non=>cases r; rfl
 | bl b=>cases r; rfl
 | int i=>obtain ⟨t,rfl⟩:=r; rfl
 | str z=>obtain ⟨t,rfl⟩:=r; rfl
 | _=>exact absurd (show false=true from f) Bool.false_ne_true
theorem Ax5 {x:V}:∀ {xs:List V} {us:List Value},Vals xs us->xs.all Ar6=true->us.any (eqU x)=xs.any λy=>eqV y x
 | _,_,.nil,_=>rfl
 | y::xs,u::us,.cons r t,f=>by
  rw [List.all_cons,Bool.and_eq_true] at f
  rw [List.any_cons,List.any_cons,Bl5 r f.1,Ax5 t f.2]
theorem Ap2 {A:Around} {s:Shared} {x:V} {v:Value} (rx:RelV x v) (fx:Ar6 x=true):∀ {xs:List V} {us:List Value},Vals xs us->xs.all Ar6=true->∀ u ∈ us,SeqAt.EqAt A s u v (eqU x u)
 | _,_,.nil,_=>λu hu=>by cases hu
 | y::xs,u::us,.cons r t,f=>λu' hu=>by
  rw [List.all_cons,Bool.and_eq_true] at f
  rcases List.mem_cons.mp hu with rfl | hu
  ·rw [Bl5 r f.1]; exact Bw4 r rx f.1 fx
  ·exact Ap2 rx fx t f.2 u' hu
def inV (x:V) (xs:List V):Bool:=xs.any λy=>eqV y x
def rIn (K:PySem.W.Frag) (neg:Bool):R2:=λx y H Q=>∃ p xs,y=.ref p/\(SqL K H p xs\/SqT K H p xs)/\Ar6 x=true/\xs.all Ar6=true/\Q (.bl (if neg then !inV x xs else inV x xs)) H
theorem Bd9:OpR X (compareOp .In) (rIn X.K false):=by
 intro pins s σ H x y v u Q I rx ry h
 obtain ⟨p,xs,rfl,hq,fx,fs,q⟩:=h
 cases ry
 rcases hq with hq | hq
 ·obtain ⟨its,r,pl,hz⟩:=I.list hq
  refine SeqAt.in_listAt (eqU x) pl.isList (λw hw=>Ap2 rx fx r fs w (by simpa using hw)) ⟨.bl _,H,I,rfl,?_⟩
  rw [show its.toArray.any (eqU x)=its.any (eqU x) by simp,Ax5 r fs]
  exact q
 ·obtain ⟨its,r,pl,hz⟩:=I.tuple hq
  refine SeqAt.in_tupleAt (eqU x) pl (λw hw=>Ap2 rx fx r fs w (by simpa using hw)) ⟨.bl _,H,I,rfl,?_⟩
  rw [show its.toArray.any (eqU x)=its.any (eqU x) by simp,Ax5 r fs]
  exact q
theorem Ac6:Am9 X (.builtin "len") (λxs H Q=>∃ p ys,xs=[.ref p]/\(SqL X.K H p ys\/SqT X.K H p ys)/\Q (.int ys.length) H):=by
 intro pins s σ H xs us Q I r h
 obtain ⟨p,ys,rfl,hq,q⟩:=h
 obtain ⟨u,rfl,rx⟩:=Br5 r
 cases rx
 have hn:=Az0
 rcases hq with hq | hq
 ·obtain ⟨its,r',pl,hz⟩:=I.list hq
  have hlen:=r'.length
  exact Calls.call_len_list pl.isList (by simp only [List.size_toArray] <;> omega) ⟨.int ys.length,H,I.tok _,⟨s.toks+1,by rw [List.size_toArray,hlen]⟩,q⟩
 ·obtain ⟨its,r',pl,hz⟩:=I.tuple hq
  have hlen:=r'.length
  exact len_tuple pl (by simp only [List.size_toArray] <;> omega) ⟨.int ys.length,H,I.tok _,⟨s.toks+1,by rw [List.size_toArray,hlen]⟩,q⟩
theorem Ad1:Am9 X (.type "list") (λxs H Q=>∃ p ys,xs=[.ref p]/\(SqL X.K H p ys\/SqT X.K H p ys)/\∀ l,H l=none->Q (.ref l) (upd H l (.lst ys))):=by
 intro pins s σ H xs us Q I r h
 obtain ⟨p,ys,rfl,hq,q⟩:=h
 obtain ⟨u,rfl,rx⟩:=Br5 r
 cases rx
 have fin:∀ (its:List Value),Vals ys its->ys.length<=sizeLine->∀ (h':Heap) (c':Nat),(∀ b o',s.heap.get? b=some o'->h'.get? b=some o') ->
   h'.get? s.heap.objs.size=some { cls:=.type "list",dict:=none,data:=.seq its.toArray c',slots:=#[] }->EP X pins σ Q (.ref s.heap.objs.size) { s with heap:=h' }:=λits r' hz h' c' kp e =>
  ⟨.ref s.heap.objs.size,_,I.laid (t':=s.toks) kp (Nat.le_refl _) (show ObjOk X.prog X.w _ h' _ (.lst ys) from ⟨hz,its,c',r',e⟩),rfl,q _ (I.hok.fresh (Nat.le_refl _))⟩
 rcases hq with hq | hq
 ·obtain ⟨its,r',pl,hz⟩:=I.list hq
  have hlen:=r'.length
  obtain ⟨o,ho,hc,n,hd⟩:=pl.isList
  exact call_list_seq p (.inl rfl) ho hc hd (λh' c' kp e=>fin its r' hz h' c' kp e) (by simp only [List.size_toArray] <;> omega)
 ·obtain ⟨its,r',pl,hz⟩:=I.tuple hq
  have hlen:=r'.length
  obtain ⟨o,ho,hc,n,hd⟩:=pl
  exact call_list_seq p (.inr rfl) ho hc hd (λh' c' kp e=>fin its r' hz h' c' kp e) (by simp only [List.size_toArray] <;> omega)
def tyV (K:PySem.W.Frag) (T:String) (x:V) (H:Hp):Prop:=match x with
 | .str _=>T = "str"
 | .int _=>T = "int"
 | .ref p=>(T = "list"/\∃ xs,SqL K H p xs)\/(T = "tuple"/\∃ o,K.lookup p=some o/\o.cls=.type "tuple"/\o.dict=none) \/
   (T = "dict"/\((∃ kvs,H p=some (.dK kvs))\/∃ kvs,H p=some (.dT kvs)))\/(T = "set"/\∃ S n,H p=some (.set S n))
 | _=>False
theorem Bk5 {pins:List (Addr×Obj)} {σ:St} {H:Hp} {s:Shared} {T:String} {x:V} {v:Value} (I:Inv X pins σ H s) (r:RelV x v) (ty:tyV X.K T x H) :
  s.TypeIs v T/\∀ a,v=.ref a->∃ ob,s.heap.get? a=some ob/\ob.dict=none:=by
 cases x with
 | str z =>
  obtain ⟨t,rfl⟩:=r
  cases (show T = "str" from ty)
  exact ⟨typeIs_str s z t,λ_ e=>nomatch e⟩
 | int i =>
  obtain ⟨t,rfl⟩:=r
  cases (show T = "int" from ty)
  exact ⟨typeIs_int s i t,λ_ e=>nomatch e⟩
 | ref p =>
  cases r
  rcases ty with ⟨rfl,xs,hq⟩ | ⟨rfl,o,hk,hc,hd⟩ | ⟨rfl,hk⟩ | ⟨rfl,S,n,hk⟩
  ·obtain ⟨its,_,pl,_⟩:=I.list hq
   refine ⟨pl.isList.typeIs,λa e=>?_⟩
   cases e
   obtain ⟨o,n,e,c,hd,_⟩:=pl
   exact ⟨o,e,hd⟩
  ·refine ⟨⟨o,I.kIn p o hk,hc⟩,λa e=>?_⟩
   cases e
   exact ⟨o,I.kIn _ o hk,hd⟩
  ·have z:∃ o,s.heap.get? p=some o/\o.ExactDict:=by
    rcases hk with ⟨kvs,hk⟩ | ⟨kvs,hk⟩
    ·obtain ⟨_,_,_,_,o,_,_,e,ex,_⟩:=I.hok p _ hk
     exact ⟨o,e,ex⟩
    ·obtain ⟨_,_,_,_,o,_,_,e,ex,_⟩:=I.hok p _ hk
     exact ⟨o,e,ex⟩
   obtain ⟨o,e,ex⟩:=z
   refine ⟨⟨o,e,ex.1⟩,λa e2=>?_⟩
   cases e2
   exact ⟨o,e,ex.2.1⟩
  ·obtain ⟨o,_,_,_,e,ex,_⟩:=I.hok p _ hk
   refine ⟨⟨o,e,ex.1⟩,λa e2=>?_⟩
   cases e2
   exact ⟨o,e,ex.2.1⟩
 | _=>exact False.elim ty
def tBM0 (K:PySem.W.Frag) (T:String) (r:V->List V->Hp->VK->Prop) (to:TE):TE:=λσ H Q=>to σ H λx H1=>tyV K T x H1/\r x [] H1 Q
def tBM (K:PySem.W.Frag) (T:String) (r:V->List V->Hp->VK->Prop) (to:TE) (t:TA):TE:=λσ H Q=>to σ H λx H1=>tyV K T x H1/\t σ H1 λxs H2=>r x xs H2 Q
variable {o e : Expr} {es : List Expr} {to : TE} {t : TA} {name : Str} {apos cpos : Pos} {T id : String} {r : V → List V → Hp → VK → Prop}
theorem Bt8 (pa:PlainAttrs T) (slot:Slot T name id) (hty:typeOf (.builtin id)=pure (.type "method_descriptor")) (hm:MtR X id r) (ho:PE X o to)
  (hbase:attributeBase o name X.env (eval o X.env)=eval o X.env:=by rfl) (hline:(apos.endLine == cpos.line)=true:=by rfl):PE X (.Call (.Attribute o name apos) [] [] cpos) (tBM0 X.K T r to):=by
 intro pins s σ H Q I h
 refine wpAny_Call_method0_late hbase hline (thn (ho pins s σ H _ I h) λv s1 ⟨x,H1,I1,r1,ty,q1⟩=>?_)
 obtain ⟨h1,h2⟩:=Bk5 I1 r1 ty
 exact ⟨T,id,pa,slot,hty,h1,h2,Calls.callWith_builtin rfl (PySem.evalArgs_none (hm pins s1 σ H1 x [] v [] Q I1 r1 .nil q1))⟩
theorem Bo4 (pa:PlainAttrs T) (slot:Slot T name id) (hty:typeOf (.builtin id)=pure (.type "method_descriptor")) (hm:MtR X id r) (ho:PE X o to) (ha:PA X (e::es) t)
  (hbase:attributeBase o name X.env (eval o X.env)=eval o X.env:=by rfl)
  (hfew:((backTo cpos (starEach (e::es) X.env)).all (λx=>!x.1) && (backToKw cpos (keywordEach [] X.env)).all (λx=>x.1.isSome)
   && decide ((e::es).length+([]:List Keyword).length+(if ([]:List Keyword).isEmpty then 0 else 1)<30))=true:=by rfl)
  (hline:(apos.endLine == cpos.line)=true:=by rfl) (hs:starEach (e::es) X.env=(false,eval e X.env)::starEach es X.env:=by rfl) (hplain:(backTo cpos (starEach es X.env)).any (·.1)=false:=by rfl) :
  PE X (.Call (.Attribute o name apos) (e::es) [] cpos) (tBM X.K T r to t):=by
 intro pins s σ H Q I h
 refine wpAny_Call_method_late hbase hfew hline rfl (thn (ho pins s σ H _ I h) λv s1 ⟨x,H1,I1,r1,ty,q1⟩=>?_)
 obtain ⟨h1,h2⟩:=Bk5 I1 r1 ty
 refine ⟨T,id,pa,slot,hty,h1,h2,?_⟩
 have hA:=ha cpos pins s1 σ H1 _ I1 q1
 rw [hs] at hA ⊢
 refine Calls.callWith_builtin (by show (false || (backTo cpos (starEach es X.env)).any (·.1))=false; rw [hplain] <;> rfl) (Calls.evalArgs_plain ?_)
 exact thn hA λus s2 ⟨vs,H2,I2,r2,q2⟩=>hm pins s2 σ H2 x vs v us Q I2 r1 r2 q2
/- xs.append(e),list.index on a module's tuple .. are MtR facts of 06m -/
end
end L2
namespace L2
open PySem PySem.Spec PyProof.Rows
def MtM (X:Cx) (id:String) (r:V->List V->Hp->VK->Prop):Prop :=
 ∀ (pins:List (Addr×Obj)) (s:Shared) (σ:St) (H:Hp) (x:V) (xs:List V) (v:Value) (us:List Value) (Q:VK),Inv X pins σ H s->RelV x v->Vals xs us->r x xs H Q ->
  wpAny (model X.prog X.w) X.A (call (.builtin id) (v::us)) (EP X pins σ Q) X.xe s
theorem Vals.one:∀ {x:V} {us:List Value},Vals [x] us->∃ u,us=[u]/\RelV x u
 | _,_,.cons r .nil=>⟨_,rfl,r⟩
theorem Vals.two:∀ {x y:V} {us:List Value},Vals [x,y] us->∃ u v,us=[u,v]/\RelV x u/\RelV y v
 | _,_,_,.cons r (.cons q .nil)=>⟨_,_,rfl,r,q⟩
theorem Vals.zero:∀ {us:List Value},Vals [] us->us=[]
 | _,.nil=>rfl
theorem Vals.rep {xs:List V} {us:List Value} (h:Vals xs us):∀ k:Nat,Vals (List.replicate k xs).flatten (List.replicate k us).flatten
 | 0=>.nil
 | k+1=>by
  rw [List.replicate_succ,List.replicate_succ,List.flatten_cons,List.flatten_cons]
  exact Vals.append h (Vals.rep h k)
theorem Ar5 (its:List Value):∀ (k:Nat) (acc:List Value),
  List.foldl (λx1 x2=>x1++x2) acc.toArray (List.replicate k its.toArray)=(acc++(List.replicate k its).flatten).toArray
 | 0,acc=>by simp
 | k+1,acc=>by
  have e:acc.toArray++its.toArray=(acc++its).toArray:=by simp
  have e2:(acc++its)++(List.replicate k its).flatten=acc++(List.replicate (k+1) its).flatten:=by
   rw [List.replicate_succ,List.flatten_cons,List.append_assoc]
  rw [<- e2,<- Ar5 its k (acc++its),<- e,List.replicate_succ,List.foldl_cons]
section
variable {X : Cx} {pins : List (Addr × Obj)} {σ : St} {H : Hp} {s : Shared} {l b : Addr} {xs ys zs : List V}
theorem Inv.lset {its its':List Value} {n:Nat} {f:Array Value->Array Value} {t':Nat} (I:Inv X pins σ H s) (hH:H l=some (.lst xs))
  (e:s.heap.get? l=some { cls:=.type "list",data:=.seq its.toArray n }) (hf:f its.toArray=its'.toArray) (hv:Vals ys its') (hz:ys.length<=sizeLine) :
  Inv X pins σ (upd H l (.lst ys)) { s with heap:=s.heap.update l (Obj.mapSeq f),toks:=t' }:=by
 have q:=PySem.IsL.update e f
 rw [hf] at q
 refine I.write (x:=l) (e:=l) (by rw [hH]; exact trivial) (.inl rfl) (λb' u hb hu=>(Heap.get?_update_other s.heap (Obj.mapSeq f) (Ne.symm hb)).trans hu) ⟨_,q⟩ ?_
 exact ⟨hz,its',_,hv,q⟩
theorem Inv.lnew {its:List Value} {t':Nat} (I:Inv X pins σ H s) (hv:Vals ys its) (hz:ys.length<=sizeLine) :
  Inv X pins σ (upd H s.heap.objs.size (.lst ys)) { s with heap:=s.heap.push { cls:=.type "list",data:=.seq its.toArray },toks:=t' } :=
 I.laid (λ_ _ q=>Heap.get?_push_of_some _ q) (Nat.le_refl _) ⟨hz,its,0,hv,Heap.get?_push_size _ rfl⟩
theorem Inv.fresh (I:Inv X pins σ H s):H s.heap.objs.size=none:=I.hok.fresh (Nat.le_refl _)
theorem Inv.lstM (I:Inv X pins σ H s) (hH:H l=some (.lst xs)):xs.length<=sizeLine/\∃ (its:List Value) (n:Nat),Vals xs its/\xs.length=its.length/\s.heap.get? l=some { cls:=.type "list",data:=.seq its.toArray n }:=by
 obtain ⟨z,its,n,r,e⟩:=I.hok l _ hH
 exact ⟨z,its,n,r,r.length,e⟩
theorem Bj3 {n:Nat} (h:n<=sizeLine):Builtin.List.listTooLong n=false:=by
 unfold Builtin.List.listTooLong
 exact decide_eq_false (by omega)
end
section
variable {X : Cx}
def Bn9:V->List V->Hp->VK->Prop:=λx vs H Q=>∃ l xs y,x=.ref l/\vs=[y]/\H l=some (.lst xs)/\xs.length<sizeLine/\Q .non (upd H l (.lst (xs++[y])))
theorem Ah4:MtM X "list.append" Bn9:=by
 intro pins s σ H x vs v us Q I rx rv h
 obtain ⟨l,xs,y,rfl,rfl,hH,hz,q⟩:=h
 cases rx
 obtain ⟨u,rfl,ru⟩:=rv.one
 obtain ⟨z,its,n,r,hl,e⟩:=I.lstM hH
 refine call_meets F.slot_list_append ⟨_,e,rfl⟩ F.entry_list_append (F.args_list_append_2 _ _) (PySem.list_append l its.toArray n u (by rw [List.size_toArray]; omega)) ⟨e,?_⟩
 refine ⟨.non,_,I.lset (its':=its++[u]) hH e (by simp) (r.append (.cons ru .nil)) ?_,rfl,q⟩
 rw [List.length_append,List.length_singleton]
 omega
def Bt2:V->List V->Hp->VK->Prop:=λx vs H Q=>∃ l xs,x=.ref l/\vs=[]/\H l=some (.lst xs)/\Q .non (upd H l (.lst []))
theorem Bj4:MtM X "list.clear" Bt2:=by
 intro pins s σ H x vs v us Q I rx rv h
 obtain ⟨l,xs,rfl,rfl,hH,q⟩:=h
 cases rx
 have hus:=rv.zero
 subst hus
 obtain ⟨z,its,n,r,hl,e⟩:=I.lstM hH
 refine call_meets F.slot_list_clear ⟨_,e,rfl⟩ F.entry_list_clear (F.args_list_clear_1 _) (AutoSeq1.list_clear_list_0 l its.toArray n (by rw [List.size_toArray]; omega)) ⟨e,?_⟩
 exact ⟨.non,_,I.lset (its':=[]) (ys:=[]) hH e rfl .nil (Nat.zero_le _),rfl,q⟩
def rCat:R2:=λx y H Q=>∃ l b xs zs,x=.ref l/\y=.ref b/\H l=some (.lst xs)/\H b=some (.lst zs)/\xs.length+zs.length<=sizeLine/\∀ p,H p=none->Q (.ref p) (upd H p (.lst (xs++zs)))
theorem Bu3:OpR X (binaryOp .Add) rCat:=by
 intro pins s σ H x y v u Q I rx ry h
 obtain ⟨l,b,xs,zs,rfl,rfl,hH,hB,hz,q⟩:=h
 cases rx
 cases ry
 obtain ⟨z,its,n,r,hl,e⟩:=I.lstM hH
 obtain ⟨z2,its2,n2,r2,hl2,e2⟩:=I.lstM hB
 refine PySem.P.add_list e e2 ?_ (by rw [List.size_toArray,List.size_toArray]; omega)
 have ea:its.toArray++its2.toArray=(its++its2).toArray:=by simp
 rw [ea]
 exact ⟨.ref _,_,I.lnew (t':=s.toks) (r.append r2) (by rw [List.length_append]; omega),rfl,q _ I.fresh⟩
def rRep:R2:=λx y H Q=>∃ l k xs,x=.ref l/\y=.int k/\H l=some (.lst xs)/\-(2 ^ 63)<=k/\k<2 ^ 63/\xs.length * k.toNat<=sizeLine /\
 ∀ p,H p=none->Q (.ref p) (upd H p (.lst (List.replicate k.toNat xs).flatten))
theorem Bq3 {α:Type} (xs:List α) (k:Nat):(List.replicate k xs).flatten.length=k * xs.length:=by
 induction k with
 | zero=>simp
 | succ k ih=>rw [List.replicate_succ,List.flatten_cons,List.length_append,ih,Nat.succ_mul,Nat.add_comm]
theorem Bl1:OpR X (binaryOp .Mult) rRep:=by
 intro pins s σ H x y v u Q I rx ry h
 obtain ⟨l,k,xs,rfl,rfl,hH,h1,h2,hz,q⟩:=h
 cases rx
 obtain ⟨t,rfl⟩:=ry
 obtain ⟨z,its,n,r,hl,e⟩:=I.lstM hH
 have hlen:its.toArray.size * k.toNat<=sizeLine:=by rw [List.size_toArray,<- hl]; exact hz
 have hcap:¬ its.toArray.size * k.toNat > (2 ^ 63 - 1) / 8:=by
  have:(sizeLine:Nat)<=(2 ^ 63 - 1) / 8:=by decide
  omega
 have hfit:¬ (!Builtin.List.listFitsIndex k)=true:=by
  rw [fitsIndex_both h1 h2]
  exact Bool.false_ne_true
 have hlong:¬ Builtin.List.listTooLong (its.toArray.size * k.toNat)=true:=by
  rw [Bj3 hlen]
  exact Bool.false_ne_true
 have hnew:List.foldl (λx1 x2=>x1++x2) #[] (List.replicate (if its.toArray.isEmpty=true then 0 else k.toNat) its.toArray)=(List.replicate k.toNat its).flatten.toArray:=by
  have f0:∀ m:Nat,List.foldl (λx1 x2=>x1++x2) #[] (List.replicate m its.toArray)=(List.replicate m its).flatten.toArray:=λm=>by
   have:=Ar5 its m []
   rw [List.nil_append] at this
   exact this
  rw [f0]
  cases its with
  | nil=>simp
  | cons a r'=>rw [if_neg (by simp)]
 refine wpAny_binaryOp_repeat_ref (T:="list") (U:="int") (by decide) ⟨_,e,rfl⟩ (λs'=>typeIs_int s' k t) noFill_list_mul F.fills_int_mul F.slot_int_rmul repeat_list F.slot_int_index.lookup
  (call_meets F.slot_int_rmul (typeIs_int s k t) F.entry_int_rmul (F.args_int_rmul_2 _ _) (int___rmul___int_list k t l its.toArray n)
   ⟨e,rfl,⟨_,e,rfl⟩,call_meets F.slot_list_mul ⟨_,e,rfl⟩ F.entry_list_mul (F.args_list_mul_2 _ _) (AutoListH.list___mul___list_int_3 l its.toArray n k t hfit hcap hlong) ⟨e,?_⟩⟩)
 rw [hnew]
 exact ⟨.ref _,_,I.lnew (t':=s.toks) (r.rep k.toNat) (by rw [Bq3,Nat.mul_comm]; exact hz),rfl,q _ I.fresh⟩
end
section
variable {prog : Program} {w : World} {A : Around} {E : Value → Shared → Prop} {s : Shared}
set_option maxRecDepth 100000 in
end
section
variable {X : Cx}
end
end L2
namespace Att
open PySem PySem.W PySem.Calls PyProof.Rows
theorem Am3 {P:Params} {h:Heap}:∀ (ns:List Int) (vs:List Value),WellAll P h vs (ns.map WData.int)->IntsAre vs ns:=by
 intro ns
 induction ns with
 | nil =>
  intro vs w
  rw [List.map_nil] at w
  cases w
  exact .nil
 | cons n ns ih =>
  intro vs w
  rw [List.map_cons] at w
  cases w with
  | cons a b =>
   cases a
   exact .cons _ _ (ih _ b)
theorem Bc6 {l:OpenLaw} {n:Nat} (hn:l.most=some n) {P:Params} {h:Heap} {args:List WData} {vals:List Value}
  (hpre:l.row.toRowW.claim.pre args=true) (hwl:WellAll P h vals args) :
  ∃ a vs ns,vals=[Value.ref a]/\args=[WData.list (ns.map WData.int)]/\h.get? a=some { cls:=.type "list",data:=.seq vs.toArray }/\IntsAre vs ns/\ns.length<=n:=by
 have hsh:WShape.hasAll [] args [.list .int]=true:=(pre_splitW hpre).1
 have hc:l.pre.holds [] { args:=args }=true:=(pre_splitW hpre).2
 obtain ⟨d,r,rfl,h1,h2⟩:=hasAllW_cons hsh
 obtain rfl:=hasAllW_nil h2
 obtain ⟨xs,rfl,h3⟩:=hasW_list h1
 obtain ⟨ns,rfl⟩:=items_int h3
 have hlen:ns.length<=n:=by
  unfold OpenLaw.pre at hc
  have h4:(WTm.not (.lt (.lit (.int (n:Int))) (.len (.arg 0)))).holds [] { args:=[.list (ns.map .int)] }=true:=by
   have h4:=(holds_andW hc).1
   rw [hn] at h4
   exact h4
  have h5:=condW_of h4 (w_not (w_lt w_lit (w_len_list (w_arg rfl))))
  rw [List.length_map] at h5
  refine Nat.le_of_not_lt λq=>?_
  have q':(n:Int)<((ns.length:Nat):Int):=by omega
  first
   | (rw [decide_eq_true q'] at h5; exact absurd h5 (by decide))
   | (simp at h5; omega)
 cases hwl with
 | cons w1 w2 =>
  cases w2
  cases w1 with
  | list ho hall=>exact ⟨_,_,ns,rfl,rfl,ho,Am3 ns _ hall,hlen⟩
theorem Bd0 (l:OpenLaw) (args:List WData):l.row.toRowW.claim.post args (.bool true) args=true :=
 postW_of (r:=l.row.toRowW) (X:=(true == true))
  (show WShape.has [] (.bool true) .bool=true by first | rfl | decide | simp [WShape.has,WShape.arms,WShape.armsAll])
  (show (WTm.eq .res (.lit (.bool true))).value [] { args:=args,res:=some (.bool true),after:=args }=some (.bool (true == true)) from w_eq_bool (w_res rfl) w_lit) rfl
theorem attach_call {l:OpenLaw} {n:Nat} {q:Program} {loose:List Str} {XP:(Str->Option Value)->Heap->Prop} {YP:World->Heap->Prop} {d:DefRec}
  (hn:l.most=some n) (hdf:d.params.defaults=[])
  (call:∀ (w:World) (s₀ s₁:Shared) (mg mb:Str->Option Value) (fa:Addr) (o:Obj) (pm cd doc:Value) (a:Addr) (vs:List Value) (ns:List Int),
   Ground q loose [] XP w s₀ mg mb s₁.heap->YP w s₁.heap ->
   s₁.heap.get? fa=some o->o.data=.func (docDef d.name d.params d.body d.scope pm cd doc)->s₁.heap.CodeRec cd d.name->mg d.name=some (.ref fa) ->
   s₁.heap.get? a=some { cls:=.type "list",data:=.seq vs.toArray }->IntsAre vs ns->ns.length<=n->s₁.gens=#[] ->
   codeAny (model l.prog w) callerA (.call (.ref fa) ⟨[.ref a],[]⟩) (λr s'=>r=.ok (.ret (.bool true))/\OldK s₁.heap s'.heap/\s'.os=s₁.os/\AllBare s'.gens) s₁) :
  WalkO q loose XP YP l.row.toRowW d [] (λf vs=>PySem.call f vs):=by
 intro w s₀ s₁ mg mb G Y fa o pm cd doc dV kV ho hd hcd hD hmg hg args vals as hpre hlay hrd hwl hlo
 obtain rfl:dV=.none:=Dflts.none hD hdf
 obtain rfl:kV=.none:=Dflts.noKw hD
 obtain ⟨a,vs,ns,rfl,rfl,hobj,hints,hlen⟩:=Bc6 hn hpre hwl
 refine enter_call (codeAny_mono (call w s₀ s₁ mg mb fa o pm cd doc a vs ns G Y ho (fd_plain hd) hcd hmg hobj hints hlen hg) λr s' hq=>?_)
 obtain ⟨rfl,h2,h3,h4⟩:=hq
 exact ⟨.inl ⟨.bool true,.bool true,[],rfl,λ_=>rfl,.bool true,Bd0 l _,λ_=>⟨List.Pairwise.nil,λ_ hm=>(nomatch hm)⟩⟩,h2,h3,h4⟩
section
variable {prog : Program} {w : World} {A : Around} {E : Value → Shared → Prop} {s : Shared} {K : Frag}
end
end Att
namespace L2
open PySem PySem.Spec PyProof.Rows
theorem Ap7:∀ {vs:List Value} {ns:List Int},IntsAre vs ns->Vals (ns.map V.int) vs
 | _,_,.nil=>.nil
 | _,_,.cons n t h=>.cons ⟨t,rfl⟩ (Ap7 h)
def Only (H:Hp):Prop:=∀ b,H b=none\/∃ o xs,H b=some (.frz o (.lst xs))
theorem Bj6 {P:Program} {w:World} {K:PySem.W.Frag} {mg mb:Str->Option Value} {CX:CXT} {k:Nat} {fa a:Addr} {fd:FuncData} {x:Str} {sp:Sp} {s₁:Shared} {vs:List Value} {ns:List Int}
  (KX:K.In s₁.heap) (hns:s₁.heap.Ns mainGlobals mg) (hb:s₁.heap.Ns builtinsNs mb) (hbb:∀ x:Str,x≠"__name__"->mb x=bootBuiltins x) (hlim:s₁.heap.NoLimit) (hg:s₁.gens=#[])
  (ha:s₁.heap.get? a=some { cls:=.type "list",data:=.seq vs.toArray }) (hi:IntsAre vs ns) (hl:ns.length<=sizeLine) (hr:Room k callerA)
  (F:∀ base:Heap,K.In base->base.Ns mainGlobals mg->FnOk P w K mg base CX k fa fd [x] sp) (hbind:∀ (s:Shared) (u:Value),BindsTo s fd ⟨[u],[]⟩ [(x,u)])
  (hsp:∀ H:Hp,Only H->SqL K H a (ns.map V.int)->sp [.ref a] H (λv _=>v=.bl true) λ_ _ _=>False)
  (hCX:∀ H e s',CX [] H s₁ (λ_ _ _=>False) e s'->False) :
  codeAny (model P w) callerA (.call (.ref fa) ⟨[.ref a],[]⟩) (λr s'=>r=.ok (.ret (.bool true))/\OldK s₁.heap s'.heap/\s'.os=s₁.os/\AllBare s'.gens) s₁:=by
 have rv:=Ap7 hi
 have lenV:=hi.length
 have core:∀ H:Hp,Only H->SqL K H a (ns.map V.int)->HOk P w H s₁.heap->(∀ b,H b≠none->b=a)->(H a≠none->K.lookup a=none) ->
   codeAny (model P w) callerA (.call (.ref fa) ⟨[.ref a],[]⟩) (λr s'=>r=.ok (.ret (.bool true))/\OldK s₁.heap s'.heap/\s'.os=s₁.os/\AllBare s'.gens) s₁:=by
  intro H hO hS hok hA hK
  have base_of:∀ {b:Addr} {o:Obj},s₁.heap.get? b=some o->H b=none->(hidT s₁.heap H).get? b=some o:=λe n=>Bj7 e n
  have noA:∀ {b:Addr} {o:Obj} {es:Array DictEntry} {ep:Nat},s₁.heap.get? b=some o->o.data=.dict es ep->H b=none:=λ{b o es ep} e d=>by
   cases q:H b with
   | none=>rfl
   | some u =>
    have e':b=a:=hA b (by rw [q]; simp)
    subst e'
    rw [ha] at e; cases e
    have d':Data.seq vs.toArray _=Data.dict es ep:=d
    cases d'
  have nsK:∀ {b:Addr} {m:Str->Option Value},s₁.heap.Ns b m->(hidT s₁.heap H).Ns b m:=λ{b m} ⟨o,es,ep,e,d,r⟩=>⟨o,es,ep,base_of e (noA e d),d,r⟩
  have hKb:K.In (hidT s₁.heap H):=λb o e=>base_of (KX b o e) (by
   cases q:H b with
   | none=>rfl
   | some u =>
    have e':b=a:=hA b (by rw [q]; simp)
    subst e'
    rw [hK (by rw [q]; simp)] at e; cases e)
  have hM:Mod K mg (hidT s₁.heap H):=⟨hKb,nsK hns,⟨mb,nsK hb,hbb⟩,let ⟨mc,h1,h2⟩:=hlim; ⟨mc,nsK h1,h2⟩⟩
  have e0:Env0 P w K mg (hidT s₁.heap H) callerA [] s₁ H:=⟨rfl,hM,λb o e=>Bq1 e,Nat.le_of_eq (Bf2 _ _),trivial,λb hb=>absurd (show b ∈ ([]:List Addr) from hb) (by simp),hok,.of_eq hg⟩
  refine codeAny_mono ((F _ hKb (nsK hns)).run callerA [] s₁ H ⟨[.ref a],[]⟩ [.ref a] [.ref a] _ _ hr e0 (hbind s₁ (.ref a)) (.cons rfl .nil) (hsp H hO hS)) λr s' h=>?_
  cases r with
  | error e=>exact (hCX H e s' h).elim
  | ok fl =>
   cases fl with
   | next=>exact False.elim h
   | brk=>exact False.elim h
   | cont=>exact False.elim h
   | ret u =>
    obtain ⟨v,H',os,bare,un,hok',r',q⟩:=h
    have q':v=.bl true:=q
    subst q'
    obtain rfl:u=Value.bool true:=r'
    refine ⟨rfl,OldK.of_keep λb o e=>?_,os,bare⟩
    cases q:H b with
    | none=>exact un.keep b o e q (by intro z; exact absurd (show b ∈ ([]:List Addr) from z) (by simp)) (by simp)
    | some u =>
     rcases hO b with z | ⟨ob,xs,z⟩
     ·rw [q] at z; cases z
     ·have z2:=un.frzs b ob _ z
      obtain ⟨e1,_⟩:=hok b _ z
      obtain ⟨e2,_⟩:=hok' b _ z2
      rw [e] at e1; cases e1
      exact e2
 cases hk:K.lookup a with
 | some o =>
  have e:=KX a o hk
  rw [ha] at e
  cases e
  refine core (λ_=>none) (λ_=>.inl rfl) (.inr ⟨_,vs.toArray,_,hk,rfl,rfl,rfl,by rw [List.size_toArray,lenV]; exact hl,by simpa using rv⟩) (λb u z=>by have z':(none:Option HO)=some u:=z; cases z') (λb z=>absurd rfl z) λz=>absurd rfl z
 | none =>
  refine core (λb=>if b=a then some (.frz { cls:=.type "list",data:=.seq vs.toArray } (.lst (ns.map V.int))) else none) (λb=>?_) (.inl (.inr ⟨{ cls:=.type "list",data:=.seq vs.toArray },if_pos rfl⟩)) (λb u z=>?_) (λb z=>?_) λ_=>hk
  ·by_cases hb:b=a
   ·exact .inr ⟨_,_,if_pos hb⟩
   ·exact .inl (if_neg hb)
  ·by_cases hb:b=a
   ·have z':=(if_pos hb).symm.trans z
    cases z'
    subst hb
    exact ⟨ha,by rw [List.length_map]; exact hl,vs,_,rv,ha⟩
   ·have z':=(if_neg hb).symm.trans z
    cases z'
  ·by_cases hb:b=a
   ·exact hb
   ·exact absurd (if_neg hb) z
end L2
namespace L2
open PySem PySem.Spec PyProof.Rows
theorem walk_of {l:PySem.W.OpenLaw} {n k:Nat} {q:Program} {loose:List Str} {XP:(Str->Option Value)->Heap->Prop} {YP:World->Heap->Prop} {d:DefRec} {K:Params->PySem.W.Frag} {CX:World->CXT} {sp:World->Sp} {x:Str}
  (hn:l.most=some n) (hn2:n<=sizeLine) (hdf:d.params.defaults=[]) (hr:Room k callerA)
  (hY:∀ (w:World) (h:Heap),YP w h->(K w.params).In h)
  (F:∀ (w:World) (mg:Str->Option Value) (fa:Addr) (h:Heap),(K w.params).In h->h.Ns mainGlobals mg->mg d.name=some (.ref fa) ->
   ∃ fd:FuncData,(∀ (s:Shared) (u:Value),BindsTo s fd ⟨[u],[]⟩ [(x,u)]) /\
    ∀ base:Heap,(K w.params).In base->base.Ns mainGlobals mg->FnOk l.prog w (K w.params) mg base (CX w) k fa fd [x] (sp w))
  (hsp:∀ (w:World) (H:Hp) (a:Addr) (ns:List Int),ns.length<=n->Only H->SqL (K w.params) H a (ns.map V.int)->sp w [.ref a] H (λv _=>v=.bl true) λ_ _ _=>False)
  (hCX:∀ (w:World) (H:Hp) (s:Shared) (e:Value) (s':Shared),CX w [] H s (λ_ _ _=>False) e s'->False) :
  PySem.W.WalkO q loose XP YP l.row.toRowW d [] (λf vs=>PySem.call f vs):=by
 refine Att.attach_call hn hdf λw s₀ s₁ mg mb fa o pm cd doc a vs ns G Y ho hd hcd hmg hobj hints hlen hg=>?_
 have KX:=hY w _ Y
 obtain ⟨fd,hb,hF⟩:=F w mg fa _ KX G.T.g hmg
 exact Bj6 KX G.T.g G.T.b G.T.builtins G.T.nolimit hg hobj hints (Nat.le_trans hlen hn2) hr hF hb (λH hO hS=>hsp w H a ns hlen hO hS) λH e s'=>hCX w H s₁ e s'
end L2
namespace L2
open PySem PySem.Spec PyProof.Rows
abbrev CX0:CXT:=λ_ _ _ _ _ _=>False
abbrev E0:XK:=λ_ _ _=>False
theorem Ac8 {X:Cx}:Ah1 CX0 X E0:=λ_ _ _ _ _ _ _ h=>h.elim
structure Fun (K:PySem.W.Frag) (x qual:Str) (st:Stmt) (f:Addr) (fd:FuncData):Prop where
 ex:∃ (oc:Value) (od:Option Addr) (kV doc pm:Value) (an:Option Addr) (cdv ct:Value) (osl:Array (Option Value)),
  fd=PySem.W.fnOf x qual (Ab4 st) (Ab1 st) (Aa1 st) .none kV doc pm an cdv ct/\K.lookup f=some ⟨oc,od,.func fd,osl⟩/\PySem.W.codeIn K cdv qual=true
 kp:PySem.W.keepIn K (.ref f)=true
section
variable {P : Program} {w : World} {K : PySem.W.Frag} {mg : Str → Option Value} {base : Heap}
theorem Fun.ok {x qual:Str} {st:Stmt} {f:Addr} {fd:FuncData} {N ps:List Str} {k:Nat} {sp:Sp} (F:Fun K x qual st f fd) (S:Ab6 N ps (Aa1 st)) (len:∀ vs H Q E,sp vs H Q E->vs.length=ps.length)
  (hbody:∀ (cdv:Value) (A:Around) (outer:List Env) (s:Shared) (H:Hp) (vs:List V) (Q:VK) (E:XK),Room k (A.deeper (envOfC qual (Aa1 st) s.heap.objs.size f cdv))->sp vs H Q E ->
   ∃ t,PSs (cxOf CX0 P w K mg base N qual (Aa1 st) f cdv A outer s H E).nox (Ab1 st) t/\t { nx:=λ_ H'=>Q .non H',rt:=Q } (Am7 N vs) H):FnOk P w K mg base CX0 (k+1) f fd ps sp:=by
 obtain ⟨oc,od,kV,doc,pm,an,cdv,ct,osl,rfl,lk,hcd⟩:=F.ex
 refine Bq8 lk hcd S len λA outer s H vs Q E hr hsp=>?_
 obtain ⟨t,h,q⟩:=hbody cdv A outer s H vs Q E hr hsp
 exact ⟨t,h.nox,q⟩
theorem Fun.binds {x qual:Str} {st:Stmt} {f:Addr} {fd:FuncData} {ps:List Str} (F:Fun K x qual st f fd)
  (h:∀ (kV doc pm:Value) (an:Option Addr) (cdv ct:Value) (us:List Value),us.length=ps.length->bindArgs (PySem.W.fnOf x qual (Ab4 st) (Ab1 st) (Aa1 st) .none kV doc pm an cdv ct) ⟨us,[]⟩=pure (ps.zip us)):Binds K fd ps []:=by
 obtain ⟨oc,od,kV,doc,pm,an,cdv,ct,osl,rfl,lk,hcd⟩:=F.ex
 exact .all (h kV doc pm an cdv ct)
theorem Ac5 {x qual:Str} {st:Stmt} {f:Addr} {oc:Value} {od an:Option Addr} {osl:Array (Option Value)} {kV doc pm cdv ct:Value} (l:K.lookup f=some ⟨oc,od,.func (PySem.W.fnOf x qual (Ab4 st) (Ab1 st) (Aa1 st) .none kV doc pm an cdv ct),osl⟩)
  (c:PySem.W.codeIn K cdv qual=true) (k:PySem.W.keepIn K (.ref f)=true):Fun K x qual st f (PySem.W.fnOf x qual (Ab4 st) (Ab1 st) (Aa1 st) .none kV doc pm an cdv ct):=⟨⟨oc,od,kV,doc,pm,an,cdv,ct,osl,rfl,l,c⟩,k⟩
end
section
variable {X : Cx}
theorem pv (i:Nat) {x:Str} {pos:Pos} (hN:X.N[i]?=some x:=by rfl) (hv:Vis X.env.scope x:=by first | exact Or.inl rfl | exact Or.inr (Or.inl rfl) | exact Or.inr (Or.inr rfl)) (hd:(x == ("__debug__":Str))=false:=by decide)
  (hcd:(x == ("__classdict__":Str))=false:=by decide):PE X (.Name x pos) (tVar i):=Bt7 hN hv hd hcd
end
theorem iteF {A B:Prop} (h:B):if false=true then A else B:=by
 rw [if_neg Bool.false_ne_true]
 exact h
theorem iteT {A B:Prop} (h:A):if true=true then A else B:=by
 rw [if_pos rfl]
 exact h
theorem ite2 {c A B:Prop} [Decidable c] (h1:c->A) (h2:¬ c->B):if c then A else B:=by
 by_cases h:c
 ·rw [if_pos h]
  exact h1 h
 ·rw [if_neg h]
  exact h2 h
def Same (H H':Hp):Prop:=∀ b o,H b=some o->H' b=some o
theorem Same.refl (H:Hp):Same H H:=λ_ _ h=>h
theorem Same.trans {H H1 H2:Hp} (a:Same H H1) (b:Same H1 H2):Same H H2:=λc o h=>b c o (a c o h)
theorem Same.free {H H':Hp} (e:Same H H') {l:Addr} (h:H' l=Option.none):H l=Option.none:=by
 cases q:H l with
 | none=>rfl
 | some o =>
  rw [e l o q] at h
  cases h
theorem Same.seq {K:PySem.W.Frag} {H H':Hp} {a:Addr} {xs:List V} (e:Same H H') (h:SqL K H a xs):SqL K H' a xs:=by
 rcases h with (h | ⟨o,h⟩) | h
 ·exact .inl (.inl (e _ _ h))
 ·exact .inl (.inr ⟨o,e _ _ h⟩)
 ·exact .inr h
end L2
end
section
namespace L2
open PySem
abbrev xo (C t:Addr) (od:Option Addr):Obj:={ cls:=.ref C,dict:=od,data:=.fields #[.ref t,.none,.none,.none,.bool false,.none] }
section
variable {prog : Program} {w : World} {A : Around} {E : Value → Shared → Prop} {h : Heap} {g : Array GenState} {d : Drawn} {tk : Nat} {os : OsState}
variable {nm q : Str} {C N fI : Addr} {bs bm bmB : List Value} {hdct : Bool} {sn : List Str} {sub : List Value} {ab : Bool} {col : Option Bool} {dd : Option Addr} {k0 k1 k2 k3 k5 : Option Value} {B newId initId : String}
 {mN:Str->Option Value} {rest:List Value} {oI:Obj}
end
section
variable {prog : Program} {w : World} {M : Model} {A : Around} {E : Value → Shared → Prop} {s : Shared} {env : Env}
variable {nm q : Str} {C N fI : Addr} {bs bm bmB : List Value} {hdct : Bool} {sn : List Str} {sub : List Value} {ab : Bool} {col : Option Bool} {dd : Option Addr} {k0 k1 k2 k3 k5 : Option Value} {B newId initId : String}
end
end L2
end
section
namespace L2
open PySem
section
variable {M : Model} {A : Around} {E : Value → Shared → Prop} {s : Shared} {base : Heap} {env : Env} {outer l : List Env} {L e : Addr} {cls a0 fl : Value} {od : Option Addr}
def Dc (h:Heap) (e:Addr) (od:Option Addr):Prop:=∃ o,h.get? e=some o/\o.dict=od
theorem Ai3 (o:Obj) (f:Array Value->Array Value):(Obj.mapFields f o).dict=o.dict:=by
 unfold Obj.mapFields
 split <;> rfl
theorem Ad6 {h:Heap} {T b:Addr} {f:Obj->Obj} (n:b≠T):(h.update T f).get? b=h.get? b:=Heap.get?_update_other _ _ (Ne.symm n)
theorem Dc.upd {h:Heap} {T:Addr} {oT:Obj} {ts:Array Value} {f:Array Value->Array Value} (x:Dc h e od) (hT:h.get? T=some oT) (hd:oT.data=.fields ts):Dc (h.update T (Obj.mapFields f)) e od:=by
 obtain ⟨o,ho,hod⟩:=x
 by_cases n:e=T
 ·subst n
  rw [hT] at ho
  cases ho
  exact ⟨_,Heap.get?_update_self _ hT (Obj.isFreed_of_fields (Obj.data_mapFields hd f)),(Ai3 _ _).trans hod⟩
 ·exact ⟨o,(Ad6 n).trans ho,hod⟩
theorem Bl6 {oe:Obj} {vs:Array Value} {head:Value} {hadNext:Bool} {Q:Unit->Shared->Prop} (hfr:A.frames=some (env::outer)) (hl:s.heap.FunFrames base (env::outer)) (hf:env.frame=some L)
  (he:s.heap.get? e=some oe) (hkb:base.StaysIn s.heap) (hen:base.get? e=none) (hd:oe.data=.fields vs) (hsz:1<vs.size) (h0:vs[0]?=some a0)
  (k:∀ h',Heap.NotedW base (env::outer) e oe.cls a0 (rawInt L) s.heap h'->Dc h' e oe.dict->Q () { s with heap:=h' }) :
  wpAny M A (do
   let a <- frameOf env
   let pl <- entryPlaceOf L hadNext
   let b <- EntryCells.newEntry head a .none (rawInt L) .none pl
   setField (.ref e) 1 b) Q E s:=by
 have nin:e ∉ (env::outer).filterMap (·.frame):=λhm=>by
  obtain ⟨_,o,ho,hnf⟩:=hl.mem hm
  rw [he] at ho
  cases ho
  exact hnf vs hd
 refine wpAny_bind (wpAny_frameOf_fun hfr hl hf λh1 hs1=>wpAny_bind (wpAny_entryPlaceOf λpl hpl=>?_))
 unfold EntryCells.newEntry newFields
 refine wpAny_bind (wpAny_newObj_type ?_ (hpl.sizeOk5 _ _ _ _ _))
 generalize htb:([head,.ref L,.none,rawInt L,.none]++(if pl.isEmpty then List.replicate 6 Value.none else pl))=tb
 have h3:tb.toArray[3]?=some (rawInt L):=by rw [<- htb]; simp
 have e1:h1.get? e=some oe:=(hs1.2.1 e nin).trans he
 have b1:base.StaysIn h1:=λb o z=>(hs1.2.1 b λhm=>by rw [(hl.mem hm).1] at z; cases z).trans (hkb b o z)
 have pu:∀ b o,h1.get? b=some o->(h1.push { cls:=.type "traceback",dict:=none,data:=.fields tb.toArray }).get? b=some o:=λb o z=>Heap.get?_push_of_some _ z
 have hT:(h1.push { cls:=.type "traceback",dict:=none,data:=.fields tb.toArray }).get? h1.objs.size=some { cls:=.type "traceback",dict:=none,data:=.fields tb.toArray }:=Heap.get?_push_size h1 rfl
 have fr:base.get? h1.objs.size=none:=b1.fresh
 have nT:h1.objs.size≠e:=Nat.ne_of_gt (Heap.lt_size e1)
 have lt:∀ b o,h1.get? b=some o->b≠h1.objs.size:=λb o z=>Nat.ne_of_lt (Heap.lt_size z)
 refine wpAny_setField (pu _ _ e1) hd hsz ?_
 have e2:=pu _ _ e1
 generalize h1.push { cls:=.type "traceback",dict:=none,data:=.fields tb.toArray }=h2 at *
 generalize h1.objs.size=T at *
 have d3:=Obj.data_mapFields hd (·.setIfInBounds 1 (Value.ref T))
 have e3:=Heap.get?_update_self (Obj.mapFields (·.setIfInBounds 1 (Value.ref T))) e2 (Obj.isFreed_of_fields d3)
 have noR:∀ b o,s.heap.get? b=some o->(∀ ws,o.data≠.fields ws)->b≠e:=λb o z hnf y=>by
  rw [y,he] at z
  cases z
  exact hnf vs hd
 refine k _ ⟨λb o z=>?_,hl.of_keeps λb o z hnf=>?_,?_,λb o z hnf=>?_⟩ ⟨_,e3,Ai3 _ _⟩
 ·rw [Ad6 (λy=>by rw [y,hen] at z; cases z)]
  exact pu _ _ (b1 b o z)
 ·obtain ⟨sl,y⟩:=hs1.2.2 b o z
  exact ⟨_,(Ad6 (noR b o z hnf)).trans (pu _ _ y),rfl⟩
 ·exact ⟨_,_,T,_,_,e3,⟨Obj.cls_mapFields _ _,by rw [Array.getElem?_setIfInBounds_ne (by decide)]; exact h0⟩,d3,by simp [hsz],fr,nT,(Ad6 nT).trans hT,rfl,h3⟩
 ·obtain ⟨sl,y⟩:=hs1.2.2 b o z
  exact ⟨sl,(Ad6 (noR b o z hnf)).trans (pu _ _ y)⟩
theorem Bq5 {Q:Unit->Shared->Prop} (hkb:base.StaysIn s.heap) (hl:s.heap.FunFrames base l) (ht:s.heap.TracedAtW base e cls a0 fl) (hc:Dc s.heap e od)
  (k:∀ h',base.StaysIn h'->h'.FunFrames base l->h'.TracedW base e cls a0->s.heap.UpToSlots h'->Dc h' e od->Q () { s with heap:=h' }):wpAny M A (setFlight (.ref e) none) Q E s:=by
 obtain ⟨oe,vs,T,oT,ts,he,hcls,hd,h1,hnT,hTe,hT,hdT,h3⟩:=ht
 have z3:3<ts.size:=(Array.getElem?_eq_some_iff.mp h3).1
 have noR:∀ b o,s.heap.get? b=some o->(∀ ws,o.data≠.fields ws)->b≠T:=λb o z hnf y=>by
  rw [y,hT] at z
  cases z
  exact hnf ts hdT
 unfold setFlight
 refine wpAny_bind (wpAny_field he hd h1 ?_)
 rw [if_pos (show (Value.ref T != Value.none)=true from by simp)]
 refine wpAny_setField hT hdT z3 (k _ (λb o z=>?_) (hl.of_keeps λb o z hnf=>⟨o,(Ad6 (noR b o z hnf)).trans z,rfl⟩) ?_ (λb o z hnf=>⟨o.slots,(Ad6 (noR b o z hnf)).trans z⟩) (hc.upd hT hdT))
 ·rw [Ad6 (λy=>by rw [y,hnT] at z; cases z)]
  exact hkb b o z
 ·exact ⟨oe,vs,T,_,_,(Ad6 (Ne.symm hTe)).trans he,hcls,hd,h1,hnT,hTe,Heap.get?_update_self _ hT (Obj.isFreed_of_fields (Obj.data_mapFields hdT _)),Obj.data_mapFields hdT _,by simp [z3]⟩
theorem Bv4 {Q:Unit->Shared->Prop} (hfr:A.frames=some (env::outer)) (hf:env.frame=some L) (x:Heap.FlyingW base (env::outer) e cls a0 s.heap) (hc:Dc s.heap e od)
  (k:∀ h',Heap.HeldW base (env::outer) e cls a0 L h'->s.heap.UpToSlots h'->Dc h' e od->Q () { s with heap:=h' }):wpAny M A (noteFrame (.ref e) env) Q E s:=by
 obtain ⟨hkb,hen,hl,oe,vs,T,oT,ts,he,⟨hcls,h0⟩,hd,h1,hnT,hTe,hT,hdT,h3⟩:=x
 subst hcls
 unfold noteFrame
 simp only [hf]
 refine wpAny_bind (wpAny_field he hd h1 ?_)
 rw [if_pos (show (Value.ref T != Value.none)=true from by simp)]
 refine wpAny_bind (wpAny_field hT hdT h3 ?_)
 rw [if_neg (show ¬ ((Value.none == rawInt L)=true) from by simp [rawInt])]
 have noR:∀ b o,s.heap.get? b=some o->(∀ ws,o.data≠.fields ws)->b≠T:=λb o z hnf y=>by
  rw [y,hT] at z
  cases z
  exact hnf ts hdT
 have hod:oe.dict=od:=by
  obtain ⟨o,ho,q⟩:=hc
  rw [he] at ho
  cases ho
  exact q
 refine wpAny_bind (wpAny_setField hT hdT (Array.getElem?_eq_some_iff.mp h3).1 ?_)
 refine Bl6 hfr (hl.of_keeps λb o z hnf=>⟨o,(Ad6 (noR b o z hnf)).trans z,rfl⟩) hf ((Ad6 (Ne.symm hTe)).trans he) (λb o z=>?_) hen hd (Array.getElem?_eq_some_iff.mp h1).1 h0 λh' N D=>?_
 ·rw [Ad6 (λy=>by rw [y,hnT] at z; cases z)]
  exact hkb b o z
 ·obtain ⟨x1,x2,x3,x4⟩:=N
  exact k h' ⟨x1,hen,x2,x3⟩ (λb o z hnf=>x4 b o ((Ad6 (noR b o z hnf)).trans z) hnf) (hod ▸ D)
theorem Bl4 {Q:Unit->Shared->Prop} (x:Heap.HeldW base l e cls a0 L s.heap) (hc:Dc s.heap e od)
  (k:∀ h',Heap.FlyingW base l e cls a0 h'->s.heap.UpToSlots h'->Dc h' e od->Q () { s with heap:=h' }):wpAny M A (setFlight (.ref e) none) Q E s:=by
 obtain ⟨f1,f2,f3,f4⟩:=x
 exact Bq5 f1 f3 f4 hc λh' k1 k2 k3 k4 k5=>k h' ⟨k1,f2,k2,k3⟩ k4 k5
theorem Bw7 {Q:Unit->Shared->Prop} (x:Heap.FlyingW base l e cls a0 s.heap) (hc:Dc s.heap e od)
  (k:∀ h',Heap.FlyingW base l e cls a0 h'->s.heap.UpToSlots h'->Dc h' e od->Q () { s with heap:=h' }):wpAny M A (setFlight (.ref e) none) Q E s:=by
 obtain ⟨f1,f2,f3,f4⟩:=x
 exact Bq5 f1 f3 f4.at hc λh' k1 k2 k3 k4 k5=>k h' ⟨k1,f2,k2,k3⟩ k4 k5
theorem Bq4 {Q:Unit->Shared->Prop} (hfr:A.frames=some (env::outer)) (hf:env.frame=some L) (x:Heap.FlyingW base (env::outer) e cls a0 s.heap) (hc:Dc s.heap e od)
  (k:∀ h',Heap.FlyingW base outer e cls a0 h'->s.heap.UpToSlots h'->Dc h' e od->Q () { s with heap:=h' }):wpAny M A (leaving env (.ref e)) Q E s:=by
 unfold leaving
 refine wpAny_bind (Bv4 hfr hf x hc λh1 H1 u1 c1=>Bl4 (s:={ s with heap:=h1 }) H1 c1 λh2 F2 u2 c2=>?_)
 obtain ⟨g1,g2,⟨_,_,g3⟩,g4⟩:=F2
 exact k h2 ⟨g1,g2,g3,g4⟩ (u1.trans u2) c2
theorem Bw2 {C t:Addr} {Q:Unit->Shared->Prop} (hfr:A.frames=some (env::outer)) (hf:env.frame=some L) (hkb:base.StaysIn s.heap) (hen:base.get? e=none) (hl:s.heap.FunFrames base (env::outer)) (he:s.heap.get? e=some (xo C t od))
  (k:∀ h',Heap.FlyingW base outer e (.ref C) (.ref t) h'->s.heap.UpToSlots h'->Dc h' e od->Q () { s with heap:=h' }):wpAny M A (leaving env (.ref e)) Q E s:=by
 unfold leaving noteFrame
 simp only [hf]
 refine wpAny_bind (wpAny_bind (wpAny_field he rfl (x:=.none) rfl ?_))
 rw [if_neg (by decide)]
 refine Bl6 (a0:=.ref t) hfr hl hf he hkb hen rfl (by show (1:Nat)<6; decide) rfl λh1 N D=>?_
 obtain ⟨x1,x2,x3,x4⟩:=N
 refine Bq5 (s:={ s with heap:=h1 }) x1 x2 x3 D λh2 k1 k2 k3 k4 k5=>?_
 obtain ⟨_,_,k2⟩:=k2
 exact k h2 ⟨k1,hen,k2,k3⟩ (Heap.UpToSlots.trans x4 k4) k5
end
end L2
end
section
namespace L2
open PySem PySem.Spec PyProof.Rows
def VB:List Value:=[.type "ValueError",.type "Exception",.type "BaseException",.type "object"]
def Be6 (K:PySem.W.Frag) (N:Addr):Bool:=match K.lookup N with
 | some ⟨_,_,.dict es _,_⟩=>es.toList.all λe=>match e.key with | .str _ _=>true | _=>false
 | _=>false
def Ay9 (K:PySem.W.Frag) (N:Addr):Bool:=Be6 K N && (match PySem.W.nsIn K N "__init__" with | some none=>true | _=>false)
theorem Aq6 {K:PySem.W.Frag} {N:Addr} {h₀:Heap} (X₀:K.In h₀) (e:Ay9 K N=true):∃ mN:Str->Option Value,mN "__init__"=none/\∀ h:Heap,K.In h->h.Ns N mN:=by
 unfold Ay9 at e
 simp only [Bool.and_eq_true] at e
 obtain ⟨e1,e2⟩:=e
 unfold Be6 at e1
 split at e1
 ·rename_i c d es ep sl hl
  have sk:StrKeys es:=λen hen=>by
   have q:=(List.all_eq_true.mp e1) en (by simpa using hen)
   split at q
   ·rename_i n t hk
    exact ⟨n,t,hk⟩
   ·cases q
  have hN:∀ h:Heap,K.In h->h.Ns N (nsFind es):=λh X=>⟨_,es,ep,X _ _ hl,rfl,sk,λ_=>rfl⟩
  refine ⟨nsFind es,?_,hN⟩
  split at e2
  ·rename_i q
   exact PySem.W.ns_none_of X₀ (hN h₀ X₀) q
  ·cases e2
 ·cases e1
def Ax7 (K:PySem.W.Frag):List Value->Bool
 | []=>false
 | v::tl=>match v with
  | .ref A=>(match K.lookup A with | some ⟨_,_,.cls cd,_⟩=>Ay9 K cd.ns | _=>false) && Ax7 K tl
  | _=>(v::tl) == VB
theorem Ax6 {K:PySem.W.Frag} {h₀:Heap} (X₀:K.In h₀):∀ {l:List Value},Ax7 K l=true->∀ h:Heap,K.In h->OwnTail h VB l
 | [],e,_,_=>by cases e
 | v::tl,e,h,X=>by
  unfold Ax7 at e
  split at e
  ·rename_i A
   simp only [Bool.and_eq_true] at e
   obtain ⟨e1,e2⟩:=e
   split at e1
   ·rename_i c0 dd cd sl hl
    obtain ⟨mN,hi,hN⟩:=Aq6 X₀ e1
    exact .own (X _ _ hl) (hN h X) hi (Ax6 X₀ e2 h X)
   ·cases e1
  ·rw [beq_iff_eq.mp e]
   exact .base
def excIn (K:PySem.W.Frag) (C:Addr):Bool:=match K.lookup C with
 | some ⟨.type "type",_,.cls cd,sl⟩=>(match cd.mro,sl.toList with
  | .ref C'::bm,[_,_,_,_,some (.builtin n),_]=>C' == C && !cd.hasDel && n == "ValueError.__new__" && Ay9 K cd.ns && Ax7 K bm
  | _,_=>false)
 | _=>false
theorem Bf6 {K:PySem.W.Frag} {h₀:Heap} {C:Addr} (X₀:K.In h₀) (q:excIn K C=true):∃ bm N nm qn bs hdct sn sub ab col dd k0 k1 k2 k3 k5 mN,mN "__init__"=none /\
  ∀ h:Heap,K.In h->h.get? C=some (excClassObj nm qn C N bs bm hdct sn sub ab col dd k0 k1 k2 k3 k5 "ValueError.__new__")/\h.Ns N mN/\OwnTail h VB bm:=by
 unfold excIn at q
 split at q
 ·rename_i dd cd sl ho
  split at q
  ·rename_i C' bm k0 k1 k2 k3 n k5 hm hs
   simp only [Bool.and_eq_true,beq_iff_eq,Bool.not_eq_true'] at q
   obtain ⟨⟨⟨⟨rfl,hdel⟩,rfl⟩,hi⟩,ht⟩:=q
   obtain ⟨nm,bs,mro,ns,qn,hd,sn,sub,ab,col,del⟩:=cd
   dsimp only at hm hdel hi
   subst hm hdel
   have hsl:sl=#[k0,k1,k2,k3,some (.builtin "ValueError.__new__"),k5]:=by
    obtain ⟨l⟩:=sl
    simp only at hs
    rw [hs]
   subst hsl
   obtain ⟨mN,hi,hN⟩:=Aq6 X₀ hi
   exact ⟨bm,ns,nm,qn,bs,hd,sn,sub,ab,col,dd,k0,k1,k2,k3,k5,mN,hi,λh X=>⟨X _ _ ho,hN h X,Ax6 X₀ ht h X⟩⟩
  ·cases q
 ·cases q
theorem ObjOk.is {P:Program} {w:World} {H:Hp} {h:Heap} {a:Addr} {o:HO} (x:ObjOk P w H h a o):∃ ob,h.get? a=some ob:=by
 cases o with
 | lst xs=>obtain ⟨_,_,_,_,e⟩:=x; exact ⟨_,e⟩
 | tup xs=>obtain ⟨_,_,_,ob,e,_⟩:=x; exact ⟨_,e⟩
 | dK kvs=>obtain ⟨_,_,_,_,o,_,_,e,_⟩:=x; exact ⟨_,e⟩
 | dT kvs=>obtain ⟨_,_,_,_,o,_,_,e,_⟩:=x; exact ⟨_,e⟩
 | set S n=>obtain ⟨o,_,_,_,e,_⟩:=x; exact ⟨_,e⟩
 | ins C dx fs=>obtain ⟨_,_,_,e,_⟩:=x; exact ⟨_,e⟩
 | own y=>obtain ⟨_,e⟩:=x; exact ⟨_,e⟩
 | xd fs=>obtain ⟨_,⟨_,_,_,e,_⟩,_⟩:=x; exact ⟨_,e⟩
 | rng lo hi=>obtain ⟨_,_,_,e⟩:=x; exact ⟨_,e⟩
 | frz ob u=>obtain ⟨e,_⟩:=x; exact ⟨_,e⟩
 | tbl ps=>exact ⟨_,(show h.get? a=some _ from x)⟩
 | met f y=>exact ⟨_,(show h.get? a=some _ from x)⟩
 | ext φ=>obtain ⟨_,⟨_,e⟩,_⟩:=x; exact ⟨_,e⟩
def CXr (P:Program) (w:World):CXT:=λouter H s E x s'=>∃ (e:Addr) (C a0:Value) (H':Hp) (B:Heap),x=.ref e/\s'.os=s.os/\AllBare s'.gens/\Un (frs outer) [] H H' s.heap s'.heap/\HOk P w H' s'.heap /\
 Heap.FlyingW B outer e C a0 s'.heap/\(∀ b u,H' b=some u->∃ o,B.get? b=some o)/\(∀ b o,s.heap.get? b=some o->b ∉ frs outer->∃ o',B.get? b=some o'/\(H b=none->o'=o))/\∃ od,Dc s'.heap e od/\E C od H'
def Bl8 (X:Cx) (E:XK):Prop:=∀ (pins:List (Addr×Obj)) (σ:St) (H:Hp) (s:Shared) (e C:Addr) (vs:List Value) (h':Heap),Inv X pins σ H s->Heap.MadeExcOf s.heap h' e (.ref C) vs->E (.ref C) none H ->
 X.xe (.ref e) { s with heap:=h' }
section
variable {P : Program} {w : World} {K : PySem.W.Frag} {mg : Str → Option Value} {base : Heap} {N : List Str} {qual : Str} {scope : Scope} {f : Addr} {cd : Value} {A : Around} {outer : List Env} {s₀ : Shared} {H₀ : Hp} {E : XK}
abbrev cxR (P:Program) (w:World) (K:PySem.W.Frag) (mg:Str->Option Value) (base:Heap) (N:List Str) (qual:Str) (scope:Scope) (f:Addr) (cd:Value) (A:Around) (outer:List Env) (s:Shared) (H:Hp) (E:XK):Cx :=
 cxOf (CXr P w) P w K mg base N qual scope f cd A outer s H E
theorem Az7:PassesOwn (model P w) (cxR P w K mg base N qual scope f cd A outer s₀ H₀ E).A (cxR P w K mg base N qual scope f cd A outer s₀ H₀ E).env (cxR P w K mg base N qual scope f cd A outer s₀ H₀ E).xe:=PassesOwn.leaving
theorem Ar3 {H:Hp} {h h' B:Heap} (ok:HOk P w H h) (k:∀ b u,H b=some u->∃ o,B.get? b=some o) (s1:∀ b o,B.get? b=some o->h.get? b=some o) (s2:∀ b o,B.get? b=some o->h'.get? b=some o):HOk P w H h':=λa u e =>
 (ok a u e).stay (λb v hb q=>by
  obtain ⟨o,z⟩:∃ o,B.get? b=some o:=by
   rcases hb with rfl | hb
   ·exact k _ _ e
   ·exact k _ _ hb
  have z1:=s1 b o z
  rw [q] at z1
  cases z1
  exact s2 b _ z) (λ_ q=>q) λ_ _ q=>q
theorem Bn8 {pins:List (Addr×Obj)} {σ:St} {H:Hp} {s:Shared} {e C t:Addr} {od:Option Addr} (I:Inv (cxR P w K mg base N qual scope f cd A outer s₀ H₀ E) pins σ H s) (he:s.heap.get? e=some (xo C t od)) (hn:s₀.heap.get? e=none) (hH:H e=none) (q:E (.ref C) od H):(cxR P w K mg base N qual scope f cd A outer s₀ H₀ E).xe (.ref e) s:=by
 have noA:∀ b:Addr,b ∉ (cxR P w K mg base N qual scope f cd A outer s₀ H₀ E).ex:=λb z=>absurd (show b ∈ ([]:List Addr) from z) (by simp)
 have lt0:∀ b o,s₀.heap.get? b=some o->b≠(cxR P w K mg base N qual scope f cd A outer s₀ H₀ E).env.locals:=λb o z=>Nat.ne_of_lt (Nat.lt_of_lt_of_le (Heap.lt_size z) I.ok.above)
 have hin:∀ env ∈ (cxR P w K mg base N qual scope f cd A outer s₀ H₀ E).stack,∀ b,env.frame=some b->b ∈ e::frs (cxR P w K mg base N qual scope f cd A outer s₀ H₀ E).stack:=λenv he b hb=>List.mem_cons_of_mem _ (List.mem_filterMap.mpr ⟨env,he,hb⟩)
 have nin:∀ b o,s₀.heap.get? b=some o->b ∉ frs outer->b ∉ e::frs (cxR P w K mg base N qual scope f cd A outer s₀ H₀ E).stack:=λb o z h1 y=>by
  rcases List.mem_cons.mp y with y | y
  ·rw [y,hn] at z; cases z
  ·rcases List.mem_cons.mp (I.stkSub b y) with y | y
   ·exact lt0 b o z y
   ·exact h1 y
 show wpAny (model P w) (A.deeper (envOfC qual scope s₀.heap.objs.size f cd)) (leaving (envOfC qual scope s₀.heap.objs.size f cd) (.ref e)) _ _ _
 refine Bw2 (base:=PySem.W.hideAll s.heap (e::frs (cxR P w K mg base N qual scope f cd A outer s₀ H₀ E).stack)) (L:=s₀.heap.objs.size) I.ok.frames rfl (λb o z=>PySem.W.of_hideAll _ z) (PySem.W.hideAll_none _ (List.mem_cons_self ..)) (PySem.W.funFrames_hide I.stack hin) he λh'' x1 x4 x5=>?_
 have st:∀ b o,s.heap.get? b=some o->b ∉ e::frs (cxR P w K mg base N qual scope f cd A outer s₀ H₀ E).stack->(PySem.W.hideAll s.heap (e::frs (cxR P w K mg base N qual scope f cd A outer s₀ H₀ E).stack)).get? b=some o:=λb o z n=>PySem.W.hideAll_get _ z n
 have c1:∀ b u,H b=some u->∃ o,(PySem.W.hideAll s.heap (e::frs (cxR P w K mg base N qual scope f cd A outer s₀ H₀ E).stack)).get? b=some o:=λb u z=>by
  obtain ⟨ob,zb⟩:=(I.hok b u z).is
  refine ⟨ob,st b ob zb λm=>?_⟩
  rcases List.mem_cons.mp m with m | m
  ·rw [m,hH] at z; cases z
  ·rw [I.stkFree b m] at z; cases z
 refine ⟨e,.ref C,.ref t,H,_,rfl,I.os,I.bare,⟨λb o z n hb _=>?_,λb o z n hb _=>?_,λb o z n _=>I.base.free b o z n (noA b),λb o z _=>?_,I.base.tups,I.base.frzs,I.base.tbls⟩,?_,x1,c1,λb o z hb=>?_,od,x5,q⟩
 ·exact x1.1 b o (st b o (I.base.keep b o z n hb (noA b)) (nin b o z hb))
 ·obtain ⟨sl,e1⟩:=I.base.slot b o z n hb (noA b)
  obtain ⟨o2,ho2,hd2⟩:=(I.ok.funs.mem hb).2
  have z2:s₀.heap.get? b=some o2:=ho2
  rw [z] at z2
  cases z2
  obtain ⟨sl',e2⟩:=x4 b _ e1 hd2
  exact ⟨sl',e2⟩
 ·by_cases hb:b ∈ frs outer
  ·obtain ⟨sl,e1⟩:=I.base.slot b o z (I.ok.frf b hb) hb (noA b)
   obtain ⟨o2,ho2,hd2⟩:=(I.ok.funs.mem hb).2
   have z2:s₀.heap.get? b=some o2:=ho2
   rw [z] at z2
   cases z2
   obtain ⟨sl',e2⟩:=x4 b _ e1 hd2
   exact ⟨_,e2⟩
  ·obtain ⟨o1,e1⟩:=I.base.there b o z (noA b)
   exact ⟨o1,x1.1 b o1 (st b o1 e1 (nin b o z hb))⟩
 ·exact Ar3 I.hok c1 (λb o z=>PySem.W.of_hideAll _ z) x1.1
 ·obtain ⟨o1,e1⟩:=I.base.there b o z (noA b)
  refine ⟨o1,st b o1 e1 (nin b o z hb),λn=>?_⟩
  have e2:=I.base.keep b o z n hb (noA b)
  rw [e1] at e2
  exact Option.some.inj e2
theorem Bc8:Bl8 (cxR P w K mg base N qual scope f cd A outer s₀ H₀ E) E:=by
 intro pins σ H s e C vs h' I M q
 obtain ⟨t,he,_,_⟩:=M.there
 refine Bn8 (t:=t) (od:=none) (I.kept (t':=s.toks) M.keeps) he ?_ ?_ q
 ·cases z:s₀.heap.get? e with
  | none=>rfl
  | some o =>
   obtain ⟨o1,e1⟩:=I.base.there e o z (λy=>absurd (show e ∈ ([]:List Addr) from y) (by simp))
   rw [M.new] at e1
   cases e1
 ·cases z:H e with
  | none=>rfl
  | some u =>
   obtain ⟨ob,zb⟩:=(I.hok e u z).is
   rw [M.new] at zb
   cases zb
theorem By3:Ah1 (CXr P w) (cxR P w K mg base N qual scope f cd A outer s₀ H₀ E) E:=by
 intro pins σ H s x s' I hx
 obtain ⟨e,C,a0,H',B,rfl,os,bare,un,hok,fl,c1,c2,od,hdc,q⟩:=hx
 have noA:∀ b:Addr,b ∉ (cxR P w K mg base N qual scope f cd A outer s₀ H₀ E).ex:=λb z=>absurd (show b ∈ ([]:List Addr) from z) (by simp)
 have lt0:∀ b o,s₀.heap.get? b=some o->b≠(cxR P w K mg base N qual scope f cd A outer s₀ H₀ E).env.locals:=λb o z=>Nat.ne_of_lt (Nat.lt_of_lt_of_le (Heap.lt_size z) I.ok.above)
 have nin:∀ b,b ∉ frs outer->b≠(cxR P w K mg base N qual scope f cd A outer s₀ H₀ E).env.locals->b ∉ frs (cxR P w K mg base N qual scope f cd A outer s₀ H₀ E).stack:=λb h1 h2 z=>by
  rcases List.mem_cons.mp (I.stkSub b z) with z | z
  ·exact h2 z
  ·exact h1 z
 have J:Inv (cxR P w K mg base N qual scope f cd A outer s₀ H₀ E) pins σ H' s':=I.call' os un hok bare (ch:=[]) (λb z=>absurd z (by simp))
 show wpAny (model P w) (A.deeper (envOfC qual scope s₀.heap.objs.size f cd)) (leaving (envOfC qual scope s₀.heap.objs.size f cd) (.ref e)) _ _ _
 refine Bq4 (L:=s₀.heap.objs.size) I.ok.frames rfl fl hdc λh'' fl' sm hdc2=>?_
 refine ⟨e,C,a0,H',B,rfl,os.trans I.os,bare,⟨λb o z n hb _=>?_,λb o z n hb _=>?_,λb o z n _=>J.base.free b o z n (noA b),λb o z _=>?_,J.base.tups,J.base.frzs,J.base.tbls⟩,Ar3 hok c1 fl.1 fl'.1,fl',c1,λb o z hb=>?_,od,hdc2,q⟩
 ·obtain ⟨o',z1,z2⟩:=c2 b o (I.base.keep b o z n hb (noA b)) (nin b hb (lt0 b o z))
  rw [z2 (I.base.free b o z n (noA b))] at z1
  exact fl'.1 b o z1
 ·obtain ⟨sl,e1⟩:=J.base.slot b o z n hb (noA b)
  obtain ⟨o2,ho2,hd2⟩:=(I.ok.funs.mem hb).2
  have z2:s₀.heap.get? b=some o2:=ho2
  rw [z] at z2
  cases z2
  obtain ⟨sl',e2⟩:=sm b _ e1 hd2
  exact ⟨sl',e2⟩
 ·by_cases hb:b ∈ frs outer
  ·obtain ⟨sl,e1⟩:=J.base.slot b o z (I.ok.frf b hb) hb (noA b)
   obtain ⟨o2,ho2,hd2⟩:=(I.ok.funs.mem hb).2
   have z2:s₀.heap.get? b=some o2:=ho2
   rw [z] at z2
   cases z2
   obtain ⟨sl',e2⟩:=sm b _ e1 hd2
   exact ⟨_,e2⟩
  ·obtain ⟨o1,e1⟩:=I.base.there b o z (noA b)
   obtain ⟨o',z1,_⟩:=c2 b o1 e1 (nin b hb (lt0 b o z))
   exact ⟨o',fl'.1 b o' z1⟩
 ·obtain ⟨o1,e1⟩:=I.base.there b o z (noA b)
  obtain ⟨o',z1,z2⟩:=c2 b o1 e1 (nin b hb (lt0 b o z))
  refine ⟨o',z1,λn=>?_⟩
  rw [z2 (I.base.free b o z n (noA b))]
  have e2:=I.base.keep b o z n hb (noA b)
  rw [e1] at e2
  exact Option.some.inj e2
theorem Fun.okR {x:Str} {st:Stmt} {fd:FuncData} {ps:List Str} {k:Nat} {sp:Sp} (F:Fun K x qual st f fd) (S:Ab6 N ps (Aa1 st)) (len:∀ vs H Q E,sp vs H Q E->vs.length=ps.length)
  (hbody:∀ (cdv:Value) (A:Around) (outer:List Env) (s:Shared) (H:Hp) (vs:List V) (Q:VK) (E:XK),Room k (A.deeper (envOfC qual (Aa1 st) s.heap.objs.size f cdv))->sp vs H Q E ->
   ∃ t,PSs (cxR P w K mg base N qual (Aa1 st) f cdv A outer s H E) (Ab1 st) t/\t { nx:=λ_ H'=>Q .non H',rt:=Q } (Am7 N vs) H):FnOk P w K mg base (CXr P w) (k+1) f fd ps sp:=by
 obtain ⟨oc,od,kV,doc,pm,an,cdv,ct,osl,rfl,lk,hcd⟩:=F.ex
 exact Bq8 lk hcd S len λA outer s H vs Q E hr hsp=>hbody cdv A outer s H vs Q E hr hsp
end
section
variable {X : Cx} {x : Str} {C : Addr} {E : XK} {e₀ : Expr} {rest : List Expr} {t : TA} {np cpos pos : Pos}
def Br7 (C:Addr) (E:XK) (t:TA):TS:=λ_ σ H=>t σ H λvs H1=>vs.length<=sizeLine/\E (.ref C) none H1
theorem Ay2 (hK:excIn X.K C=true) (hm:X.mg x=some (.ref C)) (hR:Bl8 X E) (hA:X.calm=true) (ha:PA X (e₀::rest) t) (hg:Gl X x:=by rfl) (hd:(x == ("__debug__":Str))=false:=by decide)
  (he:starEach (e₀::rest) X.env=(false,eval e₀ X.env)::starEach rest X.env:=by rfl) (hpl:(backTo cpos (starEach rest X.env)).any (·.1)=false:=by rfl) :
  PS X (.Raise (some (.Call (.Name x np) (e₀::rest) [] cpos)) none pos) (Br7 C E t):=by
 intro pins s σ H D I h
 obtain ⟨bm,N,nm,q,bs,hdct,sn,sub,ab,col,dd,k0,k1,k2,k3,k5,mN,hni,hK⟩:=Bf6 I.kIn hK
 obtain ⟨_,_,T₀⟩:=hK _ I.kIn
 refine wpAny_Raise_call_subT (C:=C) (nm:=nm) (q:=q) (N:=N) (bs:=bs) (bm:=bm) (hdct:=hdct) (sn:=sn) (sub:=sub) (ab:=ab) (col:=col) (dd:=dd) (k0:=k0) (k1:=k1) (k2:=k2) (k3:=k3) (k5:=k5)
  PySem.F.excBase_ValueError (mN:=mN) (T₀.hasType PySem.F.excBase_ValueError.hasBase) (I.ok.hd hA) (by rw [he]; show (false || (backTo cpos (starEach rest X.env)).any (·.1))=false; rw [hpl]; rfl) hni (Ai5 I hg hm ⟨rfl,?_⟩ hd)
 have h1:=ha cpos pins s σ H _ I h
 rw [he] at h1 ⊢
 refine Calls.evalArgs_plain (wpAny_mono h1 (λus s₂ h₂=>?_) λ_ _ y=>y)
 obtain ⟨vs,H1,I1,r,z,q⟩:=h₂
 obtain ⟨g1,g2,g3⟩:=hK _ I1.kIn
 exact ⟨rfl,by rw [<- r.length]; exact z,g1,g2,g3,λh' e M=>hR pins σ H1 s₂ e C us h' I1 M q⟩
end
end L2
end
section
namespace L2
open PySem PySem.Spec PyProof.Rows
def xob (e:Addr) (C:Value) (od:Option Addr):HO:=.ext λh=>∃ oe,h.get? e=some oe/\oe.cls=C/\oe.dict=od/\PySem.W.notCls oe=true
section
variable {X : Cx} {pins : List (Addr × Obj)} {σ : St} {H H' : Hp} {s s' : Shared} {e : Addr} {C a0 : Value} {B h : Heap}
theorem Inv.flown {tk:Nat} {od:Option Addr} (I:Inv X pins σ H s) (os:s'.os=s.os) (bare:AllBare s'.gens) (un:Un (frs X.stack) [] H H' s.heap s'.heap) (hok:HOk X.prog X.w H' s'.heap) (fl:Heap.FlyingW B X.stack e C a0 s'.heap)
  (c1:∀ b u,H' b=some u->∃ o,B.get? b=some o) (c2:∀ b o,s.heap.get? b=some o->b ∉ frs X.stack->∃ o',B.get? b=some o'/\(H b=none->o'=o))
  (fl':Heap.FlyingW B X.stack e C a0 h) (sm:s'.heap.UpToSlots h) (hdc:Dc h e od):H' e=none/\Inv X pins σ (upd H' e (xob e C od)) { s' with heap:=h,toks:=tk }:=by
 have he:H' e=none:=by
  cases q:H' e with
  | none=>rfl
  | some u =>
   obtain ⟨o,z⟩:=c1 e u q
   rw [fl.2.1] at z
   cases z
 obtain ⟨oe,ws,hoe,hoec,hoed,_⟩:=fl'.first
 have ne:∀ b o,s.heap.get? b=some o->b≠e:=λb o z q=>by
  subst q
  by_cases hb:b ∈ frs X.stack
  ·obtain ⟨_,o2,ho2,hd2⟩:=fl'.2.2.1.mem hb
   rw [hoe] at ho2
   cases ho2
   exact hd2 _ hoed
  ·obtain ⟨o',z1,_⟩:=c2 b o z hb
   rw [fl.2.1] at z1
   cases z1
 have ne':∀ b u,H' b=some u->b≠e:=λb u z q=>by
  subst q
  rw [he] at z
  cases z
 refine ⟨he,?_⟩
 refine I.call' (s':={ s' with heap:=h,toks:=tk }) (H':=upd H' e (xob e C od)) (ch:=[]) os ⟨λb o z n hb _=>?_,λb o z n hb _=>?_,λb o z n _=>?_,λb o z _=>?_,λb xs z=>?_,λb o u z=>?_,λb ps z=>?_⟩ (λa u q=>?_) bare (λb z=>absurd z (by simp))
 ·obtain ⟨o',z1,z2⟩:=c2 b o z hb
  rw [z2 n] at z1
  exact fl'.1 b o z1
 ·obtain ⟨sl,e1⟩:=un.slot b o z n hb (by simp)
  obtain ⟨_,o2,ho2,hd2⟩:=fl.2.2.1.mem hb
  rw [e1] at ho2
  cases ho2
  obtain ⟨sl',e2⟩:=sm b _ e1 hd2
  exact ⟨sl',e2⟩
 ·rw [Ab0 (ne b o z)]
  exact un.free b o z n (by simp)
 ·by_cases hb:b ∈ frs X.stack
  ·obtain ⟨_,o2,ho2,_⟩:=fl'.2.2.1.mem hb
   exact ⟨o2,ho2⟩
  ·obtain ⟨o',z1,_⟩:=c2 b o z hb
   exact ⟨o',fl'.1 b o' z1⟩
 ·have z1:=un.tups b xs z
  rw [Ab0 (ne' b _ z1)]
  exact z1
 ·have z1:=un.frzs b o u z
  rw [Ab0 (ne' b _ z1)]
  exact z1
 ·obtain ⟨more,z1⟩:=un.tbls b ps z
  exact ⟨more,by rw [Ab0 (ne' b _ z1)]; exact z1⟩
 ·by_cases ha:a=e
  ·subst ha
   rw [upd_same] at q
   cases q
   obtain ⟨o3,ho3,hd3⟩:=hdc
   rw [hoe] at ho3
   cases ho3
   exact ⟨⟨oe,hoe,hoec,hd3,by unfold PySem.W.notCls; rw [hoed]⟩,⟨oe,hoe⟩,λh1 h2 ⟨o1,g1,g2⟩ k=>⟨o1,k o1 g1,g2⟩⟩
  ·rw [Ab0 ha] at q
   refine (hok a u q).stay (λb v hb z=>?_) (λb z=>by rw [Ab0 (ne' b _ z)]; exact z) λb xs z=>by rw [Ab0 (ne' b _ z)]; exact z
   obtain ⟨o,z0⟩:∃ o,B.get? b=some o:=by
    rcases hb with rfl | hb
    ·exact c1 _ _ q
    ·exact c1 _ _ hb
   have z1:=fl.1 b o z0
   rw [z] at z1
   cases z1
   exact fl'.1 b _ z0
end
abbrev Cx.hand (X:Cx) (e:Addr):Cx:={ X with A:=X.A.mark (some (.ref e)),calm:=false,xe:=λ_ _=>False }
theorem Cx.Ok.hand {X:Cx} (ok:X.Ok) (e:Addr):(X.hand e).Ok :=
 ⟨ok.mod,ok.kind,ok.glob,ok.blt,ok.above,ok.inj,ok.has,ok.cab,(λz=>nomatch z),ok.frames,ok.stk,ok.exf,ok.bs,ok.bsz,ok.noex,ok.exfs,ok.funs,ok.frf⟩
section
variable {X : Cx} {pins : List (Addr × Obj)} {σ : St} {H : Hp} {s : Shared} {e : Addr}
theorem Inv.hand (I:Inv X pins σ H s) (e:Addr):Inv (X.hand e) pins σ H s:=⟨I.ok.hand e,I.os,I.bare,I.base,I.loc,I.cell,I.free,I.freeC,I.pin,I.hok,I.len⟩
theorem Inv.unhand (ok:X.Ok) (I:Inv (X.hand e) pins σ H s):Inv X pins σ H s:=⟨ok,I.os,I.bare,I.base,I.loc,I.cell,I.free,I.freeC,I.pin,I.hok,I.len⟩
theorem Bb4 {M:Model} {A:Around} {E:Value->Shared->Prop} {i:Nat} {x:Str} {v:V} {Q:Unit->Shared->Prop} (I:Inv X pins σ H s) (hN:X.N.Nodup) (hi:X.N[i]?=some x) (hk:X.env.scope.names.lookup x=some .local) (hv:σ[i]?=some (some v))
  (h:∀ s',Inv X pins (σ.set i none) H s'->Q () s'):wpAny M A (unbindName X.env x) Q E s:=by
 obtain ⟨m,hn,hl⟩:=id I.loc
 have hcls:(X.env.scope.kind == .class || (X.env.scope.kind == .module && X.env.locals != X.env.globals))=false:=by rw [I.ok.kind]; rfl
 have hiσ:i<σ.length:=by rw [I.len]; exact (List.getElem?_eq_some_iff.mp hi).1
 have cne:=I.cne
 obtain ⟨u,_,l⟩:=hl i x v hi hv (.inl hk)
 have hm:m x=some u:=by
  rcases l with ⟨_,z⟩ | ⟨z,_⟩
  ·exact z
  ·have z':X.env.scope.names.lookup x=some .cell\/X.env.scope.names.lookup x=some .free:=z
   rw [hk] at z'
   rcases z' with z' | z' <;> cases z'
 have tracked:∀ {a:Addr} {h':Heap},(∃ o,s.heap.get? a=some o/\H a=none)->Heap.SameBut a s.heap h'->HOk X.prog X.w H h':=λ{a h'} ha hs b ob e=>by
  obtain ⟨_,_,hfree⟩:=ha
  refine (I.hok b ob e).stay (λc w' hc q=>(hs.2 c ?_).trans q) (λ_ q=>q) λ_ _ q=>q
  rintro rfl
  rcases hc with rfl | hc
  ·rw [hfree] at e; cases e
  ·rw [hfree] at hc; cases hc
 refine wpAny_unbindName_local hk hn hm hcls λh' u' hn' hs=>?_
 obtain ⟨oL,_,_,hoL,_⟩:=id hn
 refine h _ ⟨I.ok,I.os,I.bare,⟨λb o e n hb hx=>?_,λb o e n hb hx=>?_,I.base.free,λb o e hx=>?_,I.base.tups,I.base.frzs,I.base.tbls⟩,⟨_,hn',λj y v' e1 e2 e3=>?_⟩,λy c e=>?_,I.free,I.freeC,λp hp=>?_,tracked ⟨oL,hoL,I.free⟩ hs,by simpa using I.len⟩
 ·exact (hs.2 b (Nat.ne_of_lt (Nat.lt_of_lt_of_le (Heap.lt_size e) I.ok.above))).trans (I.base.keep b o e n hb hx)
 ·obtain ⟨sl,e1⟩:=I.base.slot b o e n hb hx
  exact ⟨sl,(hs.2 b (Nat.ne_of_lt (Nat.lt_of_lt_of_le (Heap.lt_size e) I.ok.above))).trans e1⟩
 ·obtain ⟨o',e1⟩:=I.base.there b o e hx
  exact ⟨o',(hs.2 b (Nat.ne_of_lt (Nat.lt_of_lt_of_le (Heap.lt_size e) I.ok.above))).trans e1⟩
 ·by_cases hj:j=i
  ·subst hj
   rw [List.getElem?_set_self hiσ] at e2
   cases e2
  ·rw [List.getElem?_set_ne (Ne.symm hj)] at e2
   obtain ⟨u',r',q⟩:=hl j y v' e1 e2 e3
   refine ⟨u',r',?_⟩
   rcases q with ⟨k,e⟩ | ⟨k,c,e,z⟩
   ·refine .inl ⟨k,?_⟩
    have:y≠x:=λe=>hj (Ap1 hN e1 (e ▸ hi))
    simp [this,e]
   ·exact .inr ⟨k,c,e,z.sameBut hs (cne y c e)⟩
 ·obtain ⟨w',z⟩:=I.cell y c e
  exact ⟨w',z.sameBut hs (cne y c e)⟩
 ·obtain ⟨e,n,ne,nf,d⟩:=I.pin p hp
  exact ⟨(hs.2 p.1 ne).trans e,n,ne,nf,d⟩
end
def XE (X:Cx) (pins:List (Addr×Obj)) (σ:St) (E:XK) (x:Value) (s':Shared):Prop:=∃ H1 s1,Inv X pins σ H1 s1/\CXr X.prog X.w X.stack H1 s1 E x s'
def XP (X:Cx) (pins:List (Addr×Obj)) (E:St->XK) (x:Value) (s':Shared):Prop:=∃ σ',XE X pins σ' (E σ') x s'
abbrev TSX:=Ends->(St->XK)->St->Hp->Prop
abbrev TEX:=St->Hp->VK->XK->Prop
def PSX (X:Cx) (sts:List Stmt) (t:TSX):Prop :=
 ∀ (pins:List (Addr×Obj)) (s:Shared) (σ:St) (H:Hp) (D:Ends) (E:St->XK),Inv X pins σ H s->t D E σ H->wpAny (model X.prog X.w) X.A (execs sts X.env) (SP X pins D) (XP X pins E) s
def PEX (X:Cx) (e:Expr) (t:TEX):Prop :=
 ∀ (pins:List (Addr×Obj)) (s:Shared) (σ:St) (H:Hp) (Q:VK) (E:XK),Inv X pins σ H s->t σ H Q E->wpAny (model X.prog X.w) X.A (eval e X.env) (EP X pins σ Q) (XE X pins σ E) s
section
variable {X : Cx} {e : Expr} {te : TEX} {pos : Pos} {a b : List Stmt} {t u : TSX}
end
section
variable {X : Cx} {k : Nat} {f C : Addr} {fd : FuncData} {ps : List Str} {sp : Sp} {dvs : List V} {ds : List Value} {x m : Str} {p pos apos : Pos} {e o : Expr} {es : List Expr} {ta : TE} {t : TA}
theorem Bn7 {pins:List (Addr×Obj)} {σ:St} {H:Hp} {s:Shared} {Q:VK} {E:XK} {us:List Value} {vs:List V} (F:FnOk X.prog X.w X.K X.mg X.base (CXr X.prog X.w) k f fd ps sp) (hr:Room k X.A) (hb:Binds X.K fd ps ds) (hd:Vals dvs ds)
  (I:Inv X pins σ H s) (r:Vals vs us) (h:sp (vs++dvs) H Q E):wpAny (model X.prog X.w) X.A (call (.ref f) us) (EP X pins σ Q) (XE X pins σ E) s:=by
 have r2:Vals (vs++dvs) (us++ds):=r.append hd
 have hl:(us++ds).length=ps.length:=by rw [<- r2.length]; exact F.len _ _ _ _ h
 refine wpAny_call (codeAny_mono (F.run X.A X.stack s H ⟨us,[]⟩ (us++ds) (vs++dvs) Q E hr I.env0 (hb s us I.kIn hl) r2 h) λr s' hq=>?_)
 cases r with
 | error e=>exact ⟨H,s,I,hq⟩
 | ok fl =>
  cases fl with
  | ret u=>exact I.after hq
  | next=>exact False.elim hq
  | brk=>exact False.elim hq
  | cont=>exact False.elim hq
def Br9 (C:Addr) (m:Str) (sp:Sp) (dvs:List V) (ta:TE) (t:TA):TEX:=λσ H Q E=>ta σ H λx H1=>∃ a dx fs,x=.ref a/\H1 a=some (.ins C dx fs)/\fs.lookup m=none /\
 t σ H1 λvs H2=>sp (x::(vs++dvs)) H2 Q E
theorem Bh4 {pl:Sem Bool} (he:PE X.nox o ta) (c:Cls X.K C) (hm:Meth X.K C m f) (F:FnOk X.prog X.w X.K X.mg X.base (CXr X.prog X.w) k f fd ps sp) (hr:Room k X.A) (hb:Binds X.K fd ps ds) (hd:Vals dvs ds) (ha:PA X.nox (e::es) t)
  (hst:starEach (e::es) X.env=(false,eval e X.env)::starEach es X.env:=by rfl) (hpl:(backTo pos (starEach es X.env)).any (·.1)=false:=by rfl)
  (ht:eval (.Call (.Attribute o m apos) (e::es) [] pos) X.env=(do
   let ov <- eval o X.env
   standAt apos.atName
   let (f,first) <- holding [ov] (getMethod ov m pl)
   callWith pos f first (backTo pos (starEach (e::es) X.env)) (backToKw pos (keywordEach [] X.env))):=by rfl) :
  PEX X (.Call (.Attribute o m apos) (e::es) [] pos) (Br9 C m sp dvs ta t):=by
 intro pins s σ H Q E I h
 refine PySem.W.methodCall_KW (pl:=pl) (wpAny_mono (he pins s σ H _ (I.wish _) h) (λu s1 q=>?_) λ_ _ z=>z.elim) ht
 obtain ⟨x,H1,I1,rx,a,dx,fs,ex,ea,l,q⟩:=q
 have I1:=I1.unwish
 subst ex
 obtain rfl:u=Value.ref a:=rx
 refine Aj3 I1 ea c hm l ?_
 refine PySem.W.callWith_K (first:=[.ref a]) (h₀:=X.base) I.ok.mod.kin hm.kp (wpAny_mono (ha pos pins s1 σ H1 _ (I1.wish _) q) (λus s2 q=>?_) λ_ _ z=>z.elim) hst hpl
 obtain ⟨vs,H2,I2,r,q2⟩:=q
 exact ⟨I2.kIn,Bn7 (us:=.ref a::us) (vs:=.ref a::vs) F hr hb hd I2.unwish (.cons rfl r) q2⟩
end
section
variable {X : Cx} {x n : Str} {HC : Addr} {i : Nat} {body suite : List Stmt} {b₀ : Stmt} {tb : TSX} {ts : TS} {np hpos pos : Pos}
def tTry (K:PySem.W.Frag) (HC:Addr) (i:Nat) (tb:TSX) (ts:TS):TS:=λD σ H=>tb D (λσ' C od H1=>PySem.W.exmOne K C (.ref HC)=some true /\
 ∀ e,H1 e=none->ts { nx:=λσ2 H2=>D.nx (σ2.set i none) H2,rt:=D.rt,bk:=λσ2 H2=>D.bk (σ2.set i none) H2,ct:=λσ2 H2=>D.ct (σ2.set i none) H2 } (σ'.set i (some (.ref e))) (upd H1 e (xob e C od))) σ H
theorem Bt3 (hN:X.N.Nodup) (hi:X.N[i]?=some n) (hn:X.env.scope.names.lookup n=some .local) (hst:X.stack=X.env::X.outer) (hf:X.env.frame=some X.env.locals) (hm:X.mg x=some (.ref HC)) (hb:PSX X body tb)
  (hs:∀ e,PSs (X.hand e) (b₀::suite) ts) (hg:Gl X x:=by rfl) (hd:(x == ("__debug__":Str))=false:=by decide) :
  PS X (.Try body [.ExceptHandler (some (.Name x np)) (some n) (b₀::suite) hpos] [] [] pos) (tTry X.K HC i tb ts):=by
 intro pins s σ H D I h
 have hfr:X.A.frames=some (X.env::X.outer):=by rw [<- hst]; exact I.ok.frames
 refine wpAny_Try_except (wpAny_mono (hb pins s σ H D _ I h) (λf s1 q=>?_) λxv s1 hx=>?_)
 ·cases f with
  | next=>exact wpAny_execs_nil q
  | ret v=>exact q
  | brk=>exact q
  | cont=>exact q
 ·obtain ⟨σ',H1,s0,I1,e,C,a0,H',B,rfl,os,bare,un,hok,fl,c1,c2,od,hdc,hex,hq⟩:=hx
  have fl1:Heap.FlyingW B (X.env::X.outer) e C a0 s1.heap:=by rw [<- hst]; exact fl
  refine Bv4 hfr hf fl1 hdc λh₄ held₄ sm₄ dc₄=>?_
  refine Bl4 (s:={ s1 with heap:=h₄ }) held₄ dc₄ λh₅ fl₅ sm₅ dc₅=>?_
  have fl₅':Heap.FlyingW B X.stack e C a0 h₅:=by rw [hst]; exact fl₅
  obtain ⟨_,I₅⟩:=I1.flown (tk:=s1.toks) os bare un hok fl c1 c2 fl₅' (sm₄.trans sm₅) dc₅
  refine wpAny_handleBy_cons (codeAny_handlers_test ?_) (by intro q; cases q)
  refine Ai5 (X:=X.hand e) (I₅.hand e) hg hm ?_ hd
  obtain ⟨ob,hob,hobc⟩:=fl₅.there
  have LT:PySem.W.Looks (model X.prog X.w) h₅ (typeOf (.ref e)) C:=by
   subst hobc
   exact (PySem.W.Looks.ld hob).andThen .now
  refine (PySem.W.exm_one I₅.kIn LT hex).here ?_
  refine codeAny_handlers_suite_as ?_
  refine Bw7 fl₅ dc₅ λh₆ fl₆ sm₆ dc₆=>?_
  have fl₆':Heap.FlyingW B X.stack e C a0 h₆:=by rw [hst]; exact fl₆
  obtain ⟨he,I₆⟩:=I1.flown (tk:=s1.toks) os bare un hok fl c1 c2 fl₆' ((sm₄.trans sm₅).trans sm₆) dc₆
  refine Ah6 (X:=X.hand e) (I₆.hand e) hN hi (.inl hn) (show RelV (.ref e) (.ref e) from rfl) (λs₇ I₇=>?_) (.inr hn)
  refine wpAny_mono (hs e pins s₇ _ _ _ I₇ (hq e he)) (λf s₈ q=>?_) λ_ _ z=>z.elim
  have back:∀ (f:Flow) (σ2:St) (H2:Hp) (s₈:Shared),Inv (X.hand e) pins σ2 H2 s₈->(∀ s10,Inv X pins (σ2.set i none) H2 s10->SP X pins D f s10) ->
    wpAny (model X.prog X.w) X.A (do bindName X.env n .none; unbindBehindTheSuite X.env n hpos) (λ_ s₃=>SP X pins D f s₃) X.xe s₈:=λf σ2 H2 s₈ I2 k=>by
   have I2:=I2.unhand I.ok
   refine wpAny_bind (wpAny_bindName (Ah6 I2 hN hi (.inl hn) (show RelV .non .none from rfl) (λs9 I9=>?_) (.inr hn)))
   unfold unbindBehindTheSuite
   refine wpAny_onRaise (Bb4 (v:=.non) I9 hN hi hn ?_ λs10 I10=>?_)
   ·rw [List.getElem?_set_self (by rw [I2.len]; exact (List.getElem?_eq_some_iff.mp hi).1)]
   ·rw [List.set_set] at I10
    exact k s10 I10
  cases f with
  | next =>
   obtain ⟨σ2,H2,I2,q2⟩:=q
   exact back .next σ2 H2 s₈ I2 λs10 I10=>⟨_,_,I10,q2⟩
  | ret v =>
   obtain ⟨v',σ2,H2,I2,r2,q2⟩:=q
   exact back (.ret v) σ2 H2 s₈ I2 λs10 I10=>⟨v',_,_,I10,r2,q2⟩
  | brk =>
   obtain ⟨σ2,H2,I2,q2⟩:=q
   exact back .brk σ2 H2 s₈ I2 λs10 I10=>⟨_,_,I10,q2⟩
  | cont =>
   obtain ⟨σ2,H2,I2,q2⟩:=q
   exact back .cont σ2 H2 s₈ I2 λs10 I10=>⟨_,_,I10,q2⟩
end
structure Bz4 (k:Nat) (A:Around):Prop where
 dp:A.depth+3 * k+5<recursionLimit
 un:A.units+16 * k+200<cLine
structure Bz6 (P:Program) (w:World) (K:PySem.W.Frag) (mg:Str->Option Value) (base:Heap) (k:Nat) (f:Addr) (fd:FuncData) (ps:List Str) (sp:Sp):Prop where
 len:∀ vs H Q,sp vs H Q E0->vs.length=ps.length
 run:∀ (A:Around) (outer:List Env) (s:Shared) (H:Hp) (args:Args) (us:List Value) (vs:List V) (Q:VK),Bz4 k A->Env0 P w K mg base A outer s H->BindsTo s fd args (ps.zip us)->Vals vs us->sp vs H Q E0 ->
  codeAny (model P w) A (.call (.ref f) args) (CR CX0 outer P w H s Q E0) s
section
variable {P : Program} {w : World} {K : PySem.W.Frag} {mg : Str → Option Value} {base : Heap} {N ps : List Str} {qual : Str} {f : Addr} {k : Nat} {sp : Sp}
end
section
variable {X : Cx} {k : Nat} {f : Addr} {fd : FuncData} {ps : List Str} {sp : Sp} {x : Str} {p pos : Pos} {e : Expr} {es : List Expr} {t : TA}
end
end L2
end
section
open PySem PySem.W PyProof.Rows PySem.Calls PySem.Spec
open Builtin Builtin.ObjectAttr Builtin.Getset_descriptor
namespace EX
section
variable {prog : Program} {w : World} {A : Around} {E : Value → Shared → Prop} {s : Shared} {K : Frag} {x C D : Addr}
structure Cls (K:Frag) (D:Addr):Prop where
 ga:findIn K (.ref D) "__getattribute__"=some (some (.builtin "BaseException.__getattribute__"))
 noHook:findIn K (.ref D) "__getattr__"=some none
 kind:findIn K (.ref D) "__class__"=some (some (.builtin "object.__class__"))
 get:specialIn K (.builtin "object.__class__") "__get__"=some (some (.builtin "getset_descriptor.__get__"))
 takes:takesIn K (.builtin "object.__class__")=some true
 obj:mroIn K D (.type "object")=some true
 exc:mroIn K D (.type "BaseException")=some true
variable {ox : Obj} {Q : Value → Shared → Prop} {h₀ : Heap} {L : Addr} {news : List (Addr × Obj)} {T : String}
end
end EX
end
section
namespace L2
open PySem PySem.Spec PyProof.Rows PySem.SeqAt
inductive Th (H:Hp):V->Prop where
 | non:Th H .non
 | bl (b:Bool):Th H (.bl b)
 | int (i:Int):Th H (.int i)
 | str (x:Str):Th H (.str x)
 | lst {a:Addr} {xs:List V} (e:H a=some (.lst xs)):Th H (.ref a)
 | frz {a:Addr} {o:Obj} {xs:List V} (e:H a=some (.frz o (.lst xs))):Th H (.ref a)
 | tup {a:Addr} {xs:List V} (e:H a=some (.tup xs)):Th H (.ref a)
 | dic {a:Addr} {kvs:List (Key×V)} (e:H a=some (.dK kvs)):Th H (.ref a)
theorem Th.same {H H':Hp} {x:V} (t:Th H x) (s:Same H H'):Th H' x:=by
 cases t with
 | non=>exact .non
 | bl b=>exact .bl b
 | int i=>exact .int i
 | str z=>exact .str z
 | lst e=>exact .lst (s _ _ e)
 | frz e=>exact .frz (s _ _ e)
 | tup e=>exact .tup (s _ _ e)
 | dic e=>exact .dic (s _ _ e)
def isI:V->Bool
 | .int _=>true
 | _=>false
def isB:V->Bool
 | .bl _=>true
 | _=>false
section
variable {K : PySem.W.Frag}
theorem Ax1:PySem.W.kitOne K (.type "NoneType") (.type "int")=some false:=by kernel_rfl
theorem Ba7:PySem.W.kitOne K (.type "bool") (.type "int")=some true:=by kernel_rfl
theorem Ax2:PySem.W.kitOne K (.type "int") (.type "int")=some true:=by kernel_rfl
theorem Ax0:PySem.W.kitOne K (.type "str") (.type "int")=some false:=by kernel_rfl
theorem Am0:PySem.W.kitOne K (.type "list") (.type "int")=some false:=by kernel_rfl
theorem Aw9:PySem.W.kitOne K (.type "tuple") (.type "int")=some false:=by kernel_rfl
theorem Ax3:PySem.W.kitOne K (.type "dict") (.type "int")=some false:=by kernel_rfl
theorem Ar0:PySem.W.kitOne K (.type "NoneType") (.type "bool")=some false:=by kernel_rfl
theorem Ax4:PySem.W.kitOne K (.type "bool") (.type "bool")=some true:=by kernel_rfl
theorem Ar1:PySem.W.kitOne K (.type "int") (.type "bool")=some false:=by kernel_rfl
theorem Aq9:PySem.W.kitOne K (.type "str") (.type "bool")=some false:=by kernel_rfl
theorem Aj5:PySem.W.kitOne K (.type "list") (.type "bool")=some false:=by kernel_rfl
theorem Aq8:PySem.W.kitOne K (.type "tuple") (.type "bool")=some false:=by kernel_rfl
theorem Ar2:PySem.W.kitOne K (.type "dict") (.type "bool")=some false:=by kernel_rfl
theorem Av4:PySem.W.kitOne K (.type "tuple") (.type "tuple")=some true:=by kernel_rfl
theorem Al9:PySem.W.kitOne K (.type "list") (.type "list")=some true:=by kernel_rfl
theorem Aw6:PySem.W.kitOne K (.type "NoneType") (.type "list")=some false:=by kernel_rfl
theorem Ba6:PySem.W.kitOne K (.type "bool") (.type "list")=some false:=by kernel_rfl
theorem Aw7:PySem.W.kitOne K (.type "int") (.type "list")=some false:=by kernel_rfl
theorem Aw5:PySem.W.kitOne K (.type "str") (.type "list")=some false:=by kernel_rfl
theorem Aw4:PySem.W.kitOne K (.type "tuple") (.type "list")=some false:=by kernel_rfl
theorem Aw8:PySem.W.kitOne K (.type "dict") (.type "list")=some false:=by kernel_rfl
end
section
variable {X : Cx}
theorem Ao1:Am9 X (.builtin "isinstance") (λxs H Q=>∃ x,xs=[x,.ty "int"]/\Th H x/\Q (.bl (isI x || isB x)) H):=by
 intro pins s σ H xs us Q I r h
 obtain ⟨x,rfl,th,q⟩:=h
 obtain ⟨u,v,rfl,rx,rt⟩:=r.two
 obtain rfl:v=Value.type "int":=rt
 cases th with
 | non=>exact Ab2 I rx .non Ax1 λtk=>⟨.bl _,H,I.tok tk,rfl,q⟩
 | bl b=>exact Ab2 I rx (.bl b) Ba7 λtk=>⟨.bl _,H,I.tok tk,rfl,q⟩
 | int i=>exact Ab2 I rx (.int i) Ax2 λtk=>⟨.bl _,H,I.tok tk,rfl,q⟩
 | str z=>exact Ab2 I rx (.str z) Ax0 λtk=>⟨.bl _,H,I.tok tk,rfl,q⟩
 | lst e=>exact Ab2 I rx (.lst e) Am0 λtk=>⟨.bl _,H,I.tok tk,rfl,q⟩
 | frz e=>exact Ab2 I rx (.frz e) Am0 λtk=>⟨.bl _,H,I.tok tk,rfl,q⟩
 | tup e=>exact Ab2 I rx (.tup e) Aw9 λtk=>⟨.bl _,H,I.tok tk,rfl,q⟩
 | dic e=>exact Ab2 I rx (.dK e) Ax3 λtk=>⟨.bl _,H,I.tok tk,rfl,q⟩
theorem Ai6:Am9 X (.builtin "isinstance") (λxs H Q=>∃ x,xs=[x,.ty "bool"]/\Th H x/\Q (.bl (isB x)) H):=by
 intro pins s σ H xs us Q I r h
 obtain ⟨x,rfl,th,q⟩:=h
 obtain ⟨u,v,rfl,rx,rt⟩:=r.two
 obtain rfl:v=Value.type "bool":=rt
 cases th with
 | non=>exact Ab2 I rx .non Ar0 λtk=>⟨.bl _,H,I.tok tk,rfl,q⟩
 | bl b=>exact Ab2 I rx (.bl b) Ax4 λtk=>⟨.bl _,H,I.tok tk,rfl,q⟩
 | int i=>exact Ab2 I rx (.int i) Ar1 λtk=>⟨.bl _,H,I.tok tk,rfl,q⟩
 | str z=>exact Ab2 I rx (.str z) Aq9 λtk=>⟨.bl _,H,I.tok tk,rfl,q⟩
 | lst e=>exact Ab2 I rx (.lst e) Aj5 λtk=>⟨.bl _,H,I.tok tk,rfl,q⟩
 | frz e=>exact Ab2 I rx (.frz e) Aj5 λtk=>⟨.bl _,H,I.tok tk,rfl,q⟩
 | tup e=>exact Ab2 I rx (.tup e) Aq8 λtk=>⟨.bl _,H,I.tok tk,rfl,q⟩
 | dic e=>exact Ab2 I rx (.dK e) Ar2 λtk=>⟨.bl _,H,I.tok tk,rfl,q⟩
def Am2 (H:Hp):V->Bool
 | .ref a=>match H a with | some (.lst _)=>true | some (.frz _ (.lst _))=>true | _=>false
 | _=>false
theorem Af7:Am9 X (.builtin "isinstance") (λxs H Q=>∃ x,xs=[x,.ty "list"]/\Th H x/\Q (.bl (Am2 H x)) H):=by
 intro pins s σ H xs us Q I r h
 obtain ⟨x,rfl,th,q⟩:=h
 obtain ⟨u,v,rfl,rx,rt⟩:=r.two
 obtain rfl:v=Value.type "list":=rt
 cases th with
 | non=>exact Ab2 I rx .non Aw6 λtk=>⟨.bl _,H,I.tok tk,rfl,q⟩
 | bl b=>exact Ab2 I rx (.bl b) Ba6 λtk=>⟨.bl _,H,I.tok tk,rfl,q⟩
 | int i=>exact Ab2 I rx (.int i) Aw7 λtk=>⟨.bl _,H,I.tok tk,rfl,q⟩
 | str z=>exact Ab2 I rx (.str z) Aw5 λtk=>⟨.bl _,H,I.tok tk,rfl,q⟩
 | lst e=>exact Ab2 I rx (.lst e) Al9 λtk=>⟨.bl _,H,I.tok tk,rfl,by simp only [Am2,e] at q; exact q⟩
 | frz e=>exact Ab2 I rx (.frz e) Al9 λtk=>⟨.bl _,H,I.tok tk,rfl,by simp only [Am2,e] at q; exact q⟩
 | tup e=>exact Ab2 I rx (.tup e) Aw4 λtk=>⟨.bl _,H,I.tok tk,rfl,by simp only [Am2,e] at q; exact q⟩
 | dic e=>exact Ab2 I rx (.dK e) Aw8 λtk=>⟨.bl _,H,I.tok tk,rfl,by simp only [Am2,e] at q; exact q⟩
end
mutual
inductive DatR (K:PySem.W.Frag) (H:Hp):V->PyData->Prop
 | non:DatR K H .non .none
 | bl (b:Bool):DatR K H (.bl b) (.bool b)
 | int (i:Int):DatR K H (.int i) (.int i)
 | str (x:Str):DatR K H (.str x) (.str x)
 | lst {a:Addr} {xs:List V} {ds:List PyData}:SqL K H a xs->DatsR K H xs ds->DatR K H (.ref a) (.list ds)
 | tup {a:Addr} {xs:List V} {ds:List PyData}:SqT K H a xs->DatsR K H xs ds->DatR K H (.ref a) (.tuple ds)
inductive DatsR (K:PySem.W.Frag) (H:Hp):List V->List PyData->Prop
 | nil:DatsR K H [] []
 | cons {x:V} {d:PyData} {xs:List V} {ds:List PyData}:DatR K H x d->DatsR K H xs ds->DatsR K H (x::xs) (d::ds)
end
section
variable {X : Cx} {pins : List (Addr × Obj)} {σ : St} {H : Hp} {s : Shared}
mutual
theorem DatR.reads (I:Inv X pins σ H s):∀ {v:V} {d:PyData} {u:Value},DatR X.K H v d->RelV v u->∃ as,Reads s.heap u d as
 | _,_,_,.non,r=>⟨[],by cases (show _=Value.none from r); exact .none⟩
 | _,_,_,.bl b,r=>⟨[],by cases (show _=Value.bool b from r); exact .bool b⟩
 | _,_,_,.int i,r=>⟨[],by obtain ⟨t,rfl⟩:=r; exact .int i t⟩
 | _,_,_,.str x,r=>⟨[],by obtain ⟨t,rfl⟩:=r; exact .str x t⟩
 | _,_,_,.lst (a:=a) sq ds,r=>by
  cases (show _=Value.ref a from r)
  obtain ⟨its,rv,⟨o,n,e,hc,_,hd⟩,_⟩:=I.list sq
  obtain ⟨as,ra⟩:=DatsR.reads I ds rv
  exact ⟨_,.list e hc hd (by simpa using ra)⟩
 | _,_,_,.tup (a:=a) sq ds,r=>by
  cases (show _=Value.ref a from r)
  obtain ⟨its,rv,⟨o,e,hc,n,hd⟩,_⟩:=I.tuple sq
  obtain ⟨as,ra⟩:=DatsR.reads I ds rv
  exact ⟨_,.tuple e hc hd (by simpa using ra)⟩
theorem DatsR.reads (I:Inv X pins σ H s):∀ {vs:List V} {ds:List PyData} {us:List Value},DatsR X.K H vs ds->Vals vs us->∃ as,ReadsAll s.heap us ds as
 | _,_,_,.nil,.nil=>⟨[],.nil⟩
 | _,_,_,.cons d ds,.cons r rs=>by
  obtain ⟨as,ra⟩:=DatR.reads I d r
  obtain ⟨bs,rb⟩:=DatsR.reads I ds rs
  exact ⟨_,.cons ra rb⟩
end
end
section
variable {X : Cx}
def rEqD (K:PySem.W.Frag):R2:=λx y H Q=>∃ da db,DatR K H x da/\DatR K H y db/\shaped da=true/\shaped db=true/\Q (.bl (PyData.eqv da db)) H
def rNeD (K:PySem.W.Frag):R2:=λx y H Q=>∃ da db,DatR K H x da/\DatR K H y db/\shaped da=true/\shaped db=true/\Q (.bl (!PyData.eqv da db)) H
theorem Bl2 (hu:X.A.units+64<cLine):OpR X (compareOp .Eq) (rEqD X.K):=by
 intro pins s σ H x y v u Q I rx ry h
 obtain ⟨da,db,ra,rb,ha,hb,q⟩:=h
 obtain ⟨as,r1⟩:=ra.reads I rx
 obtain ⟨bs,r2⟩:=rb.reads I ry
 exact eq_dataH r1 r2 ha hb hu ⟨.bl _,H,I,rfl,q⟩
theorem Ay7 (hu:X.A.units+64<cLine):OpR X (compareOp .NotEq) (rNeD X.K):=by
 intro pins s σ H x y v u Q I rx ry h
 obtain ⟨da,db,ra,rb,ha,hb,q⟩:=h
 obtain ⟨as,r1⟩:=ra.reads I rx
 obtain ⟨bs,r2⟩:=rb.reads I ry
 exact ne_dataH r1 r2 ha hb hu ⟨.bl _,H,I,rfl,q⟩
end
end L2
end
section
namespace L2
open PySem PySem.Spec PyProof.Rows
def Ap5 (x:Str) (N:List Str):List Str:=x::N.map λy=>if y=x then ("":Str) else y
def CapOk (X:Cx) (x:Str) (cl:List (Str×Addr)):List (Str×NameKind)->Prop
 | []=>True
 | (n,k)::r=>(((n=x\/n = ".0")/\k=.local)\/(k≠.local/\k≠.cell/\k≠.free)\/(k=.cell/\n≠x/\n≠""/\X.env.scope.names.lookup n=some .cell/\cl.lookup n=X.env.cells.lookup n))/\CapOk X x cl r
def ClOk (X:Cx):List (Str×Addr)->Prop
 | []=>True
 | (n,c)::r=>X.env.cells.lookup n=some c/\ClOk X r
theorem CapOk.at {X:Cx} {x:Str} {cl:List (Str×Addr)} {y:Str} {k:NameKind}:∀ {l:List (Str×NameKind)},CapOk X x cl l->l.lookup y=some k ->
  ((y=x\/y = ".0")/\k=.local)\/(k≠.local/\k≠.cell/\k≠.free)\/(k=.cell/\y≠x/\y≠""/\X.env.scope.names.lookup y=some .cell/\cl.lookup y=X.env.cells.lookup y)
 | [],_,h=>by simp at h
 | (n,k')::r,⟨h1,h2⟩,h=>by
  rw [List.lookup_cons] at h
  split at h
  ·rename_i e
   cases h
   rw [beq_iff_eq.mp e]
   exact h1
  ·exact CapOk.at h2 h
theorem ClOk.at {X:Cx} {y:Str} {c:Addr}:∀ {l:List (Str×Addr)},ClOk X l->l.lookup y=some c->X.env.cells.lookup y=some c
 | [],_,h=>by simp at h
 | (n,k')::r,⟨h1,h2⟩,h=>by
  rw [List.lookup_cons] at h
  split at h
  ·rename_i e
   cases h
   rw [beq_iff_eq.mp e]
   exact h1
  ·exact ClOk.at h2 h
abbrev cxC (X:Cx) (x:Str) (scope:Scope) (cl:List (Str×Addr)) (C:Addr) (s₂:Shared) (H₂:Hp) (fp:List Addr):Cx :=
 { X with N:=Ap5 x X.N,s₀:=s₂,H₀:=H₂,env:=compEnvC scope cl C X.env,outer:=X.stack,ex:=fp,fn:=λ_=>false,pn:=[],xe:=λ_ _=>False }
section
variable {X : Cx} {pins : List (Addr × Obj)} {σ : St} {H₂ : Hp} {s₂ : Shared} {fp : List Addr} {x : Str} {scope : Scope} {cl : List (Str × Addr)} {C : Addr}
theorem okC (I:Inv X pins σ H₂ s₂) (hf:∀ b ∈ fp,FpOk X pins H₂ b) (ho:∀ b ∈ fp,∃ o,s₂.heap.get? b=some o) (hkind:scope.kind=.function) (hc:CapOk X x cl (relabel scope X.env).names) (hcl:ClOk X cl) (hC:s₂.heap.objs.size<=C) :
  (cxC X x scope cl C s₂ H₂ fp).Ok where
 mod:=I.ok.mod
 kind:=hkind
 glob:=I.ok.glob
 blt:=I.ok.blt
 above:=hC
 inj:=λy z c h1 h2=>I.ok.inj y z c (hcl.at h1) (hcl.at h2)
 has:=λy hy=>by
  have hy':(relabel scope X.env).names.lookup y=some .cell\/(relabel scope X.env).names.lookup y=some .free:=hy
  rcases hy' with h | h
  ·rcases hc.at h with ⟨_,z⟩ | ⟨_,z,_⟩ | ⟨_,_,_,z1,z2⟩
   ·cases z
   ·exact absurd rfl z
   ·obtain ⟨c,e⟩:=I.ok.has y (.inl z1)
    exact ⟨c,z2.trans e⟩
  ·rcases hc.at h with ⟨_,z⟩ | ⟨_,_,z⟩ | ⟨z,_⟩
   ·cases z
   ·exact absurd rfl z
   ·cases z
 cab:=λy c h _=>absurd (show false=true from h) Bool.false_ne_true
 hd:=I.ok.hd
 frames:=I.ok.frames
 stk:=.inl rfl
 exf:=λb hb=>by
  obtain ⟨o,e⟩:=ho b hb
  exact ⟨Nat.ne_of_lt (Nat.lt_of_lt_of_le (Heap.lt_size e) hC),λy c h=>(hf b hb).2.2.2.2.1 y c (hcl.at h)⟩
 bs:=I.bs
 bsz:=Nat.le_trans I.ok.bsz I.sz
 noex:=λb o e hb=>by
  rcases (hf b hb).2.2.2.1 with z | z
  ·exact I.ok.noex b o e z
  ·exact absurd (Nat.lt_of_lt_of_le (Heap.lt_size (I.ok.bs b o e).1) z) (Nat.lt_irrefl _)
 exfs:=λb hb z=>by
  rcases List.mem_cons.mp (I.stkSub b z) with q | q
  ·exact (hf b hb).2.1 q
  ·exact (hf b hb).2.2.1 q
 funs:=I.stack
 frf:=I.stkFree
theorem invC {h₁:Heap} {tk:Nat} (I:Inv X pins σ H₂ s₂) (hf:∀ b ∈ fp,FpOk X pins H₂ b) (ho:∀ b ∈ fp,∃ o,s₂.heap.get? b=some o) (hkind:scope.kind=.function) (hc:CapOk X x cl (relabel scope X.env).names) (hcl:ClOk X cl) (hx0:x≠"") (hdot:(".0":Str) ∉ X.N)
  (hC:C=s₂.heap.objs.size+1) (hns:h₁.Ns C λ_=>none) (old:∀ b o,s₂.heap.get? b=some o->h₁.get? b=some o) (hD:∃ n,h₁.get? s₂.heap.objs.size=some { cls:=.type "list",data:=.seq #[] n }) :
  Inv (cxC X x scope cl C s₂ H₂ fp) [] (none::σ) (upd H₂ s₂.heap.objs.size (.lst [])) { s₂ with heap:=h₁,toks:=tk }:=by
 have hn:H₂ s₂.heap.objs.size=none:=I.hok.fresh (Nat.le_refl _)
 refine ⟨okC I hf ho hkind hc hcl (by rw [hC]; exact Nat.le_succ _),rfl,I.bare,Un.laid old (Nat.le_refl _) hn,⟨_,hns,λi y v h1 h2 h3=>?_⟩,λy c e=>?_,?_,λy c e=>?_,λp hp=>absurd (show p ∈ ([]:List (Addr×Obj)) from hp) (by simp),?_,?_⟩
 ·cases i with
  | zero =>
   have h2':some (none:Option V)=some (some v):=h2
   cases h2'
  | succ i =>
   have h1':(X.N.map λy=>if y=x then ("":Str) else y)[i]?=some y:=h1
   have h2':σ[i]?=some (some v):=h2
   rw [List.getElem?_map] at h1'
   cases e:X.N[i]? with
   | none=>rw [e] at h1'; cases h1'
   | some z =>
    rw [e] at h1'
    have h1'':(if z=x then ("":Str) else z)=y:=Option.some.inj h1'
    have cap:∀ k,(relabel scope X.env).names.lookup y=some k->k=.local\/k=.cell\/k=.free->X.env.scope.names.lookup y=some .cell/\cl.lookup y=X.env.cells.lookup y/\k=.cell/\z=y:=λk hk hv=>by
     rcases hc.at hk with ⟨q,_⟩ | ⟨q1,q2,q3⟩ | ⟨q0,q1,q2,q3,q4⟩
     ·exfalso
      rcases q with q | q
      ·subst q
       by_cases hz:z=y
       ·rw [if_pos hz] at h1''
        exact hx0 h1''.symm
       ·rw [if_neg hz] at h1''
        exact hz h1''
      ·subst q
       by_cases hz:z=x
       ·rw [if_pos hz] at h1''
        exact absurd h1'' (by decide +kernel)
       ·rw [if_neg hz] at h1''
        subst h1''
        exact hdot (List.mem_of_getElem? e)
     ·rcases hv with q | q | q
      ·exact absurd q q1
      ·exact absurd q q2
      ·exact absurd q q3
     ·refine ⟨q3,q4,q0,?_⟩
      by_cases hz:z=x
      ·rw [if_pos hz] at h1''
       exact absurd h1''.symm q2
      ·rw [if_neg hz] at h1''
       exact h1''
    have h3':(relabel scope X.env).names.lookup y=some .local\/(relabel scope X.env).names.lookup y=some .cell\/(relabel scope X.env).names.lookup y=some .free:=h3
    obtain ⟨k,hk,hv⟩:∃ k,(relabel scope X.env).names.lookup y=some k/\(k=.local\/k=.cell\/k=.free):=by
     rcases h3' with q | q | q
     ·exact ⟨_,q,.inl rfl⟩
     ·exact ⟨_,q,.inr (.inl rfl)⟩
     ·exact ⟨_,q,.inr (.inr rfl)⟩
    obtain ⟨c1,c2,c3,rfl⟩:=cap k hk hv
    subst c3
    obtain ⟨m,_,hl⟩:=I.loc
    obtain ⟨u,r,l⟩:=hl i z v e h2' (.inr (.inl c1))
    refine ⟨u,r,?_⟩
    rcases l with ⟨q,_⟩ | ⟨_,c,q1,q2⟩
    ·have q':X.env.scope.names.lookup z=some .local:=q
     rw [c1] at q'
     cases q'
    ·refine .inr ⟨.inl hk,c,c2.trans q1,?_⟩
     obtain ⟨oc,g1,g2⟩:=q2
     exact ⟨oc,old _ _ g1,g2⟩
 ·obtain ⟨v,oc,g1,g2⟩:=I.cell y c (hcl.at e)
  exact ⟨v,oc,old _ _ g1,g2⟩
 ·show (upd H₂ s₂.heap.objs.size (.lst [])) C=none
  rw [Ab0 (by rw [hC]; exact Nat.ne_of_gt (Nat.lt_succ_self _))]
  exact I.hok.fresh (by rw [hC]; exact Nat.le_succ _)
 ·obtain ⟨v,oc,g1,g2⟩:=I.cell y c (hcl.at e)
  rw [Ab0 (Nat.ne_of_lt (Heap.lt_size g1))]
  exact I.freeC y c (hcl.at e)
 ·obtain ⟨n,e⟩:=hD
  exact I.hok.laid old (Nat.le_refl _) ⟨Nat.zero_le _,[],n,.nil,e⟩
 ·show (none::σ).length=(Ap5 x X.N).length
  simp [Ap5,I.len]
theorem fpC (I:Inv X pins σ H₂ s₂) (hf:∀ b ∈ fp,FpOk X pins H₂ b) (ho:∀ b ∈ fp,∃ o,s₂.heap.get? b=some o) (hcl:ClOk X cl) (hC:s₂.heap.objs.size<=C) {H:Hp} (hn:∀ b ∈ fp,H b=none):∀ b ∈ fp,FpOk (cxC X x scope cl C s₂ H₂ fp) [] H b:=λb hb=>by
 obtain ⟨o,e⟩:=ho b hb
 refine ⟨hn b hb,Nat.ne_of_lt (Nat.lt_of_lt_of_le (Heap.lt_size e) hC),λz=>?_,.inl hb,λy c h=>(hf b hb).2.2.2.2.1 y c (hcl.at h),λp hp=>absurd (show p ∈ ([]:List (Addr×Obj)) from hp) (by simp)⟩
 rcases List.mem_cons.mp (I.stkSub b z) with q | q
 ·exact (hf b hb).2.1 q
 ·exact (hf b hb).2.2.1 q
end
theorem Am6 {prog:Program} {w:World} {A:Around} {R:Result->Shared->Prop} {s:Shared} {elt target iter:Expr} {ifs:List Expr} {scope:Scope} {pos:Pos} {it acc:Value} {env:Env} (I:Nat->Shared->Prop)
  (turn:∀ n s,I n s->wpAny (model prog w) A (pyNext it) (λr s₁=>match r with
   | none=>R (.ok .next) s₁
   | some v=>wpAny (model prog w) A (letOwnedTupleGo target it v) (λ_ s₀=>wpAny (model prog w) A (assign target env v) (λ_ s₂ =>
     wpAny (model prog w) A (forIn ifs true λc r=>if r=true then do let ok <- isTrue c env (eval c env); pure (ForInStep.yield ok) else pure (ForInStep.yield r)) (λok s₃ =>
      if ok=true then wpAny (model prog w) A (eval elt env) (λx s₄ =>
       wpAny (model prog w) A (call (.builtin "list.append") [acc,x]) (λ_ s₅=>∃ m,m<n/\I m s₅) (λ_ _=>False) s₄) (λ_ _=>False) s₃
      else ∃ m,m<n/\I m s₃) (λ_ _=>False) s₂) (λ_ _=>False) s₀) (λ_ _=>False) s₁) (λ_ _=>False) s)
  (n:Nat) (h:I n s) :
  codeAny (model prog w) A (.compLoop (.ListComp elt [⟨target,iter,ifs,0⟩] scope pos) 0 it acc env) R s:=by
 refine codeAny_loop rfl I (λn s hI=>?_) n h
 show wpAny _ A ((compTurn (.ListComp elt [⟨target,iter,ifs,0⟩] scope pos) 0 it acc env).onRaise (λx=>do noteFrame x env; theTreesLotGoes x)) _ _ s
 refine wpAny_noted ?_
 refine wpAny_noRaise ?_
 rw [compTurn_list]
 refine wpAny_bind (wpAny_standAt (wpAny_bind (wpAny_mono (turn n s hI) (λr s₁ h₁=>?_) λ_ _ h'=>h')))
 cases r with
 | none=>exact wpAny_pure h₁
 | some v =>
  refine wpAny_bind (wpAny_mono h₁ (λ_ s₀ h₀=>wpAny_bind (wpAny_mono h₀ (λ_ s₂ h₂=>wpAny_bind (wpAny_mono h₂ (λok s₃ h₃=>?_) λ_ _ h'=>h')) λ_ _ h'=>h')) λ_ _ h'=>h')
  cases ok with
  | false=>exact wpAny_pure ⟨rfl,h₃⟩
  | true =>
   exact wpAny_bind (wpAny_bind (wpAny_mono h₃ (λx s₄ h₄=>wpAny_bind (wpAny_mono h₄ (λ_ s₅ h₅=>wpAny_pure (wpAny_pure ⟨rfl,h₅⟩)) λ_ _ h'=>h')) λ_ _ h'=>h'))
inductive Ifs (PTc:Expr->TT->Prop):List Expr->TT->Prop
 | nil:Ifs PTc [] (λ_ H Q=>Q true H)
 | one {c:Expr} {t:TT}:PTc c t->Ifs PTc [c] t
def Bs4 (wi:TI) (tc:TT) (te:TE):TE:=λσ H Q=>wi σ H λJ H1=>∀ D,H1 D=none->∃ W:Nat->Nat->List V->Hp->Prop,(∃ m,W 0 m [] (upd H1 D (.lst [])))/\∀ i m ys H,W i m ys H->H D=some (.lst ys) /\
 ((J.stop i H/\Q (.ref D) H)\/(J.go i H/\∃ N:List V->Hp->Prop,(∀ zs H',N zs H'->∃ m',m'<m/\W (i+1) m' zs H')/\∀ x H',J.yld i H x H'->tc (some x::σ) H' λb H2=>if b=true then te (some x::σ) H2 λy H3=>H3 D=some (.lst ys)/\ys.length<sizeLine/\N (ys++[y]) (upd H3 D (.lst (ys++[y])))
  else N ys H2))
section
variable {X : Cx} {x : Str} {px pos : Pos} {scope : Scope} {cl : List (Str × Addr)} {elt iter : Expr} {ifs : List Expr} {wi : TI} {tc : TT} {te : TE}
theorem An9 (hcalm:X.calm=true) (hkind:scope.kind=.function) (hnc:∀ y ∈ scope.names,y.2≠.cell) (hc:CapOk X x cl (relabel scope X.env).names) (hcl:ClOk X cl) (hx0:x≠"") (hdot:(".0":Str) ∉ X.N) (hxl:scope.names.lookup x=some .local) (hN:(Ap5 x X.N).Nodup)
  (ht:∀ C s₂ H₂ fp,Ifs (PT (cxC X x scope cl C s₂ H₂ fp)) ifs tc) (he:∀ C s₂ H₂ fp,PE (cxC X x scope cl C s₂ H₂ fp) elt te)
  {pins:List (Addr×Obj)} {σ:St} {H₂:Hp} {s₂:Shared} {Q:VK} {it:Addr} {fp:List Addr} {tn:Nat->Heap->Prop} {J:It} {RR:Value->Addr->Result->Shared->Prop} {E:Value->Shared->Prop} (I:Inv X pins σ H₂ s₂) (T:Turn X.prog X.w X.K (.Name x px) J fp it tn) (st:tn 0 s₂.heap)
  (hf:∀ b ∈ fp,FpOk X pins H₂ b)
  (hq:∀ D,H₂ D=none->∃ W:Nat->Nat->List V->Hp->Prop,(∃ m,W 0 m [] (upd H₂ D (.lst [])))/\∀ i m ys H,W i m ys H->H D=some (.lst ys) /\
   ((J.stop i H/\Q (.ref D) H)\/(J.go i H/\∃ N:List V->Hp->Prop,(∀ zs H',N zs H'->∃ m',m'<m/\W (i+1) m' zs H')/\∀ x H',J.yld i H x H'->tc (some x::σ) H' λb H2=>if b=true then te (some x::σ) H2 λy H3=>H3 D=some (.lst ys)/\ys.length<sizeLine/\N (ys++[y]) (upd H3 D (.lst (ys++[y])))
    else N ys H2)))
  (hRR:∀ D C s' H',Inv X pins σ H' s'->Q (.ref D) H'->H' C=none->C≠X.env.locals->X.s₀.heap.objs.size<=C->(∀ y c,X.env.cells.lookup y=some c->c≠C)->(∀ p ∈ X.pn++pins,p.1≠C)->(∃ m,s'.heap.Ns C m)->RR (.ref D) C (.ok .next) s') :
  wpAny (model X.prog X.w) X.A (newList []) (λacc s₃=>wpAny (model X.prog X.w) X.A (newFunctionEnv scope X.env.globals cl [] X.env.qual none .none (some X.env)) (λcenv s₄ =>
   codeAny (model X.prog X.w) X.A (.compStart (.ListComp elt [⟨.Name x px,iter,ifs,0⟩] scope pos) 0 (.ref it) acc { cenv with scope:=relabel scope X.env }) (RR acc cenv.locals) s₄) E s₃) E s₂:=by
 refine wpAny_newObj_type (wpAny_newFunctionEnv hnc (by intro y hy; simp at hy) (λh₁ hns₁ hsb₁=>?_) hkind)
 dsimp only at hns₁ hsb₁ ⊢
 have ho:∀ b ∈ fp,∃ o,s₂.heap.get? b=some o:=λb hb=>let ⟨o,e,_⟩:=T.obj 0 _ st b hb; ⟨o,e⟩
 generalize hH2:s₂.heap.push { cls:=.type "list",dict:=none,data:=.seq ([]:List Value).toArray }=P2 at hns₁ hsb₁ ⊢
 have hC:P2.objs.size=s₂.heap.objs.size+1:=by rw [<- hH2,Heap.size_push]
 have old:∀ b o,s₂.heap.get? b=some o->h₁.get? b=some o:=λb o e=>hsb₁.extBut b o (by rw [hC]; exact Nat.ne_of_lt (Nat.lt_succ_of_lt (Heap.lt_size e))) (Heap.get?_push_of_some _ (hH2 ▸ Heap.get?_push_of_some _ e))
 have hD:∃ n,h₁.get? s₂.heap.objs.size=some { cls:=.type "list",data:=.seq #[] n }:=⟨_,hsb₁.extBut _ _ (by rw [hC]; exact Nat.ne_of_lt (Nat.lt_succ_self _)) (Heap.get?_push_of_some _ (hH2 ▸ Heap.get?_push_size _ rfl))⟩
 have hns':h₁.Ns P2.objs.size λ_=>none:=by
  have e:(λx:Str=>([]:List (Str×Value)).reverse.lookup x)=λ_=>none:=by funext y; rfl
  rw [<- e]
  exact hns₁
 have I0:=invC (tk:=s₂.toks+([]:List (Str×Value)).length) I hf ho hkind hc hcl hx0 hdot hC hns' old hD
 obtain ⟨W,⟨m0,w0⟩,turn⟩:=hq _ (I.hok.fresh (Nat.le_refl _))
 have hCs:X.s₀.heap.objs.size<=P2.objs.size:=by rw [hC]; exact Nat.le_succ_of_le I.sz
 have loop:∀ s₃:Shared,s₃={ s₂ with heap:=h₁,toks:=s₂.toks+([]:List (Str×Value)).length } ->
   codeAny (model X.prog X.w) X.A (.compLoop (.ListComp elt [⟨.Name x px,iter,ifs,0⟩] scope pos) 0 (.ref it) (.ref s₂.heap.objs.size) (compEnvC scope cl P2.objs.size X.env)) (RR (.ref s₂.heap.objs.size) P2.objs.size) s₃:=by
  rintro s₃ rfl
  refine Am6 (λn s'=>∃ i ys v H,Inv (cxC X x scope cl P2.objs.size s₂ H₂ fp) [] (v::σ) H s'/\tn i s'.heap/\(∀ b ∈ fp,H b=none)/\W i n ys H) ?_ m0
   ⟨0,[],none,_,I0,T.keep _ _ _ st λb _ o e=>old b o e,λb hb=>by rw [Ab0 (by obtain ⟨o,e⟩:=ho b hb; exact Nat.ne_of_lt (Heap.lt_size e))]; exact (hf b hb).1,w0⟩
  rintro n s' ⟨i,ys,v,H,I',st',fr',w'⟩
  have fpn:∀ {H:Hp},(∀ b ∈ fp,H b=none)->∀ b ∈ fp,FpOk (cxC X x scope cl P2.objs.size s₂ H₂ fp) [] H b:=λhn=>fpC I hf ho hcl (by rw [hC]; exact Nat.le_succ _) hn
  obtain ⟨hDl,go⟩:=turn i n ys H w'
  rcases go with ⟨stop,qn⟩ | ⟨go,Nx,hNx,step⟩
  ·refine wpAny_mono (T.done (cxC X x scope cl P2.objs.size s₂ H₂ fp) rfl rfl rfl hcalm i [] s' (v::σ) H (λ_ _=>False) I' (fpn fr') st' stop) (λr s4 z=>?_) λ_ _ z=>z
   obtain ⟨hr,I4⟩:=z
   subst hr
   obtain ⟨m4,hm4,_⟩:=I4.loc
   refine hRR _ _ s4 H (I.call' I4.os I4.base I4.hok I4.bare λb hb=>?_) qn I4.free ?_ hCs (λy c e z=>?_) (λp hp z=>?_) ⟨m4,hm4⟩
   ·obtain ⟨f0,f1,f2,f3,f4,f5⟩:=hf b hb
    exact ⟨f3,f1,f4,f5⟩
   ·rw [hC]
    exact Nat.ne_of_gt (Nat.lt_succ_of_lt I.lt)
   ·obtain ⟨v',oc,g1,_⟩:=I.cell y c e
    have:=Heap.lt_size g1
    rw [z,hC] at this
    exact absurd (Nat.lt_of_succ_lt this) (Nat.lt_irrefl _)
   ·have:=Heap.lt_size (I.pin p hp).1
    rw [z,hC] at this
    exact absurd (Nat.lt_of_succ_lt this) (Nat.lt_irrefl _)
  ·refine wpAny_mono (T.item (cxC X x scope cl P2.objs.size s₂ H₂ fp) rfl rfl rfl hcalm i [] s' (v::σ) H (λ_ _=>False) I' (fpn fr') st' go) (λr s4 z=>?_) λ_ _ z=>z
   obtain ⟨u,hr,h4⟩:=z
   subst hr
   refine wpAny_mono h4 (λ_ s5 z=>?_) λ_ _ z=>z
   obtain ⟨y,H5,I5,r5,y5,st5,fr5⟩:=z
   have I5':=I5.pinned (fpn fr5) (T.obj _ _ st5)
   have hxl':(relabel scope X.env).names.lookup x=some .local:=lookup_relabel_local hxl
   have hs:=step y H5 y5
   refine wpAny_mono (Ae7 (X:=cxC X x scope cl P2.objs.size s₂ H₂ fp) (i:=0) (pos:=px) hN rfl (.inl hxl') (.inr hxl') _ s5 (v::σ) H5 y u (λσ6 H6=>σ6=some y::σ/\H6=H5) I5' r5 ⟨rfl,rfl⟩) (λ_ s6 z=>?_) λ_ _ z=>z
   obtain ⟨σ6,H6,I6,rfl,rfl⟩:=z
   have again:∀ {H7:Hp} {s7:Shared} {zs:List V},Inv (cxC X x scope cl P2.objs.size s₂ H₂ fp) ([]++Al4 fp s5.heap) (some y::σ) H7 s7->Nx zs H7 ->
     ∃ m,m<n/\∃ i ys v H,Inv (cxC X x scope cl P2.objs.size s₂ H₂ fp) [] (v::σ) H s7/\tn i s7.heap/\(∀ b ∈ fp,H b=none)/\W i m ys H:=λ{H7 s7 zs} I7 w7=>by
    obtain ⟨m',hm,w7⟩:=hNx _ _ w7
    refine ⟨m',hm,i+1,zs,some y,H7,I7.unpinned,T.keep _ _ _ st5 λb hb o e=>(I7.pin (b,o) (List.mem_append_right _ (List.mem_append_right _ (Af6 hb e)))).1,λb hb=>?_,w7⟩
    obtain ⟨o,e,d⟩:=T.obj _ _ st5 b hb
    exact (I7.pin (b,o) (List.mem_append_right _ (List.mem_append_right _ (Af6 hb e)))).2.1
   have elts:∀ {H7:Hp} {s7:Shared},Inv (cxC X x scope cl P2.objs.size s₂ H₂ fp) ([]++Al4 fp s5.heap) (some y::σ) H7 s7 ->
     (te (some y::σ) H7 λy' H3=>H3 s₂.heap.objs.size=some (.lst ys)/\ys.length<sizeLine/\Nx (ys++[y']) (upd H3 s₂.heap.objs.size (.lst (ys++[y'])))) ->
     wpAny (model X.prog X.w) X.A (eval elt (compEnvC scope cl P2.objs.size X.env)) (λxv s₄ =>
       wpAny (model X.prog X.w) X.A (call (.builtin "list.append") [.ref s₂.heap.objs.size,xv]) (λ_ s₅=>∃ m,m<n/\∃ i ys v H,Inv (cxC X x scope cl P2.objs.size s₂ H₂ fp) [] (v::σ) H s₅/\tn i s₅.heap/\(∀ b ∈ fp,H b=none)/\W i m ys H) (λ_ _=>False) s₄) (λ_ _=>False) s7:=λ{H7 s7} I7 q7=>by
    refine wpAny_mono (he P2.objs.size s₂ H₂ fp _ s7 (some y::σ) H7 _ I7 q7) (λu8 s8 z=>?_) λ_ _ z=>z
    obtain ⟨y',H8,I8,r8,hD8,hz8,w8⟩:=z
    refine wpAny_mono (Ah4 (X:=cxC X x scope cl P2.objs.size s₂ H₂ fp) _ s8 (some y::σ) H8 (.ref s₂.heap.objs.size) [y'] (.ref s₂.heap.objs.size) [u8] (λ_ H9=>H9=upd H8 s₂.heap.objs.size (.lst (ys++[y']))) I8 rfl (.cons r8 .nil) ⟨_,ys,y',rfl,rfl,hD8,hz8,rfl⟩) (λ_ s9 z=>?_) λ_ _ z=>z
    obtain ⟨_,H9,I9,_,rfl⟩:=z
    exact again I9 w8
   cases ht P2.objs.size s₂ H₂ fp with
   | nil=>exact wpAny_tests_nil (elts I6 hs)
   | one hc1 =>
    refine wpAny_tests_one (wpAny_mono (hc1 _ s6 (some y::σ) _ _ I6 hs) (λb s7 z=>?_) λ_ _ z=>z)
    obtain ⟨H7,I7,q7⟩:=z
    cases b with
    | true=>exact elts I7 q7
    | false=>exact again I7 q7
 exact codeAny_compStart_list (loop _ rfl) (T.self _ 0 _ _ _ (T.keep _ _ _ st λb _ o e=>old b o e) (loop _ rfl))
theorem Bd3 (hcalm:X.calm=true) (hi:PI X (.Name x px) iter wi) (hclos:closureFor scope X.env=pure cl) (hc:CapOk X x cl (relabel scope X.env).names) (hcl:ClOk X cl)
  (ht:∀ C s₂ H₂ fp,Ifs (PT (cxC X x scope cl C s₂ H₂ fp)) ifs tc) (he:∀ C s₂ H₂ fp,PE (cxC X x scope cl C s₂ H₂ fp) elt te) (hN:(Ap5 x X.N).Nodup)
  (hkind:scope.kind=.function:=by rfl) (hnc:∀ y ∈ scope.names,y.2≠.cell:=by decide +kernel) (hnm:∀ y ∈ scope.names,y.2=.local->scope.names.lookup y.1=some .local:=by decide +kernel) (hx0:x≠"":=by decide +kernel) (hdot:(".0":Str) ∉ X.N:=by decide +kernel) (hxl:scope.names.lookup x=some .local:=by rfl)
  (hs:∀ x,foldedSetIterable iter X.env x=pure x:=by intro _; rfl):PE X (.ListComp elt [⟨.Name x px,iter,ifs,0⟩] scope pos) (Bs4 wi tc te):=by
 intro pins s σ H Q I h
 rw [eval_ListComp]
 refine wpAny_comprehension_free (use:=none) rfl hs hclos hkind hnm (wpAny_mono (hi pins s σ H _ I h) (λxv s₁ h₁=>wpAny_mono h₁ (λitv s₂ h₂=>?_) λ_ _ e=>e) λ_ _ e=>e)
 obtain ⟨it,fp,tn,J,H2,e,I2,T,st2,f2,hq⟩:=h₂
 subst e
 refine An9 (RR:=λacc C=>compPost (model X.prog X.w) X.A X.xe none (EP X pins σ Q) acc C) hcalm hkind hnc hc hcl hx0 hdot hxl hN ht he I2 T st2 f2 hq λD C s' H' I' q' n1 n2 n3 n4 n5 n6=>?_
 obtain ⟨m,hm⟩:=n6
 refine ⟨m,hm,λh' hs'=>?_⟩
 exact ⟨.ref D,H',I'.turned (t':=s'.toks) (λb o hb e=>(hs'.2 b hb).trans e) n1 n2 (.inr n3) n4 n5,rfl,q'⟩
theorem Bo1 {i:Nat} {y:Str} {py spos:Pos} (hN0:X.N.Nodup) (hy:X.N[i]?=some y) (hyl:X.env.scope.names.lookup y=some .local) (hsw:swapsWith (.ListComp elt [⟨.Name x px,iter,ifs,0⟩] scope pos) (some (.Name y py)) spos.line X.env=pure true) (hcalm:X.calm=true) (hi:PI X (.Name x px) iter wi) (hclos:closureFor scope X.env=pure cl) (hc:CapOk X x cl (relabel scope X.env).names) (hcl:ClOk X cl)
  (ht:∀ C s₂ H₂ fp,Ifs (PT (cxC X x scope cl C s₂ H₂ fp)) ifs tc) (he:∀ C s₂ H₂ fp,PE (cxC X x scope cl C s₂ H₂ fp) elt te) (hN:(Ap5 x X.N).Nodup)
  (hkind:scope.kind=.function:=by rfl) (hnc:∀ y ∈ scope.names,y.2≠.cell:=by decide +kernel) (hnm:∀ y ∈ scope.names,y.2=.local->scope.names.lookup y.1=some .local:=by decide +kernel) (hx0:x≠"":=by decide +kernel) (hdot:(".0":Str) ∉ X.N:=by decide +kernel) (hxl:scope.names.lookup x=some .local:=by rfl)
  (hs:∀ x,foldedSetIterable iter X.env x=pure x:=by intro _; rfl):PS X (.Assign [.Name y py] (.ListComp elt [⟨.Name x px,iter,ifs,0⟩] scope pos) spos) (tAsg (Bs4 wi tc te) (Bf5 i)):=by
 intro pins s σ H D I h
 rw [exec_Assign_Name_used _ _ _ _ hsw]
 refine wpAny_bind (wpAny_standAt (wpAny_bind ?_))
 show wpAny _ _ (do let _ <- comprehension (.ListComp elt [⟨.Name x px,iter,ifs,0⟩] scope pos) scope X.env _ (newList []) false (eval iter X.env) (some (assign (.Name y py) X.env))) _ _ s
 refine wpAny_bind (wpAny_mono (wpAny_comprehension_free (use:=some (assign (.Name y py) X.env)) (Q:=λ_ s'=>SP X pins D .next s') rfl hs hclos hkind hnm
  (wpAny_mono (hi pins s σ H _ I h) (λxv s₁ h₁=>wpAny_mono h₁ (λitv s₂ h₂=>?_) λ_ _ e=>e) λ_ _ e=>e)) (λ_ s' hq=>wpAny_pure (wpAny_pure hq)) λ_ _ e=>e)
 obtain ⟨it,fp,tn,J,H2,e,I2,T,st2,f2,hq⟩:=h₂
 subst e
 refine An9 (Q:=λx H1=>Bf5 i x σ H1 D.nx) (RR:=λacc C=>compPost (model X.prog X.w) X.A X.xe (some (assign (.Name y py) X.env)) (λ_ s'=>SP X pins D .next s') acc C) hcalm hkind hnc hc hcl hx0 hdot hxl hN ht he I2 T st2 f2 hq λD' C s' H' I' q' n1 n2 n3 n4 n5 n6=>?_
 obtain ⟨m,hm⟩:=n6
 show wpAny _ _ (assign (.Name y py) X.env (.ref D')) _ _ _
 refine wpAny_assign_Name (Ap9 I' hN0 hy (.inl hyl) (show RelV (.ref D') (.ref D') from rfl) (λs7 I7 z=>?_) (.inr hyl))
 obtain ⟨a,sb,ha⟩:=z
 have hCa:C≠a:=by
  rcases ha with rfl | ha
  ·exact n2
  ·exact (n4 y a ha).symm
 refine ⟨m,hm.sameBut sb hCa,λh' hs'=>?_⟩
 exact ⟨_,H',I7.turned (t':=s7.toks) (λb o hb e=>(hs'.2 b hb).trans e) n1 n2 (.inr n3) n4 n5,q'⟩
end
abbrev tYes:TT:=λ_ H Q=>Q true H
theorem Ar8 {K:PySem.W.Frag} {a:Addr} {xs:List V} {tc:TT} {te:TE} {σ:St} {H1:Hp} {Q:Addr->Hp->Prop} (Pv:Addr->Nat->List V->Hp->Prop) (h0:∀ D,H1 D=none->Pv D 0 [] (upd H1 D (.lst []))) (hl:∀ D i ys H,i<=xs.length->Pv D i ys H->SqL K H a xs/\H D=some (.lst ys))
  (hs:∀ D i x ys H,xs[i]?=some x->Pv D i ys H->tc (some x::σ) H λb H2=>if b=true then te (some x::σ) H2 λy H3=>H3 D=some (.lst ys)/\ys.length<sizeLine/\Pv D (i+1) (ys++[y]) (upd H3 D (.lst (ys++[y]))) else Pv D (i+1) ys H2)
  (hd:∀ D ys H,Pv D xs.length ys H->Q D H) :
  ∀ D,H1 D=none->∃ W:Nat->Nat->List V->Hp->Prop,(∃ m,W 0 m [] (upd H1 D (.lst [])))/\∀ i m ys H,W i m ys H->H D=some (.lst ys) /\
   (((Itl K a).stop i H/\Q D H)\/((Itl K a).go i H/\∃ N:List V->Hp->Prop,(∀ zs H',N zs H'->∃ m',m'<m/\W (i+1) m' zs H')/\∀ x H',(Itl K a).yld i H x H'->tc (some x::σ) H' λb H2=>if b=true then te (some x::σ) H2 λy H3=>H3 D=some (.lst ys)/\ys.length<sizeLine/\N (ys++[y]) (upd H3 D (.lst (ys++[y])))
    else N ys H2)):=λD hD=>by
 refine ⟨λi m ys H=>m=xs.length - i/\i<=xs.length/\Pv D i ys H,⟨xs.length,by simp,Nat.zero_le _,h0 D hD⟩,?_⟩
 rintro i m ys H ⟨rfl,hi,p⟩
 obtain ⟨q,qd⟩:=hl D i ys H hi p
 refine ⟨qd,?_⟩
 by_cases hlt:i<xs.length
 ·refine .inr ⟨⟨xs,xs[i],q,by simp [hlt]⟩,Pv D (i+1),λzs H' p'=>⟨xs.length - (i+1),by omega,rfl,hlt,p'⟩,λx H' y=>?_⟩
  obtain ⟨e,y⟩:=y
  subst e
  exact hs D i x ys _ (y xs q) p
 ·have e:i=xs.length:=by omega
  subst e
  exact .inl ⟨⟨xs,q,Nat.le_refl _⟩,hd D ys H p⟩
theorem Bb1 {lo:Int} {n:Nat} {tc:TT} {te:TE} {σ:St} {H1:Hp} {Q:Addr->Hp->Prop} (Pv:Addr->Nat->List V->Hp->Prop) (h0:∀ D,H1 D=none->Pv D 0 [] (upd H1 D (.lst []))) (hl:∀ D i ys H,i<=n->Pv D i ys H->H D=some (.lst ys))
  (hs:∀ D i ys H,i<n->Pv D i ys H->tc (some (.int (lo+i))::σ) H λb H2=>if b=true then te (some (.int (lo+i))::σ) H2 λy H3=>H3 D=some (.lst ys)/\ys.length<sizeLine/\Pv D (i+1) (ys++[y]) (upd H3 D (.lst (ys++[y]))) else Pv D (i+1) ys H2)
  (hd:∀ D ys H,Pv D n ys H->Q D H) :
  ∀ D,H1 D=none->∃ W:Nat->Nat->List V->Hp->Prop,(∃ m,W 0 m [] (upd H1 D (.lst [])))/\∀ i m ys H,W i m ys H->H D=some (.lst ys) /\
   (((Itr lo n).stop i H/\Q D H)\/((Itr lo n).go i H/\∃ N:List V->Hp->Prop,(∀ zs H',N zs H'->∃ m',m'<m/\W (i+1) m' zs H')/\∀ x H',(Itr lo n).yld i H x H'->tc (some x::σ) H' λb H2=>if b=true then te (some x::σ) H2 λy H3=>H3 D=some (.lst ys)/\ys.length<sizeLine/\N (ys++[y]) (upd H3 D (.lst (ys++[y])))
    else N ys H2)):=λD hD=>by
 refine ⟨λi m ys H=>m=n - i/\i<=n/\Pv D i ys H,⟨n,by simp,Nat.zero_le _,h0 D hD⟩,?_⟩
 rintro i m ys H ⟨rfl,hi,p⟩
 refine ⟨hl D i ys H hi p,?_⟩
 by_cases hlt:i<n
 ·refine .inr ⟨hlt,Pv D (i+1),λzs H' p'=>⟨n - (i+1),by omega,rfl,hlt,p'⟩,λx H' y=>?_⟩
  obtain ⟨e,y⟩:=y
  subst e y
  exact hs D i ys _ hlt p
 ·have e:i=n:=by omega
  subst e
  exact .inl ⟨Nat.le_refl _,hd D ys H p⟩
end L2
end
section
namespace L2
open PySem PySem.Spec PyProof.Rows
theorem Ag3 {c:Bool} {A B:Prop} (hc:c=true) (h:A):if c=true then A else B:=by
 rw [if_pos hc]
 exact h
theorem Ab7 {c:Bool} {A B:Prop} (hc:c=false) (h:B):if c=true then A else B:=by
 rw [hc]
 exact iteF h
theorem As1 {X:Cx} (hc:X.calm=true):Am9 X (.builtin "all") (λxs H Q=>∃ (l:Addr) (bs:List Bool),xs=[.ref l]/\H l=some (.lst (bs.map V.bl))/\Q (.bl (bs.all id)) H):=by
 intro pins s σ H xs us Q I r h
 obtain ⟨l,bs,rfl,hl,q⟩:=h
 obtain ⟨u,rfl,ru⟩:=r.one
 obtain rfl:u=Value.ref l:=ru
 obtain ⟨its,rv,p,hz⟩:=I.list (SqL.of hl)
 have hlt:l<s.heap.objs.size:=by obtain ⟨_,_,e,_⟩:=p; exact Heap.lt_size e
 refine call_all_walk (wpAny_pyIter_list p.isList ?_)
 refine ⟨s.heap.objs.size,[s.heap.objs.size,l],[s.heap.objs.size],its.toArray.size,_,_,λi=>(bs[i]?).getD true,rfl,Walks.list (A:=X.A.in1) (I.ok.hd hc) _ l (Nat.ne_of_lt hlt) its.toArray,
  ⟨⟨_,Heap.get?_push_size _ rfl,rfl,rfl⟩,p.isList.push _⟩,λi v s' Q' E' hP hQ=>?_,λh' tk hk=>?_⟩
 ·have hi:its[i]?=some v:=by simpa using hP
  have hlen:=rv.length
  have hib:i<its.length:=(List.getElem?_eq_some_iff.mp hi).1
  obtain ⟨u,e1,e2⟩:=rv.get (i:=i) (x:=V.bl ((bs[i]?).getD true)) (by
   rw [List.getElem?_map,List.getElem?_eq_getElem (by rw [List.length_map] at hlen; omega)]
   rfl)
  rw [hi] at e1
  cases e1
  cases e2
  exact wpAny_truthy_bool hQ
 ·have e:((List.range its.toArray.size).all λi=>(bs[i]?).getD true)=bs.all id:=by
   have hlen:=rv.length
   rw [List.length_map] at hlen
   rw [List.size_toArray,<- hlen]
   exact PyProof.Rows.LSm.range_all bs
  rw [e]
  exact ⟨.bl _,H,I.kept (t':=tk) λb o z=>hk b o (by have:=Heap.lt_size z; intro q; rw [List.mem_singleton] at q; rw [q] at this; exact Nat.lt_irrefl _ this) (Heap.get?_push_of_some _ z),rfl,q⟩
theorem Ai9 {H:Hp} {p:Addr} {xs:List V} (h:H p=some (.lst xs)):Am2 H (.ref p)=true:=by
 unfold Am2
 dsimp only
 rw [h]
abbrev Pgs:=List (Option (Addr×List Int))
def pgV:Option (Addr×List Int)->V
 | none=>.non
 | some (p,_)=>.ref p
def cont (ps:Pgs):List (Option (List Int)):=ps.map (Option.map (·.2))
structure Pg (H:Hp) (a:Addr) (ps:Pgs):Prop where
 top:H a=some (.lst (ps.map pgV))
 each:∀ (i:Nat) (p:Addr) (ws:List Int),ps[i]?=some (some (p,ws))->H p=some (.lst (ws.map V.int))/\p≠a
 nd:∀ (i j:Nat) (p:Addr) (ws ws':List Int),ps[i]?=some (some (p,ws))->ps[j]?=some (some (p,ws'))->i=j
def At (a:Addr) (ps:Pgs) (b:Addr):Prop:=b=a\/∃ (i:Nat) (ws:List Int),ps[i]?=some (some (b,ws))
theorem Pg.same {H H':Hp} {a:Addr} {ps:Pgs} (g:Pg H a ps) (s:Same H H'):Pg H' a ps:=⟨s _ _ g.top,λi p ws e=>⟨s _ _ (g.each i p ws e).1,(g.each i p ws e).2⟩,g.nd⟩
theorem Pg.keep {H H':Hp} {a:Addr} {ps:Pgs} (g:Pg H a ps) (s:∀ b,At a ps b->H' b=H b):Pg H' a ps :=
 ⟨(s a (.inl rfl)).trans g.top,λi p ws e=>⟨(s p (.inr ⟨i,ws,e⟩)).trans (g.each i p ws e).1,(g.each i p ws e).2⟩,g.nd⟩
theorem Pg.at {H:Hp} {a b:Addr} {ps:Pgs} (g:Pg H a ps) (h:At a ps b):∃ o,H b=some o:=by
 rcases h with rfl | ⟨i,ws,e⟩
 ·exact ⟨_,g.top⟩
 ·exact ⟨_,(g.each i b ws e).1⟩
theorem Ad2 {ws:List Int} {j:Nat} (h:j<ws.length):atI (ws.map V.int) (j:Int)=some (.int (ws.getD j 0)):=by
 refine Ap6 ?_
 rw [List.getElem?_map,List.getElem?_eq_getElem h,List.getD_eq_getElem?_getD,List.getElem?_eq_getElem h]
 rfl
theorem Ah5 {n j:Nat} (h:j<n):ixN n (j:Int)=some j:=by
 unfold ixN
 rw [if_pos (Int.natCast_nonneg j),if_pos (by omega),Int.toNat_natCast]
theorem Bk2 {ps qs:Pgs} (h:cont ps=cont qs):ps.length=qs.length:=by
 have:=congrArg List.length h
 unfold cont at this
 rw [List.length_map,List.length_map] at this
 exact this
theorem Bq9 {ps qs:Pgs} (h:cont ps=cont qs) (i:Nat):(ps[i]?).map (Option.map (·.2))=(qs[i]?).map (Option.map (·.2)):=by
 have:=congrArg (λl=>l[i]?) h
 unfold cont at this
 simpa using this
theorem Bg1 {ps qs:Pgs} (h:cont ps=cont qs) {i:Nat} {p:Addr} {ws:List Int} (e:ps[i]?=some (some (p,ws))):∃ q,qs[i]?=some (some (q,ws)):=by
 have z:=Bq9 h i
 rw [e] at z
 cases f:qs[i]? with
 | none=>rw [f] at z; cases z
 | some o =>
  rw [f] at z
  cases o with
  | none=>cases z
  | some x =>
   obtain ⟨q,vs⟩:=x
   have z':ws=vs:=by simpa using z
   subst z'
   exact ⟨q,rfl⟩
theorem Aa7 {H:Hp} {p:Addr} {o:HO} (h:H p=none):Same H (upd H p o):=λb u e=>by
 rw [Ab0 (Aa8 e h)]
 exact e
theorem Same.set {H H':Hp} {t:Addr} {o:HO} (s:Same H H') (h:H t=none):Same H (upd H' t o):=λb u e=>by
 rw [Ab0 (Aa8 e h)]
 exact s b u e
def Good (ps:Pgs):Prop:=∀ (i:Nat) (p:Addr) (ws:List Int),ps[i]?=some (some (p,ws))->ws.length=8/\∀ w ∈ ws,0<=w/\w<281474976710656
def Bs2 (K:PySem.W.Frag):TE:=tIf (Bl9 (tOp (λx y H Q=>y=.non/\Q (.bl (decide (x=.non))) H) (tVar 0) (tC .non))) (tC .non) (tCB (λxs H Q=>∃ p ys,xs=[.ref p]/\(SqL K H p ys\/SqT K H p ys)/\∀ l,H l=none->Q (.ref l) (upd H l (.lst ys))) (Aj6 (tVar 0) tNil))
theorem Bb0 {K:PySem.W.Frag} {a:Addr} {ps:Pgs} {σ:St} {H:Hp} {Q:Addr->Hp->Prop} (g:Pg H a ps) (hl:ps.length<=1000)
  (q:∀ D H' qs,Same H H'->Pg H' D qs->cont qs=cont ps->(∀ b,At D qs b->H b=none)->Q D H') :
  ∀ D,H D=none->∃ W:Nat->Nat->List V->Hp->Prop,(∃ m,W 0 m [] (upd H D (.lst [])))/\∀ i m ys H,W i m ys H->H D=some (.lst ys) /\
   (((Itl K a).stop i H/\Q D H)\/((Itl K a).go i H/\∃ N:List V->Hp->Prop,(∀ zs H',N zs H'->∃ m',m'<m/\W (i+1) m' zs H')/\∀ x H',(Itl K a).yld i H x H'->tYes (some x::σ) H' λb H2=>if b=true then Bs2 K (some x::σ) H2 λy H3=>H3 D=some (.lst ys)/\ys.length<sizeLine/\N (ys++[y]) (upd H3 D (.lst (ys++[y])))
    else N ys H2)):=by
 refine Ar8 (xs:=ps.map pgV) (λD i ys H'=>∃ qs:Pgs,H D=none/\Same H H'/\Pg H' D qs/\ys=qs.map pgV/\qs.length=i/\cont qs=cont (ps.take i)/\∀ b,At D qs b->H b=none) ?_ ?_ ?_ ?_
 ·intro D hD
  refine ⟨[],hD,Aa7 hD,⟨upd_same,λi p ws e=>by simp at e,λi j p ws ws' e=>by simp at e⟩,rfl,rfl,rfl,λb h=>?_⟩
  rcases h with rfl | ⟨i,ws,e⟩
  ·exact hD
  ·simp at e
 ·rintro D i ys H' _ ⟨qs,_,ss,g',rfl,_,_,_⟩
  exact ⟨SqL.of (ss _ _ g.top),g'.top⟩
 ·rintro D i x ys H' hi ⟨qs,hD,ss,g',rfl,hq,hc,hfr⟩
  rw [List.getElem?_map] at hi
  cases e:ps[i]? with
  | none=>rw [e] at hi; cases hi
  | some o =>
   rw [e] at hi
   have hi':pgV o=x:=Option.some.inj hi
   subst hi'
   have hil:i<ps.length:=(List.getElem?_eq_some_iff.mp e).1
   have hlen:(qs.map pgV).length<sizeLine:=by
    rw [List.length_map,hq]
    exact Nat.lt_of_lt_of_le (by omega:i<1001) (by decide)
   have htake:ps.take (i+1)=ps.take i++[o]:=by
    rw [List.take_add_one,e]
    rfl
   refine iteT ?_
   have more:∀ (o':Option (Addr×List Int)) (H2:Hp),o'.map (·.2)=o.map (·.2)->Same H' H2->(∀ p ws,o'=some (p,ws)->H2 p=some (.lst (ws.map V.int))/\H' p=none) ->
     H2 D=some (.lst (qs.map pgV))/\(qs.map pgV).length<sizeLine/\∃ qs':Pgs,H D=none/\Same H (upd H2 D (.lst (qs.map pgV++[pgV o'])))/\Pg (upd H2 D (.lst (qs.map pgV++[pgV o']))) D qs'/\qs.map pgV++[pgV o']=qs'.map pgV/\qs'.length=i+1/\cont qs'=cont (ps.take (i+1))/\∀ b,At D qs' b->H b=none:=λo' H2 ho s2 hn=>by
    refine ⟨s2 _ _ g'.top,hlen,qs++[o'],hD,Same.set (ss.trans s2) hD,⟨by rw [upd_same,List.map_append]; rfl,λk p ws z=>?_,λk l p ws ws' z1 z2=>?_⟩,by rw [List.map_append]; rfl,by rw [List.length_append,hq]; rfl,?_,λb hb=>?_⟩
    ·rcases Nat.lt_or_ge k qs.length with hk | hk
     ·rw [List.getElem?_append_left hk] at z
      have:=g'.each k p ws z
      refine ⟨?_,this.2⟩
      rw [Ab0 this.2]
      exact s2 _ _ this.1
     ·rw [List.getElem?_append_right hk] at z
      have hk':k - qs.length=0:=by
       rcases Nat.eq_zero_or_pos (k - qs.length) with h | h
       ·exact h
       ·rw [List.getElem?_eq_none (by simp; omega)] at z
        cases z
      rw [hk'] at z
      obtain ⟨z1,z2⟩:=hn p ws (Option.some.inj z)
      have ne:p≠D:=λq=>by rw [q,g'.top] at z2; cases z2
      refine ⟨?_,ne⟩
      rw [Ab0 ne]
      exact z1
    ·have split:∀ (k:Nat) (vs:List Int),(qs++[o'])[k]?=some (some (p,vs))->(k<qs.length/\qs[k]?=some (some (p,vs)))\/(k=qs.length/\o'=some (p,vs)):=λk vs z=>by
      rcases Nat.lt_or_ge k qs.length with hk | hk
      ·rw [List.getElem?_append_left hk] at z
       exact .inl ⟨hk,z⟩
      ·rw [List.getElem?_append_right hk] at z
       have hk':k - qs.length=0:=by
        rcases Nat.eq_zero_or_pos (k - qs.length) with h | h
        ·exact h
        ·rw [List.getElem?_eq_none (by simp; omega)] at z
         cases z
       rw [hk'] at z
       exact .inr ⟨by omega,Option.some.inj z⟩
     have old:∀ (k:Nat) (vs vs':List Int),qs[k]?=some (some (p,vs))->o'=some (p,vs')->False:=λk vs vs' z1 z2=>by
      have h1:=(g'.each k p vs z1).1
      rw [(hn p vs' z2).2] at h1
      cases h1
     rcases split k ws z1 with ⟨_,a1⟩ | ⟨rfl,a1⟩ <;> rcases split l ws' z2 with ⟨_,a2⟩ | ⟨rfl,a2⟩
     ·exact g'.nd k l p ws ws' a1 a2
     ·exact (old _ _ _ a1 a2).elim
     ·exact (old _ _ _ a2 a1).elim
     ·rfl
    ·rw [htake]
     unfold cont at hc ⊢
     rw [List.map_append,List.map_append,hc]
     congr 1
     simp [ho]
    ·rcases hb with rfl | ⟨k,ws,z⟩
     ·exact hD
     ·rcases Nat.lt_or_ge k qs.length with hk | hk
      ·rw [List.getElem?_append_left hk] at z
       exact hfr b (.inr ⟨k,ws,z⟩)
      ·rw [List.getElem?_append_right hk] at z
       have hk':k - qs.length=0:=by
        rcases Nat.eq_zero_or_pos (k - qs.length) with h | h
        ·exact h
        ·rw [List.getElem?_eq_none (by simp; omega)] at z
         cases z
       rw [hk'] at z
       exact ss.free (hn b ws (Option.some.inj z)).2
   cases o with
   | none =>
    refine ⟨_,rfl,rfl,_,rfl,iteT ?_⟩
    exact more none H' rfl (Same.refl _) λp ws z=>by cases z
   | some x =>
    obtain ⟨p,ws⟩:=x
    refine ⟨_,rfl,rfl,_,rfl,iteF ⟨_,rfl,p,_,rfl,.inl (SqL.of (ss _ _ (g.each i p ws e).1)),λl hl=>?_⟩⟩
    refine more (some (l,ws)) _ rfl (Aa7 hl) λp' ws' z=>?_
    cases z
    exact ⟨upd_same,hl⟩
 ·rintro D ys H' ⟨qs,_,ss,g',rfl,hq,hc,hfr⟩
  rw [List.length_map,List.take_length] at hc
  exact q D H' qs ss g' hc hfr
end L2
end
section
namespace L2
open PySem PySem.Spec PyProof.Rows
theorem Inv.turnedN {X:Cx} {pins:List (Addr×Obj)} {σ:St} {H:Hp} {s:Shared} {h':Heap} {t':Nat} {fp:List Addr} (I:Inv X pins σ H s) (k:∀ b o,b ∉ fp->s.heap.get? b=some o->h'.get? b=some o) (hf:∀ b ∈ fp,FpOk X pins H b):Inv X pins σ H { s with heap:=h',toks:=t' }:=by
 have nit:∀ b u,H b=some u->b ∉ fp:=λb u e z=>by rw [(hf b z).1] at e; cases e
 refine I.step (g':=s.gens) (d':=s.drawn) (ch:=fp) (λb hb=>?_) (λb o _ _ hc e _=>k b o hc e) (λb o _ _ hc e _=>⟨o.slots,k b o hc e⟩) (λ_ _ _ _ n=>n)
  (λb o hc e=>⟨o,k b o hc e⟩) (λ_ _ e=>e) (λ_ _ _ e=>e) (λb ps e=>⟨#[],by rw [e]; simp⟩) (λm hm=>?_) (λb u e=>?_) I.bare
 ·obtain ⟨f0,f1,f2,f3,f4,f5⟩:=hf b hb
  exact ⟨f3,f1,f4,f5⟩
 ·obtain ⟨o,es,ep,ho,r⟩:=hm
  exact ⟨o,es,ep,k _ o (λz=>(hf _ z).2.1 rfl) ho,r⟩
 ·refine (I.hok b u e).stay (λc v hc q=>k c v ?_ q) (λ_ q=>q) λ_ _ q=>q
  rcases hc with z | z
  ·rw [z]; exact nit b u e
  ·exact nit c _ z
def Ite (K:PySem.W.Frag) (a:Addr):It :=
 ⟨λi H=>∃ xs x,SqL K H a xs/\xs[i]?=some x,λi H x H'=>∃ t v,H t=none/\x=.ref t/\(∀ xs,SqL K H a xs->xs[i]?=some v)/\H'=upd H t (.tup [.int (i:Int),v]),λi H=>∃ xs,SqL K H a xs/\xs.length<=i⟩
theorem Bb6 {P:Program} {w:World} {K:PySem.W.Frag} {elts:List Expr} {x1:Nat} {pos:Pos} (a e it:Addr) (hne:e≠it):Turn P w K (.Tuple elts x1 pos) (Ite K a) [e,it] e (λi h=>(∃ old,IsEnum h e it i old)/\h.IsListIter it a i) where
 mem:=by simp
 obj:=λi h st b hb=>by
  obtain ⟨⟨old,he⟩,o,ho,c,d⟩:=st
  rcases List.mem_cons.mp hb with z | z
  ·subst z
   exact ⟨_,he,λv z=>by cases z⟩
  ·rw [List.mem_singleton.mp z]
   exact ⟨o,ho,λv z=>by rw [d] at z; cases z⟩
 keep:=λi h h' st k=>⟨⟨_,k e (by simp) _ st.1.choose_spec⟩,st.2.at λo z=>k it (by simp) o z⟩
 item:=by
  intro X hP hw hK hc i pins s σ H E I hf st hg
  subst hP hw hK
  obtain ⟨xs,x,hq,hx⟩:=hg
  obtain ⟨its,rv,p,hz⟩:=I.list hq
  obtain ⟨u,hu,ru⟩:=rv.get hx
  obtain ⟨⟨old,he⟩,hit⟩:=st
  have hel:e<s.heap.objs.size:=Heap.lt_size he
  have hil:it<s.heap.objs.size:=by obtain ⟨o,ho,_⟩:=id hit; exact Heap.lt_size ho
  refine wpAny_pyNext_enum_item he hit p.isList (x:=u) (by simpa using hu) hne λh1 ho hit1 ht hsz hk=>⟨_,rfl,?_⟩
  refine wpAny_letOwnedTupleGo_enum ho λh2 he2 hs2=>?_
  have hs2:Heap.SameBut e h1 h2:=hs2
  have hT:H s.heap.objs.size=none:=I.hok.fresh (Nat.le_refl _)
  have I1:Inv X pins σ (upd H s.heap.objs.size (.tup [.int (i:Int),x])) { s with heap:=s.heap.push { cls:=.type "tuple",data:=.seq #[.int i s.toks,u] },toks:=s.toks+1 }:=by
   refine I.laid (λb o z=>Heap.get?_push_of_some _ z) (Nat.le_refl _) ?_
   exact ⟨by show 2<=sizeLine; decide,[.int i s.toks,u],.cons ⟨_,rfl⟩ (.cons ru .nil),_,Heap.get?_push_size _ rfl,rfl,_,rfl⟩
  have hf1:∀ b ∈ [e,it],FpOk X pins (upd H s.heap.objs.size (.tup [.int (i:Int),x])) b:=λb hb=>by
   obtain ⟨f0,f⟩:=hf b hb
   refine ⟨?_,f⟩
   have hbl:b<s.heap.objs.size:=by
    rcases List.mem_cons.mp hb with z | z
    ·rw [z]; exact hel
    ·rw [List.mem_singleton.mp z]; exact hil
   rw [Ab0 (Nat.ne_of_lt hbl)]
   exact f0
  have I2:Inv X pins σ (upd H s.heap.objs.size (.tup [.int (i:Int),x])) { s with heap:=h2,toks:=s.toks+1 }:=by
   refine Inv.turnedN (s:={ s with heap:=s.heap.push { cls:=.type "tuple",data:=.seq #[.int i s.toks,u] },toks:=s.toks+1 }) (h':=h2) (t':=s.toks+1) (fp:=[e,it]) I1 (λb o hb z=>?_) hf1
   have n1:b≠e:=λq=>hb (by simp [q])
   have n2:b≠it:=λq=>hb (by simp [q])
   rw [hs2.2 b n1]
   by_cases hbT:b=s.heap.objs.size
   ·subst hbT
    have z':some _=some o:=(Heap.get?_push_size s.heap (o:={ cls:=.type "tuple",data:=.seq #[.int i s.toks,u] }) rfl).symm.trans z
    rw [<- z']
    exact ht
   ·refine hk b o n1 n2 ?_
    have hlt:b<(s.heap.push { cls:=.type "tuple",data:=.seq #[.int i s.toks,u] }).objs.size:=Heap.lt_size z
    rw [Heap.size_push] at hlt
    rwa [show (s.heap.push { cls:=.type "tuple",data:=.seq #[.int i s.toks,u] }).get? b=s.heap.get? b from Heap.get?_push_ne _ _ _ hbT] at z
  refine ⟨.ref s.heap.objs.size,_,I2,rfl,⟨_,x,hT,rfl,λys hy=>by rw [I.list_inj hy hq]; exact hx,rfl⟩,⟨⟨u,by simpa using he2⟩,hit1.at λo z=>(hs2.2 it hne.symm).trans z⟩,λb hb=>(hf1 b hb).1⟩
 done:=by
  intro X hP hw hK hc i pins s σ H E I hf st hg
  subst hP hw hK
  obtain ⟨xs,hq,hx⟩:=hg
  obtain ⟨its,rv,p,hz⟩:=I.list hq
  obtain ⟨⟨old,he⟩,hit⟩:=st
  have hl:=rv.length
  exact wpAny_pyNext_enum_end (I.ok.hd hc) he hit p.isList (by simp; omega) λh' eb=>⟨rfl,I.turnedN (t':=s.toks) (fp:=[e,it]) (λb o hb z=>eb b o (λq=>hb (by simp [q])) z) hf⟩
 self:=λ_ _ _ _ _ st h=>wpAny_pyIter_enum st.1.choose_spec h
def By6 (K:PySem.W.Frag) (ta:TA):TI:=λσ H R=>ta σ H λvs H1=>∃ a xs,vs=[.ref a]/\SqL K H1 a xs/\R (Ite K a) H1
theorem Bo3 {X:Cx} {elts:List Expr} {x1:Nat} {tpos p pos:Pos} {l:Expr} {ta:TA} (hg:Gl X "enumerate") (hm:X.mg "enumerate"=none) (ha:PA X [l] ta) (hs:starEach [l] X.env=[(false,eval l X.env)]:=by rfl):PI X (.Tuple elts x1 tpos) (.Call (.Name "enumerate" p) [l] [] pos) (By6 X.K ta):=by
 intro pins s σ H R I h
 refine Call_ (An8 I hg hm boot_enumerate (PyProof.Rows.callWith_type1 (thn (ha pos pins s σ H _ I h) λus s1 ⟨vs,H1,I1,r1,q1⟩=>?_) hs rfl))
 obtain ⟨a,xs,e,hq,q⟩:=q1
 subst e
 cases r1 with
 | cons r rr =>
  cases rr
  cases r
  obtain ⟨its,rv,p,hz⟩:=I1.list hq
  refine call_enumerate_list p.isList λh' hE hI hsz hk=>?_
  refine wpAny_pyIter_enum hE ?_
  refine ⟨_,[s1.heap.objs.size+1,s1.heap.objs.size],_,_,H1,rfl,I1.kept (t':=s1.toks) hk,Bb6 a _ _ (Nat.succ_ne_self _),⟨⟨_,hE⟩,hI⟩,λb hb=>?_,q⟩
  have hb':s1.heap.objs.size<=b:=by
   rcases List.mem_cons.mp hb with z | z
   ·rw [z]; exact Nat.le_succ _
   ·rw [List.mem_singleton.mp z]; exact Nat.le_refl _
  exact I1.fpOk hb' (I1.hok.fresh hb')
theorem Bk0 {K:PySem.W.Frag} {a:Addr} {xs:List V} {g:TG} {tb:TS} {D:Ends} {σ:St} {H:Hp} (Pv:Nat->St->Hp->Prop) (h0:Pv 0 σ H) (hl:∀ i σ H,i<=xs.length->Pv i σ H->SqL K H a xs)
  (hs:∀ i x σ H t,xs[i]?=some x->Pv i σ H->H t=none->g (.ref t) σ (upd H t (.tup [.int (i:Int),x])) λσ2 H2=>tb { D with nx:=Pv (i+1),ct:=Pv (i+1),bk:=D.nx } σ2 H2) (hd:∀ σ H,Pv xs.length σ H->D.nx σ H) :
  ∃ W:Nat->Nat->St->Hp->Prop,(∃ m,W 0 m σ H)/\∀ i m σ H,W i m σ H ->
   ((Ite K a).stop i H/\D.nx σ H)\/((Ite K a).go i H/\∃ N:St->Hp->Prop,(∀ σ' H',N σ' H'->∃ m',m'<m/\W (i+1) m' σ' H')/\∀ x H',(Ite K a).yld i H x H'->g x σ H' λσ2 H2=>tb { D with nx:=N,ct:=N,bk:=D.nx } σ2 H2):=by
 refine ⟨λi m σ H=>m=xs.length - i/\i<=xs.length/\Pv i σ H,⟨xs.length,by simp,Nat.zero_le _,h0⟩,?_⟩
 rintro i m σ H ⟨rfl,hi,p⟩
 have q:=hl i σ H hi p
 by_cases hlt:i<xs.length
 ·refine .inr ⟨⟨xs,xs[i],q,by simp [hlt]⟩,Pv (i+1),λσ' H' p'=>⟨xs.length - (i+1),by omega,rfl,hlt,p'⟩,λx H' y=>?_⟩
  obtain ⟨t,v,ht,rfl,hv,rfl⟩:=y
  exact hs i v σ H t (hv xs q) p ht
 ·have e:i=xs.length:=by omega
  subst e
  exact .inl ⟨⟨xs,q,Nat.le_refl _⟩,hd σ H p⟩
end L2
end
section
namespace L2
open PySem PySem.Spec PyProof.Rows
theorem Bg0 {K:PySem.W.Frag} {H:Hp}:∀ ws:List Int,DatsR K H (ws.map V.int) (ws.map PyData.int)
 | []=>.nil
 | b::bs=>.cons (.int b) (Bg0 bs)
theorem layI:∀ ws:List Int,PyData.canLayAll0 (ws.map PyData.int)=true/\PyData.depthAll (ws.map PyData.int)=0
 | []=>⟨rfl,rfl⟩
 | b::bs=>by
  obtain ⟨h1,h2⟩:=layI bs
  constructor
  ·simp only [List.map_cons,PyData.canLayAll0,PyData.canLay0,h1,Bool.and_self]
  ·simp only [List.map_cons,PyData.depthAll,PyData.depth,h2,Nat.max_self]
theorem Ao6 (ws:List Int):SeqAt.shaped (.list (ws.map PyData.int))=true:=by
 obtain ⟨h1,h2⟩:=layI ws
 simp only [SeqAt.shaped,PyData.canLay0,PyData.depth,h1,h2,Bool.true_and]
 decide
end L2
end
section
namespace L2
open PySem
structure Bw8 (K:PySem.W.Frag) (C:Addr) (m:Str) (f:Addr):Prop where
 sp:PySem.W.specialIn K (.ref C) "__getattribute__"=some (some (.builtin "type.__getattribute__"))
 rd:PySem.W.readsIn K C (.type "type")=true
 at_:PySem.W.findCls K (.ref C) (.type "type") m=some (.val (.ref f))
 kp:PySem.W.keepIn K (.ref f)=true
section
variable {X : Cx} {CX : CXT} {k : Nat} {f C : Addr} {fd : FuncData} {ps : List Str} {sp : Sp} {dvs : List V} {ds : List Value} {E : XK} {x m : Str} {p pos apos : Pos} {e o : Expr} {es : List Expr} {t : TA}
theorem Bh7 {pl:Sem Bool} (F:FnOk X.prog X.w X.K X.mg X.base CX k f fd ps sp) (hr:Room k X.A) (hg:Gl X x) (hm:X.mg x=some (.ref C)) (c:Bw8 X.K C m f) (hb:Binds X.K fd ps ds) (hd:Vals dvs ds) (hx:Ah1 CX X E)
  (ha:PA X (e::es) t) (hdb:(x == ("__debug__":Str))=false:=by decide)
  (hst:starEach (e::es) X.env=(false,eval e X.env)::starEach es X.env:=by rfl) (hpl:(backTo pos (starEach es X.env)).any (·.1)=false:=by rfl)
  (ht:eval (.Call (.Attribute (.Name x p) m apos) (e::es) [] pos) X.env=(do
   let ov <- eval (.Name x p) X.env
   standAt apos.atName
   let (f,first) <- holding [ov] (getMethod ov m pl)
   callWith pos f first (backTo pos (starEach (e::es) X.env)) (backToKw pos (keywordEach [] X.env))):=by rfl) :
  PE X (.Call (.Attribute (.Name x p) m apos) (e::es) [] pos) (As7 sp dvs E t):=by
 intro pins s σ H Q I h
 refine PySem.W.methodCall_KW (pl:=pl) (Ai5 I hg hm ?_ hdb) ht
 refine PySem.W.method_cls I.kIn c.sp (PySem.W.cls_value I.kIn c.rd c.at_ rfl ?_)
 have I1:=I.tok (s.toks+1)
 refine PySem.W.callWith_K (first:=[]) (h₀:=X.base) I.ok.mod.kin c.kp (thn (ha pos pins _ σ H _ I1 h) λus s1 ⟨vs,H1,I2,r,q⟩=>⟨I2.kIn,?_⟩) hst hpl
 exact An5 F hr hb hd hx I2 r q
end
end L2
end
section
namespace L2
open PySem PySem.Spec PyProof.Rows
end L2
namespace L2
open PySem PySem.Spec PyProof.Rows
section
variable (P : Program) (w : World)
end
section
variable {P : Program} {w : World} {H H' : Hp} {h h' : Heap} {a : Addr} {o : HO}
end
section
variable {P : Program} {w : World} {H : Hp} {h h' : Heap} {x e : Addr} {o' : HO}
end
section
variable {fs fs' ex ex' : List Addr} {H H1 H2 : Hp} {h h1 h2 h' : Heap} {a x e : Addr} {o : HO}
end
end L2
namespace L2
open PySem PySem.Spec PyProof.Rows
section
variable {X : Cx} {pins : List (Addr × Obj)} {σ : List (Option V)} {H H' : Hp} {s : Shared} {h' : Heap}
end
end L2
namespace L2
open PySem PySem.Spec PyProof.Rows
section
variable {X : Cx}
variable {a b : Expr} {ta tb : TE} {pos : Pos}
variable {tA tB' : TT} {rest : List Expr}
end
end L2
namespace L2
open PySem PySem.Spec PyProof.Rows
section
variable {X : Cx} {pins : List (Addr × Obj)} {σ : St} {H : Hp} {s : Shared} {a : Addr} {xs ys : List V}
end
section
variable {X : Cx} {pins : List (Addr × Obj)} {σ : St} {H : Hp} {s : Shared} {E : Value → Shared → Prop}
end
section
variable {X : Cx} {st : Stmt} {rest : List Stmt} {t u : TS} {e : Expr} {te : TE} {pos : Pos}
end
section
variable {X : Cx} {pos : Pos}
end
section
variable {X : Cx} {pos : Pos}
end
end L2
namespace L2
open PySem PySem.Spec PyProof.Rows
section
variable {X : Cx} {tg : Expr}
end
end L2
namespace L2
open PySem PySem.Spec PyProof.Rows
section
variable {X : Cx} {a b c : Expr} {ta tb tc : TE} {pos : Pos}
end
section
variable {X : Cx} {a b c : Expr} {ta tb tc : TE} {pos : Pos}
end
end L2
namespace L2
open PySem PySem.Spec PyProof.Rows
section
variable {prog : Program} {w : World} {A : Around} {E : Value → Shared → Prop} {s : Shared} {K : PySem.W.Frag} {x dx C f : Addr} {mA : Str → Option Value} {name : Str} {v : Value}
end
section
variable {P : Program} {w : World} {H H' : Hp} {h h' : Heap} {a C dx : Addr} {fs fs' : List (Str × V)}
end
section
variable {X : Cx} {pins : List (Addr × Obj)} {σ : St} {H : Hp} {s : Shared} {a C dx : Addr} {fs : List (Str × V)} {f : Str} {v : V} {A : Around} {E : Value → Shared → Prop}
end
section
variable {X : Cx} {o e value : Expr} {f : Str} {pos pos' tpos : Pos} {ta tv : TE}
end
section
variable {X : Cx} {pins : List (Addr × Obj)} {σ : St} {H : Hp} {s : Shared} {A : Around} {E : Value → Shared → Prop} {Q : Value → Shared → Prop} {c : Value} {b : Bool}
end
end L2
namespace L2
open PySem PySem.Spec PyProof.Rows
section
variable {X : Cx} {e : Expr} {es : List Expr} {te : TE} {t : TA} {pos : Pos}
end
section
variable {X : Cx} {pins : List (Addr × Obj)} {σ : St} {H : Hp} {s s' : Shared}
end
section
variable {X : Cx} {CX : CXT} {k : Nat} {f C : Addr} {fd : FuncData} {ps : List Str} {sp : Sp} {dvs : List V} {ds : List Value} {E : XK} {x m : Str} {p pos apos : Pos} {e o : Expr} {es : List Expr} {ta : TE} {t : TA}
end
section
variable {X : Cx} {CX : CXT} {k : Nat} {f C : Addr} {fd : FuncData} {ps ks : List Str} {sp : Sp} {E : XK} {x m : Str} {p pos apos kpos : Pos} {e o : Expr} {es : List Expr} {kws : List Keyword} {te ta : TE} {t tk : TA} {nm : Option Str}
variable {g : List Value → List Value → List Value} {gV : List V → List V → List V}
end
end L2
namespace L2
open PySem PySem.Spec PyProof.Rows
section
variable {X : Cx} {x : Str} {p pos : Pos} {e : Expr} {es : List Expr} {t : TA} {id T : String} {r : List V → Hp → VK → Prop}
end
end L2
namespace L2
open PySem PySem.Spec PyProof.Rows
section
variable {κ : Type} [DecidableEq κ]
end
section
variable {P : Program} {w : World} {H : Hp} {h : Heap} {a : Addr}
end
section
variable {X : Cx} {pins : List (Addr × Obj)} {σ : St} {H : Hp} {s : Shared} {a : Addr} {y v : V} {u r : Value} {o : Option V} {A : Around} {E : Value → Shared → Prop}
theorem Inv.big (I:Inv X pins σ H s):sysModules<s.heap.objs.size:=by
 have h:mainGlobals<s.heap.objs.size:=(I.mod.glob.keeps I.bk).lt
 exact Nat.lt_trans (by decide) h
end
section
variable {X : Cx} {pins : List (Addr × Obj)} {σ : St} {H : Hp} {s : Shared} {a : Addr} {kvs : List (Key × V)} {k : Key} {u : Value} {A : Around} {E : Value → Shared → Prop}
end
section
variable {X : Cx} {o i e value : Expr} {pos pos' tpos : Pos} {td ty tv : TE}
end
theorem Bk1 {P:Program} {w:World} {H:Hp} (h:Heap) (hb:sysModules<h.objs.size):ObjOk P w H (h.push { cls:=.type "dict",data:=.dict #[] }) h.objs.size (.dK []) :=
 ⟨Nat.zero_le _,beq_eq_false_iff_ne.mpr (Ne.symm (Nat.ne_of_lt hb)),[],.nil,Heap.DictOf.new h⟩
def Bs1:TE:=λ_ H Q=>∀ p,H p=none->Q (.ref p) (upd H p (.dK []))
section
variable {X : Cx} {pos : Pos}
theorem Bh5:PE X (.Dict [] [] pos) Bs1:=λpins s σ H Q I h =>
 wpAny_Dict_empty ⟨.ref s.heap.objs.size,_,I.laid (a:=s.heap.objs.size) (o:=.dK []) (t':=s.toks) (λ_ _ q=>Heap.get?_push_of_some _ q) (Nat.le_refl _) (Bk1 s.heap I.big),rfl,h _ (I.hok.fresh (Nat.le_refl _))⟩
end
structure M1 (X:Cx) (o:Expr) (m:Str) (apos:Pos) (e:Expr) (cpos:Pos):Prop where
 base:attributeBase o m X.env (eval o X.env)=eval o X.env
 few:((backTo cpos (starEach [e] X.env)).all (λx=>!x.1) && (backToKw cpos (keywordEach [] X.env)).all (λx=>x.1.isSome)
  && decide (([e]:List Expr).length+([]:List Keyword).length+(if ([]:List Keyword).isEmpty then 0 else 1)<30))=true
 line:(apos.endLine == cpos.line)=true
 trees:backTo cpos (starEach [e] X.env)=[(false,eval e X.env)]
structure M2 (X:Cx) (o:Expr) (m:Str) (apos:Pos) (e f:Expr) (cpos:Pos):Prop where
 base:attributeBase o m X.env (eval o X.env)=eval o X.env
 few:((backTo cpos (starEach [e,f] X.env)).all (λx=>!x.1) && (backToKw cpos (keywordEach [] X.env)).all (λx=>x.1.isSome)
  && decide (([e,f]:List Expr).length+([]:List Keyword).length+(if ([]:List Keyword).isEmpty then 0 else 1)<30))=true
 line:(apos.endLine == cpos.line)=true
 trees:backTo cpos (starEach [e,f] X.env)=[(false,eval e X.env),(false,eval f X.env)]
section
variable {X : Cx} {pins : List (Addr × Obj)} {σ : St} {H : Hp} {s : Shared} {a : Addr} {y d : V} {u r : Value} {o : Option V} {A : Around} {E : Value → Shared → Prop}
end
section
variable {X : Cx} {o e f : Expr} {apos cpos : Pos} {td ty tx : TE}
end
section
variable {X : Cx} {pins : List (Addr × Obj)} {σ : St} {H : Hp} {s : Shared} {a : Addr} {kvs : List (Key × V)} {A : Around} {E : Value → Shared → Prop}
end
section
variable {X : Cx} {pins : List (Addr × Obj)} {σ : St} {H : Hp} {s : Shared} {a : Addr} {y : V} {u : Value} {A : Around} {E : Value → Shared → Prop}
end
end L2
namespace Att
open PySem PySem.W PySem.Calls PyProof.Rows
section
variable {prog : Program} {w : World} {A : Around} {E : Value → Shared → Prop} {s : Shared} {K : Frag}
end
end Att
namespace L2
open PySem PySem.Spec PyProof.Rows
end L2
namespace L2
open PySem PySem.Spec PyProof.Rows
end L2
namespace L2
open PySem PySem.Spec PyProof.Rows
section
variable {P : Program} {w : World} {K : PySem.W.Frag} {mg : Str → Option Value} {base : Heap}
end
section
variable {X : Cx}
end
section
variable {κ : Type} [DecidableEq κ]
end
end L2
end
section
namespace L2
open PySem PySem.Spec PyProof.Rows
section
variable {X : Cx} {pins : List (Addr × Obj)} {σ σ0 : St} {H H0 : Hp} {s s0 : Shared} {d : Addr} {ob : Obj} {kvs : List (Key × V)}
end
theorem Bd7 {X:Cx}:OpR X (compareOp .IsNot) (λx y H Q=>∃ a b,x=.bl a/\y=.bl b/\Q (.bl (!(a == b))) H):=by
 intro pins s σ H x y v u Q I rx ry h
 obtain ⟨a,b,rfl,rfl,q⟩:=h
 obtain rfl:v=Value.bool a:=rx
 obtain rfl:u=Value.bool b:=ry
 exact wpAny_isNot_plain rfl (Ac9 I q (by cases a <;> cases b <;> rfl))
theorem Av7 {K:PySem.W.Frag}:PySem.W.kitOne K (.type "int") (.type "tuple")=some false:=by kernel_rfl
def Ar9 (x y:Str) (N:List Str):List Str:=x::y::N.map λz=>if z=x\/z=y then ("":Str) else z
def Bg6 (x y:Str) (l:List (Str×NameKind)):Prop:=∀ n k,l.lookup n=some k->((n=x\/n=y\/n = ".0")/\k=.local)\/(k≠.local/\k≠.cell/\k≠.free)
def Az2 (x y:Str):List (Str×NameKind)->Bool
 | []=>true
 | (n,k)::r=>(((n == x || n == y || n == ".0") && k == .local) || (k != .local && k != .cell && k != .free)) && Az2 x y r
theorem As0 {x y:Str}:∀ {l:List (Str×NameKind)},Az2 x y l=true->Bg6 x y l
 | [],_,n,k,h=>by simp at h
 | (m,j)::r,h0,n,k,h=>by
  unfold Az2 at h0
  rw [Bool.and_eq_true] at h0
  rw [List.lookup_cons] at h
  split at h
  ·rename_i e
   cases h
   have e':=beq_iff_eq.mp e
   subst e'
   have h1:=h0.1
   simp only [Bool.or_eq_true,Bool.and_eq_true,beq_iff_eq,bne_iff_ne,ne_eq] at h1
   rcases h1 with ⟨a,b⟩ | ⟨⟨a,b⟩,c⟩
   ·exact .inl ⟨by rcases a with (a | a) | a <;> simp [a],b⟩
   ·exact .inr ⟨a,b,c⟩
  ·exact As0 h0.2 n k h
abbrev cxD (X:Cx) (x y:Str) (scope:Scope) (C:Addr) (s₂:Shared) (H₂:Hp) (fp:List Addr):Cx :=
 { X with N:=Ar9 x y X.N,s₀:=s₂,H₀:=H₂,env:=compEnvC scope [] C X.env,outer:=X.stack,ex:=fp,fn:=λ_=>false,pn:=[],xe:=λ_ _=>False }
section
variable {X : Cx} {pins : List (Addr × Obj)} {σ : St} {H₂ : Hp} {s₂ : Shared} {fp : List Addr} {x y : Str} {scope : Scope} {C : Addr}
theorem okD (I:Inv X pins σ H₂ s₂) (hf:∀ b ∈ fp,FpOk X pins H₂ b) (ho:∀ b ∈ fp,∃ o,s₂.heap.get? b=some o) (hkind:scope.kind=.function) (hc:Bg6 x y (relabel scope X.env).names) (hC:s₂.heap.objs.size<=C) :
  (cxD X x y scope C s₂ H₂ fp).Ok where
 mod:=I.ok.mod
 kind:=hkind
 glob:=I.ok.glob
 blt:=I.ok.blt
 above:=hC
 inj:=λy z c h1 h2=>by
  have h1':([]:List (Str×Addr)).lookup y=some c:=h1
  simp at h1'
 has:=λz hz=>by
  have hz':(relabel scope X.env).names.lookup z=some .cell\/(relabel scope X.env).names.lookup z=some .free:=hz
  rcases hz' with h | h
  ·rcases hc _ _ h with ⟨_,q⟩ | ⟨_,q,_⟩
   ·cases q
   ·exact absurd rfl q
  ·rcases hc _ _ h with ⟨_,q⟩ | ⟨_,_,q⟩
   ·cases q
   ·exact absurd rfl q
 cab:=λy c h _=>absurd (show false=true from h) Bool.false_ne_true
 hd:=I.ok.hd
 frames:=I.ok.frames
 stk:=.inl rfl
 exf:=λb hb=>by
  obtain ⟨o,e⟩:=ho b hb
  exact ⟨Nat.ne_of_lt (Nat.lt_of_lt_of_le (Heap.lt_size e) hC),λy c h=>by
   have h1':([]:List (Str×Addr)).lookup y=some c:=h
   simp at h1'⟩
 bs:=I.bs
 bsz:=Nat.le_trans I.ok.bsz I.sz
 noex:=λb o e hb=>by
  rcases (hf b hb).2.2.2.1 with z | z
  ·exact I.ok.noex b o e z
  ·exact absurd (Nat.lt_of_lt_of_le (Heap.lt_size (I.ok.bs b o e).1) z) (Nat.lt_irrefl _)
 exfs:=λb hb z=>by
  rcases List.mem_cons.mp (I.stkSub b z) with q | q
  ·exact (hf b hb).2.1 q
  ·exact (hf b hb).2.2.1 q
 funs:=I.stack
 frf:=I.stkFree
theorem invD {h₁:Heap} {tk:Nat} (I:Inv X pins σ H₂ s₂) (hf:∀ b ∈ fp,FpOk X pins H₂ b) (ho:∀ b ∈ fp,∃ o,s₂.heap.get? b=some o) (hkind:scope.kind=.function) (hc:Bg6 x y (relabel scope X.env).names) (hx0:x≠"") (hy0:y≠"") (hdot:(".0":Str) ∉ X.N)
  (hC:C=s₂.heap.objs.size+1) (hns:h₁.Ns C λ_=>none) (old:∀ b o,s₂.heap.get? b=some o->h₁.get? b=some o) (hD:∃ n,h₁.get? s₂.heap.objs.size=some { cls:=.type "list",data:=.seq #[] n }) :
  Inv (cxD X x y scope C s₂ H₂ fp) [] (none::none::σ) (upd H₂ s₂.heap.objs.size (.lst [])) { s₂ with heap:=h₁,toks:=tk }:=by
 have hn:H₂ s₂.heap.objs.size=none:=I.hok.fresh (Nat.le_refl _)
 have nocell:∀ (z:Str) (c:Addr),(compEnvC scope [] C X.env).cells.lookup z=some c->False:=λz c e=>by
  have h1':([]:List (Str×Addr)).lookup z=some c:=e
  simp at h1'
 refine ⟨okD I hf ho hkind hc (by rw [hC]; exact Nat.le_succ _),rfl,I.bare,Un.laid old (Nat.le_refl _) hn,⟨_,hns,λi n v h1 h2 h3=>?_⟩,λz c e=>(nocell z c e).elim,?_,λz c e=>(nocell z c e).elim,λp hp=>absurd (show p ∈ ([]:List (Addr×Obj)) from hp) (by simp),?_,?_⟩
 ·exfalso
  match i,h1,h2 with
  | 0,h1,h2 =>
   have h2':some (none:Option V)=some (some v):=h2
   cases h2'
  | 1,h1,h2 =>
   have h2':some (none:Option V)=some (some v):=h2
   cases h2'
  | i+2,h1,h2 =>
   have h1':(X.N.map λz=>if z=x\/z=y then ("":Str) else z)[i]?=some n:=h1
   rw [List.getElem?_map] at h1'
   cases e:X.N[i]? with
   | none=>rw [e] at h1'; cases h1'
   | some z =>
    rw [e] at h1'
    have h1'':(if z=x\/z=y then ("":Str) else z)=n:=Option.some.inj h1'
    have h3':(relabel scope X.env).names.lookup n=some .local\/(relabel scope X.env).names.lookup n=some .cell\/(relabel scope X.env).names.lookup n=some .free:=h3
    have key:n=x\/n=y\/n = ".0":=by
     rcases h3' with q | q | q
     ·rcases hc _ _ q with ⟨a,_⟩ | ⟨a,_⟩
      ·exact a
      ·exact absurd rfl a
     ·rcases hc _ _ q with ⟨_,a⟩ | ⟨_,a,_⟩
      ·cases a
      ·exact absurd rfl a
     ·rcases hc _ _ q with ⟨_,a⟩ | ⟨_,_,a⟩
      ·cases a
      ·exact absurd rfl a
    by_cases hz:z=x\/z=y
    ·rw [if_pos hz] at h1''
     rcases key with q | q | q
     ·exact hx0 (q.symm.trans h1''.symm)
     ·exact hy0 (q.symm.trans h1''.symm)
     ·rw [q] at h1''
      exact absurd h1'' (by decide +kernel)
    ·rw [if_neg hz] at h1''
     subst h1''
     rcases key with q | q | q
     ·exact hz (.inl q)
     ·exact hz (.inr q)
     ·subst q
      exact hdot (List.mem_of_getElem? e)
 ·show (upd H₂ s₂.heap.objs.size (.lst [])) C=none
  rw [Ab0 (by rw [hC]; exact Nat.ne_of_gt (Nat.lt_succ_self _))]
  exact I.hok.fresh (by rw [hC]; exact Nat.le_succ _)
 ·obtain ⟨n,e⟩:=hD
  exact I.hok.laid old (Nat.le_refl _) ⟨Nat.zero_le _,[],n,.nil,e⟩
 ·show (none::none::σ).length=(Ar9 x y X.N).length
  simp [Ar9,I.len]
theorem fpD (I:Inv X pins σ H₂ s₂) (hf:∀ b ∈ fp,FpOk X pins H₂ b) (ho:∀ b ∈ fp,∃ o,s₂.heap.get? b=some o) (hC:s₂.heap.objs.size<=C) {H:Hp} (hn:∀ b ∈ fp,H b=none):∀ b ∈ fp,FpOk (cxD X x y scope C s₂ H₂ fp) [] H b:=λb hb=>by
 obtain ⟨o,e⟩:=ho b hb
 refine ⟨hn b hb,Nat.ne_of_lt (Nat.lt_of_lt_of_le (Heap.lt_size e) hC),λz=>?_,.inl hb,λy c h=>?_,λp hp=>absurd (show p ∈ ([]:List (Addr×Obj)) from hp) (by simp)⟩
 ·rcases List.mem_cons.mp (I.stkSub b z) with q | q
  ·exact (hf b hb).2.1 q
  ·exact (hf b hb).2.2.1 q
 ·have h1':([]:List (Str×Addr)).lookup y=some c:=h
  simp at h1'
end
section
variable {X : Cx} {x y : Str} {px py pos tpos : Pos} {scope : Scope} {elt iter : Expr} {ti te : TE} {k1 : Nat}
end
end L2
end
section
namespace L2
open PySem PySem.Spec PyProof.Rows Builtin Builtin.ObjectAttr
def Bu0:List Value->Bool
 | []=>false
 | v::r=>match v with
  | .ref _=>Bu0 r
  | _=>(v::r) == VB
def Bu1 (K:PySem.W.Frag) (C:Addr):Bool:=(PySem.W.clsIn K C).any λcd=>Bu0 cd.mro
structure XCls (K:PySem.W.Frag) (C:Addr):Prop where
 sa:PySem.W.findIn K (.ref C) "__setattr__"=some (some (.builtin "object.__setattr__"))
 ov:Bu1 K C=true
 hd:PySem.W.hasDictIn K C=true
 ga:PySem.W.findIn K (.ref C) "__getattribute__"=some (some (.builtin "BaseException.__getattribute__"))
 gh:PySem.W.findIn K (.ref C) "__getattr__"=some none
 mb:PySem.W.mroIn K C (.type "BaseException")=some true
section
variable {prog : Program} {w : World} {A : Around} {s : Shared} {K : PySem.W.Frag} {x C : Addr} {R : Result → Shared → Prop}
end
section
variable {X : Cx} {pins : List (Addr × Obj)} {σ : St} {H : Hp} {s : Shared} {e C t d : Addr} {fs : List (Str × V)} {f : Str} {y : V} {u : Value} {A : Around} {E : Value → Shared → Prop} {Q : Unit → Shared → Prop}
end
section
variable {prog : Program} {w : World} {A : Around} {s : Shared} {K : PySem.W.Frag} {x C : Addr} {E : Value → Shared → Prop}
end
end L2
end
section
namespace L2
open PySem PySem.Spec PyProof.Rows Builtin Builtin.ObjectAttr
section
variable {X : Cx} {pins : List (Addr × Obj)} {σ : St} {H : Hp} {s : Shared} {e C t d : Addr} {fs : List (Str × V)} {f : Str} {v : V}
end
section
variable {X : Cx} {o e value : Expr} {f : Str} {pos pos' tpos : Pos} {ta tv : TE}
end
section
variable {X : Cx} {pins : List (Addr × Obj)} {σ : St} {H : Hp} {s : Shared} {e C t : Addr}
end
section
variable {X : Cx} {x : Str} {C fI : Addr} {fdI : FuncData} {psI : List Str} {k n : Nat} {ff : List V → List (Str × V)} {E : XK} {e₀ : Expr} {rest : List Expr} {t : TA} {np cpos pos : Pos}
end
end L2
end
section
namespace L2
open PySem
structure PEq (X:Cx) (e:Expr) (t:TE):Prop where
 h:PE X e t
structure PAq (X:Cx) (es:List Expr) (t:TA):Prop where
 h:PA X es t
structure PSq (X:Cx) (st:Stmt) (t:TS):Prop where
 h:PS X st t
structure PSsq (X:Cx) (st:List Stmt) (t:TS):Prop where
 h:PSs X st t
theorem Bd4 {X:Cx}:PAq X [] tNil:=⟨Aa4⟩
theorem Af2 {X:Cx} {e:Expr} {es:List Expr} {te:TE} {t:TA} (h1:PEq X e te) (h2:PAq X es t) (hs:∀ (l:List Expr) (env:Env),starEach (e::l) env=(false,eval e env)::starEach l env:=by intro _ _; rfl):PAq X (e::es) (Aj6 te t):=⟨Aa0 h1.h h2.h (hs es X.env)⟩
theorem Bd2 {X:Cx} {es:List Expr} {t:TA} {pos:Pos} (h:PAq X es t):PEq X (.List es pos) (tLst t):=⟨Ah2 h.h⟩
theorem Af4 {X:Cx} {st:Stmt} {t:TS} (h:PSq X st t):PSsq X [st] t:=⟨Aa6 h.h⟩
structure PTq (X:Cx) (c:Expr) (t:TT):Prop where
 h:PT X c t
structure PIq (X:Cx) (tg iter:Expr) (w:TI):Prop where
 h:PI X tg iter w
structure PGq (X:Cx) (tg:Expr) (g:TG):Prop where
 h:PG X tg g
section
variable {X : Cx} {st : Stmt} {rest : List Stmt} {t u : TS} {e tg iter : Expr} {te : TE} {pos : Pos}
theorem Ag6:PSsq X [] Br8:=⟨Ac4⟩
theorem Ae1 (h1:PSq X st t) (h2:PSsq X rest u):PSsq X (st::rest) (tSeq t u):=⟨Aa5 h1.h h2.h⟩
theorem Al3 {c:Expr} {a b:List Stmt} {tc:TT} (hc:PTq X c tc) (ha:PSsq X a t) (hb:PSsq X b u):PSq X (.If c a b pos) (tIfS tc t u):=⟨Ae5 hc.h ha.h hb.h⟩
theorem Bt6 {a b:Expr} {ta tb:TE} {op:Operator} {r:R2} (ho:OpR X (binaryOp op) r) (ha:PEq X a ta) (hb:PEq X b tb):PEq X (.BinOp a op b pos) (tOp r ta tb):=⟨Ad9 ho ha.h hb.h⟩
theorem Ah7 {i:Nat} {x:Str} {pos':Pos} (hN:X.N.Nodup) (hi:X.N[i]?=some x) (hx:Loc X.env.scope x) (he:PEq X e te) (hs:swapsWith e (some (.Name x pos')) pos.line X.env=pure false:=by rfl) (hf:X.fn x=true\/X.env.scope.names.lookup x=some .local:=by first | exact .inl rfl | exact .inr rfl | assumption) :
  PSq X (.Assign [.Name x pos'] e pos) (tAsg te (Bf5 i)):=⟨Ae8 hN hi hx he.h hs hf⟩
theorem PSsq.ex {D:Ends} {σ:St} {H:Hp} {sts:List Stmt} (h:PSsq X sts t) (g:t D σ H):∃ t,PSs X sts t/\t D σ H:=⟨t,h.h,g⟩
end
inductive Br3:List Expr->List Int->Prop
 | nil:Br3 [] []
 | cons {z:Int} {j:Nat} {p:Pos} {es:List Expr} {zs:List Int}:Br3 es zs->Br3 (.Constant (.int z) j p::es) (z::zs)
end L2
end
section
namespace K33
open PySem L2
abbrev Ai7:Stmt:=top 22
abbrev Ai0:Stmt:=top 23
abbrev At8:Stmt:=top 24
abbrev Ak8:Stmt:=top 41
abbrev Ak7:Stmt:=top 42
abbrev Az5:Stmt:=Aa9 (top 45) 0
def Af0:V->Int->Bool
 | .int i,b=>decide (0<=i) && decide (i<b)
 | _,_=>false
theorem Ah9 {i b:Int} (h0:0<=i) (h1:i<b):Af0 (.int i) b=true:=by simp [Af0,h0,h1]
structure Dn (K:PySem.W.Frag) (mg:Str->Option Value) (x:Str) (st:Stmt) (ps:List Str) (f:Addr) (fd:FuncData):Prop where
 F:Fun K x x st f fd
 m:mg x=some (.ref f)
 b:Binds K fd ps []
structure Me (K:PySem.W.Frag) (C:Addr) (x qual:Str) (st:Stmt) (ps:List Str) (f:Addr) (fd:FuncData):Prop where
 F:Fun K x qual st f fd
 m:Meth K C x f
 b:Binds K fd ps []
structure Txt (K:PySem.W.Frag) (mg:Str->Option Value):Prop where
 isi:mg "isinstance"=none
 int:mg "int"=none
 boo:mg "bool"=none
 lst:mg "list"=none
 len:mg "len"=none
 all:mg "all"=none
 rng:mg "range"=none
structure Sto (K:PySem.W.Frag) (mg:Str->Option Value) (C NP NL NW NI:Addr):Prop where
 cl:Cls K C
 nh:NoAttr K C "held"
 words:∃ t,mg "WORDS"=some (.int 281474976710656 t)
 cells:∃ t,mg "CELLS"=some (.int 8 t)
 most:∃ t,mg "MOST_PAGES"=some (.int 24 t)
 np:mg "NoPage"=some (.ref NP)
 xp:L2.excIn K NP=true
 nl:mg "NoPlace"=some (.ref NL)
 xl:L2.excIn K NL=true
 nw:mg "NoWord"=some (.ref NW)
 xw:L2.excIn K NW=true
 ni:mg "NoImage"=some (.ref NI)
 xi:L2.excIn K NI=true
def flds (h:Addr):List (Str×V):=putF "held" (.ref h) []
structure Mem (C:Addr) (H:Hp) (m h:Addr) (ps:Pgs):Prop where
 ob:∃ dx,H m=some (.ins C dx (flds h))
 pg:Pg H h ps
 good:Good ps
 len:1<=ps.length/\ps.length<=24
def Af9:Sp:=λvs H Q _=>∃ x,vs=[x]/\Th H x/\Q (.bl (isI x)) H
def Ai4:Sp:=λvs H Q _=>∃ x b,vs=[x,.int b]/\Th H x/\Q (.bl (Af0 x b)) H
def Ax8:Sp:=λvs H Q _=>∃ x,vs=[x]/\Th H x/\Q (.bl (Af0 x 281474976710656)) H
section
variable {P : Program} {w : World} {K : PySem.W.Frag} {mg : Str → Option Value} {base : Heap} {C NP NL NW NI : Addr}
theorem scWh:Ab6 ["thing"] ["thing"] (Aa1 Ai7):=FSc
theorem Ay8 {f:Addr} {fd:FuncData} (F:Fun K "is_whole" "is_whole" Ai7 f fd) (T:Txt K mg):FnOk P w K mg base CX0 1 f fd ["thing"] Af9:=by
 refine F.ok scWh (λvs H Q E h=>?_) (λcdv A outer s H vs Q E hr h=>?_)
 ·obtain ⟨x,rfl,_⟩:=h
  rfl
 ·obtain ⟨x,rfl,th,q⟩:=h
  refine ⟨_,(Aa6 (Ac3 (Al5 (Ac0 Ao1 (by rfl) T.isi PyProof.Rows.boot_isinstance (Aa0 (pv 0) (Aa0 (Ae4 (by rfl) T.int PyProof.Rows.boot_int (show RelV (.ty "int") (.type "int") from rfl)) Aa4))) (An6 (Bk9 (Ac0 Ai6 (by rfl) T.isi PyProof.Rows.boot_isinstance (Aa0 (pv 0) (Aa0 (Ae4 (by rfl) T.boo PyProof.Rows.boot_bool (show RelV (.ty "bool") (.type "bool") from rfl)) Aa4)))))))),?_⟩
  refine ⟨x,rfl,x,rfl,th,_,rfl,?_⟩
  cases th with
  | non=>exact iteF q
  | bl b=>exact iteT ⟨_,rfl,_,rfl,.bl b,_,rfl,q⟩
  | int i=>exact iteT ⟨_,rfl,_,rfl,.int i,_,rfl,q⟩
  | str z=>exact iteF q
  | lst e=>exact iteF q
  | frz e=>exact iteF q
  | tup e=>exact iteF q
  | dic e=>exact iteF q
theorem scBe:Ab6 ["thing","bound"] ["thing","bound"] (Aa1 Ai0):=FSc
theorem Bj2 {f f1:Addr} {fd fd1:FuncData} (F:Fun K "is_below" "is_below" Ai0 f fd) (W:Dn K mg "is_whole" Ai7 ["thing"] f1 fd1) (T:Txt K mg):FnOk P w K mg base CX0 2 f fd ["thing","bound"] Ai4:=by
 have G:FnOk P w K mg base CX0 1 f1 fd1 ["thing"] Af9:=Ay8 W.F T
 refine F.ok scBe (λvs H Q E h=>?_) (λcdv A outer s H vs Q E hr h=>?_)
 ·obtain ⟨x,b,rfl,_⟩:=h
  rfl
 ·obtain ⟨x,b,rfl,th,q⟩:=h
  refine ⟨_,(Aa6 (Ac3 (Al5 (Ab9 G hr (by rfl) W.m W.F.kp W.b .nil Ac8 (Aa0 (pv 0) Aa4)) (An6 (Bh8 Av3 Bi0 Aa3 (pv 0) (pv 1)))))),?_⟩
  refine ⟨x,rfl,x,rfl,th,_,rfl,?_⟩
  cases th with
  | int i =>
   refine iteT ⟨_,rfl,0,i,rfl,rfl,_,rfl,?_⟩
   by_cases h0:(0:Int)<=i
   ·rw [decide_eq_true h0]
    refine iteT ⟨_,rfl,i,b,rfl,rfl,?_⟩
    simp only [Af0,decide_eq_true h0,Bool.true_and] at q
    exact q
   ·rw [decide_eq_false h0]
    refine iteF ?_
    simp only [Af0,decide_eq_false h0,Bool.false_and] at q
    exact q
  | non=>exact iteF q
  | bl b=>exact iteF q
  | str z=>exact iteF q
  | lst e=>exact iteF q
  | frz e=>exact iteF q
  | tup e=>exact iteF q
  | dic e=>exact iteF q
theorem scWd:Ab6 ["thing"] ["thing"] (Aa1 At8):=FSc
theorem Bo9 {f f1:Addr} {fd fd1:FuncData} (F:Fun K "is_word" "is_word" At8 f fd) (B:Dn K mg "is_below" Ai0 ["thing","bound"] f1 fd1) (G:FnOk P w K mg base CX0 2 f1 fd1 ["thing","bound"] Ai4) (S:Sto K mg C NP NL NW NI):FnOk P w K mg base CX0 3 f fd ["thing"] Ax8:=by
 refine F.ok scWd (λvs H Q E h=>?_) (λcdv A outer s H vs Q E hr h=>?_)
 ·obtain ⟨x,rfl,_⟩:=h
  rfl
 ·obtain ⟨x,rfl,th,q⟩:=h
  obtain ⟨t1,m1⟩:=S.words
  refine ⟨_,(Aa6 (Ac3 (Ab9 G hr (by rfl) B.m B.F.kp B.b .nil Ac8 (Aa0 (pv 0) (Aa0 (Ae0 (by rfl) m1 (show RelV (.int 281474976710656) (.int 281474976710656 t1) from ⟨_,rfl⟩)) Aa4))))),?_⟩
  exact ⟨x,rfl,x,_,rfl,th,q⟩
theorem scEi:Ab6 ["thing"] ["thing"] (Aa1 Ak8):=FSc
theorem ndEi:(Ap5 "word" ["thing"]).Nodup:=by decide +kernel
theorem Bz1:(".0":Str) ∉ (["thing"]:List Str):=by decide +kernel
def At7:Sp:=λvs H Q _=>∃ (p:Addr) (ws:List Int),vs=[.ref p]/\H p=some (.lst (ws.map V.int))/\ws.length=8/\(∀ w ∈ ws,0<=w/\w<281474976710656)/\∀ H',Same H H'->Q (.bl true) H'
theorem Bj0 {f f1:Addr} {fd fd1:FuncData} (F:Fun K "is_eight_words" "is_eight_words" Ak8 f fd) (B:Dn K mg "is_word" At8 ["thing"] f1 fd1) (G:FnOk P w K mg base CX0 3 f1 fd1 ["thing"] Ax8) (S:Sto K mg C NP NL NW NI) (T:Txt K mg):FnOk P w K mg base CX0 4 f fd ["thing"] At7:=by
 refine F.ok scEi (λvs H Q E h=>?_) (λcdv A outer s H vs Q E hr h=>?_)
 ·obtain ⟨p,ws,rfl,_⟩:=h
  rfl
 ·obtain ⟨p,ws,rfl,hp,hl,hw,q⟩:=h
  obtain ⟨t2,m2⟩:=S.cells
  refine ⟨_,(Aa6 (Ac3 (Al5 (Ac0 Af7 (by rfl) T.isi PyProof.Rows.boot_isinstance (Aa0 (pv 0) (Aa0 (Ae4 (by rfl) T.lst PyProof.Rows.boot_list (show RelV (.ty "list") (.type "list") from rfl)) Aa4))) (Al5 (Aj1 Ag8 (Ac0 Ac6 (by rfl) T.len PySem.boot_len (Aa0 (pv 0) Aa4)) (Ae0 (by rfl) m2 (show RelV (.int 8) (.int 8 t2) from ⟨_,rfl⟩)) (Ac7 _)) (An6 (Ac0 (As1 rfl) (by rfl) T.all PyProof.Rows.boot_all (Aa0 (Bd3 (cl:=[]) (tc:=tYes) (te:=As7 Ax8 [] E0 (Aj6 (tVar 0) tNil)) rfl (Aj0 (pv 0)) (closureFor_none (by decide +kernel)) (show CapOk _ _ _ _ from ⟨.inl ⟨.inr rfl,rfl⟩,.inl ⟨.inl rfl,rfl⟩,.inr (.inl ⟨by decide,by decide,by decide⟩),trivial⟩) trivial (λC s₂ H₂ fp=>.nil) (λC s₂ H₂ fp=>(Ab9 G hr (by rfl) B.m B.F.kp B.b .nil Ac8 (Aa0 (pv 0) Aa4))) ndEi (hdot:=Bz1)) Aa4))))))),?_⟩
  refine ⟨_,rfl,_,rfl,.lst hp,_,rfl,Ag3 (Ai9 hp) ?_⟩
  refine ⟨_,rfl,p,_,rfl,.inl (SqL.of hp),rfl,_,rfl,Ag3 (by show decide (V.int ((ws.map V.int).length:Int)=V.int 8)=true; rw [List.length_map,hl]; rfl) ?_⟩
  refine ⟨_,rfl,p,rfl,⟨_,SqL.of hp⟩,Ar8 (xs:=ws.map V.int) (λD i ys H'=>H D=none/\Same H H'/\ys=(List.replicate i true).map V.bl/\H' D=some (.lst ys)) ?_ ?_ ?_ ?_⟩
  ·exact λD hD=>⟨hD,Aa7 hD,rfl,upd_same⟩
  ·rintro D i ys H' _ ⟨hD,ss,rfl,hy⟩
   exact ⟨SqL.of (ss _ _ hp),hy⟩
  ·rintro D i x ys H' hi ⟨hD,ss,rfl,hy⟩
   rw [List.getElem?_map] at hi
   cases e:ws[i]? with
   | none=>rw [e] at hi; cases hi
   | some z =>
    rw [e] at hi
    have hi':V.int z=x:=Option.some.inj hi
    subst hi'
    obtain ⟨z0,z1⟩:=hw z (List.mem_of_getElem? e)
    have hil:i<8:=by rw [<- hl]; exact (List.getElem?_eq_some_iff.mp e).1
    refine iteT ⟨_,rfl,_,rfl,.int z,?_⟩
    rw [Ah9 z0 z1]
    refine ⟨hy,?_,hD,Same.set ss hD,?_,upd_same⟩
    ·rw [List.length_map,List.length_replicate]
     exact Nat.lt_of_lt_of_le hil (by decide)
    ·rw [List.replicate_succ',List.map_append]
     rfl
  ·rintro D ys H' ⟨hD,ss,rfl,hy⟩
   refine ⟨D,_,rfl,hy,?_⟩
   rw [show ((List.replicate (ws.map V.int).length true).all id)=true by simp]
   exact q H' ss
theorem scIm:Ab6 ["pages","page"] ["pages"] (Aa1 Ak7):=FSc
def At6:Sp:=λvs H Q _=>∃ (p:Addr) (ps:Pgs),vs=[.ref p]/\Pg H p ps/\Good ps/\1<=ps.length/\ps.length<=24/\∀ H',Same H H'->Q .non H'
theorem Bi9 {f f1:Addr} {fd fd1:FuncData} (F:Fun K "check_image" "check_image" Ak7 f fd) (B:Dn K mg "is_eight_words" Ak8 ["thing"] f1 fd1) (G:FnOk P w K mg base CX0 4 f1 fd1 ["thing"] At7) (S:Sto K mg C NP NL NW NI) (T:Txt K mg):FnOk P w K mg base (CXr P w) 5 f fd ["pages"] At6:=by
 refine F.okR scIm (λvs H Q E h=>?_) (λcdv A outer s H vs Q E hr h=>?_)
 ·obtain ⟨p,ps,rfl,_⟩:=h
  rfl
 ·obtain ⟨p,ps,rfl,g,hg,l1,l2,q⟩:=h
  obtain ⟨t3,m3⟩:=S.most
  refine ⟨_,(Aa5 (Ae5 (PW.pt (Ag2 (Ad0 (Ad3 (Ac0 Af7 (by rfl) T.isi PyProof.Rows.boot_isinstance (Aa0 (pv 0) (Aa0 (Ae4 (by rfl) T.lst PyProof.Rows.boot_list (show RelV (.ty "list") (.type "list") from rfl)) Aa4))))) (Ag1 (Ad0 (Ao8 Av3 Av3 Aa3 (Ac0 Ac6 (by rfl) T.len PySem.boot_len (Aa0 (pv 0) Aa4)) (Ae0 (by rfl) m3 (show RelV (.int 24) (.int 24 t3) from ⟨_,rfl⟩))))))) (Aa6 (Ay2 S.xi S.ni Bc8 rfl (Aa0 Ad7 Aa4))) Ac4) (Aa6 (Aq2 Az7 rfl (Aj0 (pv 0)) (Ae7 (i:=1) scIm.nd rfl (Or.inl rfl)) (Aa6 (Ae5 (PW.pt (Aq1 (Ac2 Bo5 (pv 1) Aq3 (Ac7 _)) (Al2 (Ad0 (Ad3 (Ab9 G hr (by rfl) B.m B.F.kp B.b .nil Ac8 (Aa0 (pv 1) Aa4))))))) (Aa6 (Ay2 S.xi S.ni Bc8 rfl (Aa0 Ad7 Aa4))) Ac4))))),?_⟩
  refine ⟨_,rfl,_,rfl,.lst g.top,_,rfl,Ab7 (by show (!Am2 H (.ref p))=false; rw [Ai9 g.top]; rfl) ?_⟩
  refine ⟨_,rfl,p,_,rfl,.inl (SqL.of g.top),1,_,rfl,rfl,_,rfl,Ag3 (by show decide ((1:Int)<=((ps.map pgV).length:Int))=true; rw [List.length_map]; exact decide_eq_true (by omega)) ?_⟩
  refine ⟨_,24,rfl,rfl,_,rfl,Ab7 (by show (!decide ((((ps.map pgV).length:Int))<=24))=false; rw [List.length_map,decide_eq_true (by omega)]; rfl) ?_⟩
  refine ⟨_,rfl,p,rfl,⟨_,SqL.of g.top⟩,Aj9 (K:=K) (a:=p) (xs:=ps.map pgV) (λi σ H'=>(∃ v,σ=[some (.ref p),v])/\Same H H') ⟨⟨_,rfl⟩,Same.refl _⟩ (λi σ H' _ ⟨_,ss⟩=>SqL.of (ss _ _ g.top)) ?_ ?_⟩
  ·rintro i x σ H' hi ⟨⟨v,rfl⟩,ss⟩
   rw [List.getElem?_map] at hi
   cases e:ps[i]? with
   | none=>rw [e] at hi; cases hi
   | some o =>
    rw [e] at hi
    have hi':pgV o=x:=Option.some.inj hi
    subst hi'
    cases o with
    | none =>
     refine ⟨_,rfl,rfl,_,rfl,iteF ?_⟩
     refine iteF ?_
     exact ⟨⟨_,rfl⟩,ss⟩
    | some z =>
     obtain ⟨a,ws⟩:=z
     refine ⟨_,rfl,rfl,_,rfl,iteT ?_⟩
     refine ⟨_,rfl,a,ws,rfl,ss _ _ (g.each i a ws e).1,(hg i a ws e).1,(hg i a ws e).2,λH2 s2=>⟨_,rfl,iteF ?_⟩⟩
     exact ⟨⟨_,rfl⟩,ss.trans s2⟩
  ·rintro σ H' ⟨_,ss⟩
   exact q H' ss
theorem scIn:Ab6 ["self","pages"] ["self","pages"] (Aa1 Az5):=FSc
theorem ndIn:(Ap5 "page" ["self","pages"]).Nodup:=by decide +kernel
theorem Bz0:(".0":Str) ∉ (["self","pages"]:List Str):=by decide +kernel
def Bc0 (C:Addr):Sp:=λvs H Q _=>∃ (m dx p:Addr) (ps:Pgs),vs=[.ref m,.ref p]/\H m=some (.ins C dx [])/\Pg H p ps/\Good ps/\1<=ps.length/\ps.length<=24 /\
 ∀ (h:Addr) (H':Hp) (qs:Pgs),(∀ b o,b≠m->H b=some o->H' b=some o)->Mem C H' m h qs->cont qs=cont ps->(∀ b,At h qs b->H b=none)->Q .non H'
theorem Bf4 {ps qs:Pgs} (h:cont qs=cont ps) (g:Good ps):Good qs:=λi p ws e=>by
 obtain ⟨q,f⟩:=Bg1 h e
 exact g i q ws f
theorem Bp4 {f f1:Addr} {fd fd1:FuncData} (F:Fun K "__init__" "Memory.__init__" Az5 f fd) (B:Dn K mg "check_image" Ak7 ["pages"] f1 fd1) (G:FnOk P w K mg base (CXr P w) 5 f1 fd1 ["pages"] At6) (S:Sto K mg C NP NL NW NI) (T:Txt K mg):FnOk P w K mg base (CXr P w) 6 f fd ["self","pages"] (Bc0 C):=by
 refine F.okR scIn (λvs H Q E h=>?_) (λcdv A outer s H vs Q E hr h=>?_)
 ·obtain ⟨m,dx,p,ps,rfl,_⟩:=h
  rfl
 ·obtain ⟨m,dx,p,ps,rfl,hm,g,hg,l1,l2,q⟩:=h
  refine ⟨_,(Aa5 (Af3 (Ab9 G hr (by rfl) B.m B.F.kp B.b .nil By3 (Aa0 (pv 1) Aa4))) (Aa6 (Ae9 (pv 0) (Bd3 (cl:=[]) (tc:=tYes) (te:=Bs2 K) rfl (Aj0 (pv 1)) (closureFor_none (by decide +kernel)) (show CapOk _ _ _ _ from ⟨.inl ⟨.inr rfl,rfl⟩,.inl ⟨.inl rfl,rfl⟩,.inr (.inl ⟨by decide,by decide,by decide⟩),trivial⟩) trivial (λC s₂ H₂ fp=>.nil) (λC s₂ H₂ fp=>(Aj8 (Ac2 Bd8 (pv 0) Aq3 (Ac7 _)) Aq3 (Ae6 Ad1 (by rfl) T.lst PyProof.Rows.boot_list (Aa0 (pv 0) Aa4)))) ndIn (hdot:=Bz0)) rfl))),?_⟩
  refine ⟨_,rfl,p,ps,rfl,g,hg,l1,l2,λH1 s1=>?_⟩
  refine ⟨_,rfl,p,rfl,⟨_,SqL.of (s1 _ _ g.top)⟩,Bb0 (g.same s1) (by omega) λD H2 qs s2 g2 hc hf=>?_⟩
  have s12:=s1.trans s2
  have hm2:=s12 _ _ hm
  have nm:∀ b,At D qs b->b≠m:=λb hb z=>by
   have:=s1.free (hf b hb)
   rw [z,hm] at this
   cases this
  refine ⟨_,rfl,m,C,dx,_,rfl,hm2,S.cl,S.nh,(by show 0<1000; decide),?_⟩
  refine q D _ qs (λb o hb e=>by rw [Ab0 hb]; exact s12 _ _ e) ⟨⟨dx,upd_same⟩,g2.keep λb hb=>Ab0 (nm b hb),Bf4 hc hg,?_⟩ hc λb hb=>s1.free (hf b hb)
  have:=Bk2 hc
  omega
end
end K33
end
section
namespace K33
open PySem L2
structure Both (C:Addr) (H:Hp) (m h D:Addr) (ps qs:Pgs):Prop where
 M:Mem C H m h ps
 g:Pg H D qs
 c:cont ps=cont qs
 ap:∀ b,At h ps b->¬ At D qs b
theorem Bt9 {P:Program} {w:World} {X:Cx}:Ah1 (CXr P w) X E0:=by
 rintro _ _ _ _ _ _ _ ⟨_,_,_,_,_,_,_,_,_,_,_,_,_,_,_,q⟩
 exact q.elim
end K33
end
section
namespace K33
open PySem L2
abbrev An2:Stmt:=Aa9 (top 39) 0
abbrev Rs:=List (Int×Int×Int)
inductive Rws (H:Hp):List (Key×V)->Rs->Prop
 | nil:Rws H [] []
 | cons {k p r:Int} {t:Addr} {kvs:List (Key×V)} {rs:Rs}:H t=some (.tup [.int p,.int r])->Rws H kvs rs->Rws H ((Sum.inl k,.ref t)::kvs) ((k,p,r)::rs)
theorem Rws.imp {H H':Hp} (f:∀ t xs,H t=some (.tup xs)->H' t=some (.tup xs)) {kvs:List (Key×V)} {rs:Rs} (h:Rws H kvs rs):Rws H' kvs rs:=by
 induction h with
 | nil=>exact .nil
 | cons e _ ih=>exact .cons (f _ _ e) ih
structure Shf (K:PySem.W.Frag) (mg:Str->Option Value) (C:Addr):Prop where
 cl:Cls K C
 nm:NoAttr K C "most"
 ns:NoAttr K C "seats"
 seats:∃ t,mg "SEATS"=some (.int 12 t)
structure FsOk (fs:List (Str×V)) (n:Int) (q:Addr):Prop where
 most:fs.lookup ("most":Str)=some (.int n)
 seats:fs.lookup ("seats":Str)=some (.ref q)
 no:∀ m:Str,¬ m = "most"->¬ m = "seats"->fs.lookup m=none
 few:fs.length<=100
theorem Ag0 (f:Str) (v:V):∀ {fs:List (Str×V)},(fs.lookup f).isSome=true->(putF f v fs).length=fs.length
 | [],h=>by simp at h
 | (g,x)::r,h=>by
  show (if g=f then (g,v)::r else (g,x)::putF f v r).length=_
  by_cases e:g=f
  ·rw [if_pos e]
   rfl
  ·rw [if_neg e,List.length_cons,List.length_cons,Ag0 f v (fs:=r)]
   rw [List.lookup_cons,beq_eq_false_iff_ne.mpr (Ne.symm e)] at h
   exact h
structure Sh (C:Addr) (H:Hp) (m q:Addr) (n:Int) (rs:Rs):Prop where
 ob:∃ dx fs,H m=some (.ins C dx fs)/\FsOk fs n q
 se:∃ kvs,H q=some (.dK kvs)/\Rws H kvs rs
 nd:(rs.map (·.1)).Nodup
 ln:rs.length<=13
 n1:1<=n
 n2:n<=12
theorem Sh.same {C:Addr} {H H':Hp} {m q:Addr} {n:Int} {rs:Rs} (S:Sh C H m q n rs) (s:Same H H'):Sh C H' m q n rs:=by
 obtain ⟨dx,fs,e,f⟩:=S.ob
 obtain ⟨kvs,e2,r⟩:=S.se
 exact ⟨⟨dx,fs,s _ _ e,f⟩,⟨kvs,s _ _ e2,r.imp λt xs z=>s _ _ z⟩,S.nd,S.ln,S.n1,S.n2⟩
def But (a:Addr) (H H':Hp):Prop:=∀ b o,b≠a->H b=some o->H' b=some o
theorem But.upd {a:Addr} {H:Hp} {o:HO}:But a H (upd H a o):=λb u h e=>by rw [Ab0 h]; exact e
theorem Sh.but {C a:Addr} {H H':Hp} {m q:Addr} {n:Int} {rs:Rs} (S:Sh C H m q n rs) (s:But a H H') (h1:m≠a) (h2:q≠a) (h3:∀ xs,H a≠some (.tup xs)):Sh C H' m q n rs:=by
 obtain ⟨dx,fs,e,f⟩:=S.ob
 obtain ⟨kvs,e2,r⟩:=S.se
 exact ⟨⟨dx,fs,s _ _ h1 e,f⟩,⟨kvs,s _ _ h2 e2,r.imp λt xs z=>s _ _ (λy=>h3 xs (y ▸ z)) z⟩,S.nd,S.ln,S.n1,S.n2⟩
inductive Trs (H:Hp):List V->Rs->Prop
 | nil:Trs H [] []
 | cons {k p r:Int} {t:Addr} {ys:List V} {rs:Rs}:H t=some (.tup [.int k,.int p,.int r])->Trs H ys rs->Trs H (.ref t::ys) ((k,p,r)::rs)
structure TL (H:Hp) (l:Addr) (rs:Rs):Prop where
 ls:∃ ys,H l=some (.lst ys)/\Trs H ys rs
def At1 (C:Addr):Sp:=λvs H Q _=>∃ (m dx:Addr) (n:Int),vs=[.ref m,.int n]/\H m=some (.ins C dx [])/\1<=n/\n<=12/\∀ (q:Addr) (H':Hp),But m H H'->H q=none->Sh C H' m q n []->Q .non H'
section
variable {P : Program} {w : World} {K : PySem.W.Frag} {mg : Str → Option Value} {base : Heap} {C : Addr}
theorem Bx5:Ab6 ["self","most"] ["self","most"] (Aa1 An2):=FSc
theorem Bi5 {f f1:Addr} {fd fd1:FuncData} (F:Fun K "__init__" "Shelf.__init__" An2 f fd) (D1:Dn K mg "is_whole" Ai7 ["thing"] f1 fd1) (G1:FnOk P w K mg base CX0 1 f1 fd1 ["thing"] Af9) (S:Shf K mg C):FnOk P w K mg base CX0 2 f fd ["self","most"] (At1 C):=by
 obtain ⟨t1,m1⟩:=S.seats
 refine F.ok Bx5 (λvs H Q E h=>?_) (λcdv A outer s H vs Q E hr h=>?_)
 ·obtain ⟨m,dx,n,rfl,_⟩:=h
  rfl
 ·obtain ⟨m,dx,n,rfl,hm,h1,h2,q⟩:=h
  refine ⟨_,Aa5 (Ae5 (PW.pt (Ag2 (Ad0 (Ad3 (Ab9 G1 hr (by rfl) D1.m D1.F.kp D1.b .nil Ac8 (Aa0 (pv 1) Aa4)))) (Ag1 (Ad0 (Ao8 Av3 Av3 Aa3 (pv 1) (Ae0 (by rfl) m1 (show RelV (.int 12) (.int 12 t1) from ⟨_,rfl⟩))))))) Bc9 Ac4) (Aa5 (Ae9 (pv 0) (pv 1) rfl) (Aa6 (Ae9 (pv 0) Bh5 rfl))),?_⟩
  refine ⟨_,rfl,.int n,rfl,.int n,_,rfl,iteF ?_⟩
  refine ⟨_,rfl,1,n,rfl,rfl,_,rfl,?_⟩
  rw [decide_eq_true h1]
  refine iteT ⟨n,12,rfl,rfl,_,rfl,?_⟩
  rw [decide_eq_true h2]
  refine iteF ?_
  refine ⟨_,rfl,_,rfl,m,C,dx,_,rfl,hm,S.cl,S.nm,(by show 0<1000; decide),?_⟩
  intro p hp
  have np:m≠p:=Aa8 upd_same hp
  refine ⟨_,rfl,m,C,dx,_,rfl,(by rw [Ab0 np]; exact upd_same),S.cl,S.ns,(by show 1<1000; decide),?_⟩
  have hp0:H p=none:=by
   rw [Ab0 np.symm] at hp
   exact hp
  refine q p _ (λb o hb e=>?_) hp0 ⟨⟨dx,_,upd_same,⟨?_,?_,λg z1 z2=>?_,?_⟩⟩,⟨[],?_,.nil⟩,List.nodup_nil,by decide,h1,h2⟩
  ·rw [Ab0 hb,Ab0 (Aa8 e hp0),Ab0 hb]
   exact e
  ·rw [Aa2,if_neg (by decide +kernel),Aa2,if_pos rfl]
  ·rw [Aa2,if_pos rfl]
  ·rw [Aa2,if_neg z2,Aa2,if_neg z1]
   rfl
  ·exact Nat.le_trans (Ac1 _ _ _) (Nat.le_trans (Nat.succ_le_succ (Ac1 _ _ _)) (by decide))
  ·rw [Ab0 np.symm]
   exact upd_same
end
end K33
end
section
namespace K33
open PySem L2
abbrev An3:Stmt:=Aa9 (top 64) 0
abbrev An1:Stmt:=Aa9 (top 63) 0
structure Wf (fs:List (Str×V)) (m r aw:Addr) (b:Int):Prop where
 mem:fs.lookup ("memory":Str)=some (.ref m)
 bas:fs.lookup ("base":Str)=some (.int b)
 rck:fs.lookup ("rack":Str)=some (.ref r)
 ans:fs.lookup ("answers":Str)=some (.ref aw)
 no:∀ n:Str,¬ n = "memory"->¬ n = "base"->¬ n = "rack"->¬ n = "answers"->fs.lookup n=none
 len:fs.length<=8
theorem Wf.nq {fs:List (Str×V)} {m r aw:Addr} {b:Int} (wf:Wf fs m r aw b) (n:Str) (h1:¬ n = "memory":=by decide +kernel) (h2:¬ n = "base":=by decide +kernel) (h3:¬ n = "rack":=by decide +kernel) (h4:¬ n = "answers":=by decide +kernel):fs.lookup n=none:=wf.no n h1 h2 h3 h4
structure Plc (K:PySem.W.Frag) (PL:Addr):Prop where
 cl:Cls K PL
 nm:NoAttr K PL "memory"
 nb:NoAttr K PL "base"
 nr:NoAttr K PL "rack"
 na:NoAttr K PL "answers"
structure Way (C SC PL:Addr) (H:Hp) (a m h r q aw:Addr) (ps:Pgs) (n:Int) (rs:Rs) (bs:List Bool) (b:Int):Prop where
 ob:∃ dx fs,H a=some (.ins PL dx fs)/\Wf fs m r aw b
 M:Mem C H m h ps
 S:Sh SC H r q n rs
 an:H aw=some (.lst (bs.map V.bl))
 nd:¬ At h ps aw
def As8 (SC PL:Addr):Sp:=λvs H Q _=>∃ (a dx:Addr) (fs:List (Str×V)) (n:Int),vs=[.ref a,.int n]/\H a=some (.ins PL dx fs)/\fs.length<900/\1<=n/\n<=12/\∀ (r q:Addr) (H':Hp),But a H H'->H r=none->H q=none->H' a=some (.ins PL dx (putF "rack" (.ref r) (putF "base" (.int 0) fs)))->Sh SC H' r q n []->Q .non H'
def At2 (C SC PL:Addr):Sp:=λvs H Q _=>∃ (a dx p l:Addr) (ps:Pgs) (n:Int) (bs:List Bool),vs=[.ref a,.ref p,.int n,.ref l]/\H a=some (.ins PL dx [])/\Pg H p ps/\Good ps/\1<=ps.length/\ps.length<=24/\1<=n/\n<=12/\H l=some (.lst (bs.map V.bl)) /\
 ∀ (m h r q aw:Addr) (H':Hp) (qs:Pgs),But a H H'->Way C SC PL H' a m h r q aw qs n [] bs 0->cont qs=cont ps->(∀ b,(b=m\/b=r\/b=q\/b=aw\/At h qs b)->H b=none)->Q .non H'
section
variable {P : Program} {w : World} {K : PySem.W.Frag} {mg : Str → Option Value} {base : Heap} {C NP NL NW NI SC PL WC : Addr}
theorem Bn2:Ab6 ["self","most"] ["self","most"] (Aa1 An1):=FSc
theorem Bi2 {f f1:Addr} {fd fd1:FuncData} (F:Fun K "__init__" "Ways.__init__" An1 f fd) (MK:Mk K SC f1) (mS:mg "Shelf"=some (.ref SC)) (BI:Binds K fd1 ["self","most"] []) (GI:FnOk P w K mg base CX0 2 f1 fd1 ["self","most"] (At1 SC)) (PC:Plc K PL):FnOk P w K mg base CX0 4 f fd ["self","most"] (As8 SC PL):=by
 refine F.ok Bn2 (λvs H Q E h'=>?_) (λcdv A outer s H vs Q E hr h'=>?_)
 ·obtain ⟨a,dx,fs,n,rfl,_⟩:=h'
  rfl
 ·obtain ⟨a,dx,fs,n,rfl,ha,hl,n1,n2,q0⟩:=h'
  refine ⟨_,(Aa5 (Ae9 (pv 0) Aa3 rfl) (Aa6 (Ae9 (pv 0) (Ap0 MK GI hr (by rfl) mS BI .nil Ac8 (Aa0 (pv 1) Aa4)) rfl))),?_⟩
  refine ⟨_,rfl,a,PL,dx,fs,rfl,ha,PC.cl,PC.nb,(by omega),?_⟩
  have za:upd H a (.ins PL dx (putF "base" (.int 0) fs)) a=some (.ins PL dx (putF "base" (.int 0) fs)):=upd_same
  have ka:∀ b o,H b=some o->b≠a->upd H a (.ins PL dx (putF "base" (.int 0) fs)) b=some o:=λb o e z=>by rw [Ab0 z]; exact e
  have fa:∀ b,upd H a (.ins PL dx (putF "base" (.int 0) fs)) b=none->b≠a/\H b=none:=λb e=>by
   have z:b≠a:=λz=>by rw [z,upd_same] at e; cases e
   rw [Ab0 z] at e
   exact ⟨z,e⟩
  generalize upd H a (.ins PL dx (putF "base" (.int 0) fs))=H1 at *
  refine ⟨_,rfl,λr dr hr0 hdr ner=>?_⟩
  have s0:Same H1 (upd (upd H1 dr (.own r)) r (.ins SC dr [])):=(Aa7 hdr).trans (Aa7 (by rw [Ab0 ner.symm]; exact hr0))
  refine ⟨r,dr,n,rfl,upd_same,n1,n2,λq H2 b2 fq sh2=>⟨rfl,?_⟩⟩
  obtain ⟨ra,fr⟩:=fa r hr0
  obtain ⟨qa,fq⟩:=fa q (s0.free fq)
  have ha2:=b2 a _ ra.symm (s0 _ _ za)
  refine ⟨_,rfl,a,PL,dx,_,rfl,ha2,PC.cl,PC.nr,(by have:=Ac1 "base" (.int 0) fs; omega),?_⟩
  exact q0 r q _ (λb o z e=>by rw [Ab0 z]; exact b2 b o (Aa8 e fr) (s0 _ _ (ka b o e z))) fr fq upd_same (sh2.but But.upd ra qa λxs z=>by rw [ha2] at z; cases z)
theorem Bx7:Ab6 ["self","pages","most","words"] ["self","pages","most","words"] (Aa1 An3):=FSc
theorem Be0 {f f1 f2:Addr} {fd fd1 fd2:FuncData} (F:Fun K "__init__" "Plain.__init__" An3 f fd) (MK:Mk K C f1) (mM:mg "Memory"=some (.ref C)) (BI:Binds K fd1 ["self","pages"] []) (GI:FnOk P w K mg base (CXr P w) 6 f1 fd1 ["self","pages"] (Bc0 C)) (CM:Bw8 K WC "__init__" f2) (mW:mg "Ways"=some (.ref WC)) (BW:Binds K fd2 ["self","most"] []) (GW:FnOk P w K mg base CX0 4 f2 fd2 ["self","most"] (As8 SC PL)) (PC:Plc K PL) (T:Txt K mg):FnOk P w K mg base CX0 8 f fd ["self","pages","most","words"] (At2 C SC PL):=by
 refine F.ok Bx7 (λvs H Q E h'=>?_) (λcdv A outer s H vs Q E hr h'=>?_)
 ·obtain ⟨a,dx,p,l,ps,n,bs,rfl,_⟩:=h'
  rfl
 ·obtain ⟨a,dx,p,l,ps,n,bs,rfl,ha,gp,hg,l1,l2,n1,n2,hl,q0⟩:=h'
  have hr4:Room 4 _:=hr.mono (by decide)
  refine ⟨_,(Aa5 (Ae9 (pv 0) (Ap0 MK GI hr (by rfl) mM BI .nil Bt9 (Aa0 (pv 1) Aa4)) rfl) (Aa5 (Af3 (Bh7 GW hr4 (by rfl) mW CM BW .nil Ac8 (Aa0 (pv 0) (Aa0 (pv 2) Aa4)))) (Aa6 (Ae9 (pv 0) (Ae6 Ad1 (by rfl) T.lst PyProof.Rows.boot_list (Aa0 (pv 3) Aa4)) rfl)))),?_⟩
  refine ⟨_,rfl,λm dm hm0 hdm nem=>?_⟩
  have s0:Same H (upd (upd H dm (.own m)) m (.ins C dm [])):=(Aa7 hdm).trans (Aa7 (by rw [Ab0 nem.symm]; exact hm0))
  refine ⟨m,dm,p,ps,rfl,upd_same,gp.same s0,hg,l1,l2,λh H2 qs b2 M2 hc hf=>⟨rfl,?_⟩⟩
  have k2:∀ b o,H b=some o->H2 b=some o:=λb o e=>b2 b o (Aa8 e hm0) (s0 _ _ e)
  have f2:∀ b,H2 b=none->H b=none:=λb e=>by
   cases hb:H b with
   | none=>rfl
   | some o=>rw [k2 b o hb] at e; cases e
  have am:m≠a:=(Aa8 ha hm0).symm
  have ah:¬ At h qs a:=λz=>by have:=s0.free (hf a z); rw [ha] at this; cases this
  refine ⟨_,rfl,a,PL,dx,_,rfl,k2 _ _ ha,PC.cl,PC.nm,(by show 0<1000; decide),?_⟩
  have za:upd H2 a (.ins PL dx (putF "memory" (.ref m) [])) a=some (.ins PL dx (putF "memory" (.ref m) [])):=upd_same
  have ka:∀ b o,H2 b=some o->b≠a->upd H2 a (.ins PL dx (putF "memory" (.ref m) [])) b=some o:=λb o e z=>by rw [Ab0 z]; exact e
  have fa:∀ b,upd H2 a (.ins PL dx (putF "memory" (.ref m) [])) b=none->b≠a/\H2 b=none:=λb e=>by
   have z:b≠a:=λz=>by rw [z,upd_same] at e; cases e
   rw [Ab0 z] at e
   exact ⟨z,e⟩
  generalize upd H2 a (.ins PL dx (putF "memory" (.ref m) []))=H3 at *
  have f1l:(putF "memory" (.ref m) ([]:List (Str×V))).length<=1:=Ac1 _ _ _
  refine ⟨_,rfl,_,rfl,a,dx,_,n,rfl,za,(by omega),n1,n2,λr q H4 b4 fr fq ha4 sh4=>?_⟩
  obtain ⟨ra,fr2⟩:=fa r fr
  obtain ⟨qa,fq2⟩:=fa q fq
  have k4:∀ b o,H2 b=some o->b≠a->H4 b=some o:=λb o e z=>b4 b o z (ka b o e z)
  have la:l≠a:=Ae2 hl ha nofun
  refine ⟨_,rfl,l,_,rfl,.inl (SqL.of (k4 l _ (k2 _ _ hl) la)),λaw haw=>?_⟩
  have s5:=Aa7 (o:=.lst (bs.map V.bl)) haw
  have z5:upd H4 aw (.lst (bs.map V.bl)) aw=some (.lst (bs.map V.bl)):=upd_same
  generalize upd H4 aw (.lst (bs.map V.bl))=H5 at *
  have aaw:aw≠a:=(Aa8 ha4 haw).symm
  have faw:H aw=none:=by
   cases hb:H aw with
   | none=>rfl
   | some o=>rw [k4 aw o (k2 _ _ hb) aaw] at haw; cases haw
  have f2l:=Ac1 "base" (.int 0) (putF "memory" (.ref m) ([]:List (Str×V)))
  have f3l:=Ac1 "rack" (.ref r) (putF "base" (.int 0) (putF "memory" (.ref m) ([]:List (Str×V))))
  refine ⟨_,rfl,a,PL,dx,_,rfl,s5 _ _ ha4,PC.cl,PC.na,(by omega),?_⟩
  have kM:∀ b o,H2 b=some o->b≠a->upd H5 a (.ins PL dx (putF "answers" (.ref aw) (putF "rack" (.ref r) (putF "base" (.int 0) (putF "memory" (.ref m) []))))) b=some o:=λb o e z=>by rw [Ab0 z]; exact s5 _ _ (k4 b o e z)
  obtain ⟨dm2,em2⟩:=M2.ob
  refine q0 m h r q aw _ qs (λb o z e=>kM b o (k2 _ _ e) z) ⟨⟨dx,_,upd_same,⟨?_,?_,?_,?_,λg z1 z2 z3 z4=>?_,?_⟩⟩,⟨⟨dm2,kM m _ em2 am⟩,M2.pg.keep λb hb=>?_,M2.good,M2.len⟩,(sh4.same s5).but But.upd ra qa (λxs z=>by rw [s5 _ _ ha4] at z; cases z),by rw [Ab0 aaw]; exact z5,λz=>?_⟩ hc λb hb=>?_
  ·rw [Aa2,if_neg (by decide +kernel),Aa2,if_neg (by decide +kernel),Aa2,if_neg (by decide +kernel),Aa2,if_pos rfl]
  ·rw [Aa2,if_neg (by decide +kernel),Aa2,if_neg (by decide +kernel),Aa2,if_pos rfl]
  ·rw [Aa2,if_neg (by decide +kernel),Aa2,if_pos rfl]
  ·rw [Aa2,if_pos rfl]
  ·rw [Aa2,if_neg z4,Aa2,if_neg z3,Aa2,if_neg z2,Aa2,if_neg z1]
   rfl
  ·have f4l:=Ac1 "answers" (.ref aw) (putF "rack" (.ref r) (putF "base" (.int 0) (putF "memory" (.ref m) ([]:List (Str×V)))))
   omega
  ·obtain ⟨u,y⟩:=M2.pg.at hb
   rw [y]
   exact kM b u y λz=>ah (z ▸ hb)
  ·obtain ⟨u,y⟩:=M2.pg.at z
   rw [k4 aw u y aaw] at haw
   cases haw
  ·rcases hb with rfl | rfl | rfl | rfl | hb
   ·exact hm0
   ·exact f2 _ fr2
   ·exact f2 _ fq2
   ·exact faw
   ·exact s0.free (hf b hb)
end
end K33
end
section
namespace L2
open PySem PySem.Spec PyProof.Rows
def isS:V->Bool
 | .str _=>true
 | _=>false
def Ag4 (H:Hp):V->Bool
 | .ref a=>match H a with | some (.tup _)=>true | _=>false
 | _=>false
section
variable {K : PySem.W.Frag}
theorem Aw1:PySem.W.kitOne K (.type "NoneType") (.type "str")=some false:=by kernel_rfl
theorem Ba5:PySem.W.kitOne K (.type "bool") (.type "str")=some false:=by kernel_rfl
theorem Aw2:PySem.W.kitOne K (.type "int") (.type "str")=some false:=by kernel_rfl
theorem Aw0:PySem.W.kitOne K (.type "str") (.type "str")=some true:=by kernel_rfl
theorem Al8:PySem.W.kitOne K (.type "list") (.type "str")=some false:=by kernel_rfl
theorem Av9:PySem.W.kitOne K (.type "tuple") (.type "str")=some false:=by kernel_rfl
theorem Aw3:PySem.W.kitOne K (.type "dict") (.type "str")=some false:=by kernel_rfl
theorem Av6:PySem.W.kitOne K (.type "NoneType") (.type "tuple")=some false:=by kernel_rfl
theorem Ba4:PySem.W.kitOne K (.type "bool") (.type "tuple")=some false:=by kernel_rfl
theorem Av5:PySem.W.kitOne K (.type "str") (.type "tuple")=some false:=by kernel_rfl
theorem Al7:PySem.W.kitOne K (.type "list") (.type "tuple")=some false:=by kernel_rfl
theorem Av8:PySem.W.kitOne K (.type "dict") (.type "tuple")=some false:=by kernel_rfl
end
section
variable {X : Cx}
theorem Ao0:Am9 X (.builtin "isinstance") (λxs H Q=>∃ x,xs=[x,.ty "str"]/\Th H x/\Q (.bl (isS x)) H):=by
 intro pins s σ H xs us Q I r h
 obtain ⟨x,rfl,th,q⟩:=h
 obtain ⟨u,v,rfl,rx,rt⟩:=r.two
 obtain rfl:v=PySem.Value.type "str":=rt
 cases th with
 | non=>exact Ab2 I rx .non Aw1 λtk=>⟨.bl _,H,I.tok tk,rfl,q⟩
 | bl b=>exact Ab2 I rx (.bl b) Ba5 λtk=>⟨.bl _,H,I.tok tk,rfl,q⟩
 | int i=>exact Ab2 I rx (.int i) Aw2 λtk=>⟨.bl _,H,I.tok tk,rfl,q⟩
 | str z=>exact Ab2 I rx (.str z) Aw0 λtk=>⟨.bl _,H,I.tok tk,rfl,q⟩
 | lst e=>exact Ab2 I rx (.lst e) Al8 λtk=>⟨.bl _,H,I.tok tk,rfl,q⟩
 | frz e=>exact Ab2 I rx (.frz e) Al8 λtk=>⟨.bl _,H,I.tok tk,rfl,q⟩
 | tup e=>exact Ab2 I rx (.tup e) Av9 λtk=>⟨.bl _,H,I.tok tk,rfl,q⟩
 | dic e=>exact Ab2 I rx (.dK e) Aw3 λtk=>⟨.bl _,H,I.tok tk,rfl,q⟩
theorem Ag9:Am9 X (.builtin "isinstance") (λxs H Q=>∃ x,xs=[x,.ty "tuple"]/\Th H x/\Q (.bl (Ag4 H x)) H):=by
 intro pins s σ H xs us Q I r h
 obtain ⟨x,rfl,th,q⟩:=h
 obtain ⟨u,v,rfl,rx,rt⟩:=r.two
 obtain rfl:v=PySem.Value.type "tuple":=rt
 cases th with
 | non=>exact Ab2 I rx .non Av6 λtk=>⟨.bl _,H,I.tok tk,rfl,q⟩
 | bl b=>exact Ab2 I rx (.bl b) Ba4 λtk=>⟨.bl _,H,I.tok tk,rfl,q⟩
 | int i=>exact Ab2 I rx (.int i) Av7 λtk=>⟨.bl _,H,I.tok tk,rfl,q⟩
 | str z=>exact Ab2 I rx (.str z) Av5 λtk=>⟨.bl _,H,I.tok tk,rfl,q⟩
 | lst e=>exact Ab2 I rx (.lst e) Al7 λtk=>⟨.bl _,H,I.tok tk,rfl,by simp only [Ag4,e] at q; exact q⟩
 | frz e=>exact Ab2 I rx (.frz e) Al7 λtk=>⟨.bl _,H,I.tok tk,rfl,by simp only [Ag4,e] at q; exact q⟩
 | tup e=>exact Ab2 I rx (.tup e) Av4 λtk=>⟨.bl _,H,I.tok tk,rfl,by simp only [Ag4,e] at q; exact q⟩
 | dic e=>exact Ab2 I rx (.dK e) Av8 λtk=>⟨.bl _,H,I.tok tk,rfl,by simp only [Ag4,e] at q; exact q⟩
end
end L2
end
section
namespace L2
open PySem PySem.Spec PyProof.Rows
section
variable {X : Cx} {e : Expr} {te : TEX} {pos : Pos}
def Bw9 (i:Nat) (te:TEX):TSX:=λD E σ H=>te σ H (λv H1=>D.nx (σ.set i (some v)) H1) (E σ)
theorem Bo0 {i:Nat} {x:Str} {pos':Pos} (hN:X.N.Nodup) (hi:X.N[i]?=some x) (hx:Loc X.env.scope x) (he:PEX X e te) (hs:swapsWith e (some (.Name x pos')) pos.line X.env=pure false:=by rfl) (hf:X.fn x=true\/X.env.scope.names.lookup x=some .local:=by first | exact .inl rfl | exact .inr rfl | assumption):PSX X [.Assign [.Name x pos'] e pos] (Bw9 i te):=by
 intro pins s σ H D E I h
 refine wpAny_execs_cons ?_
 refine wpAny_Assign_Name (wpAny_mono (he pins s σ H _ (E σ) I h) (λv s1 q=>?_) λx s1 q=>⟨σ,q⟩) hs
 obtain ⟨y,H1,I1,r1,q1⟩:=q
 exact Ah6 I1 hN hi hx r1 (λs2 I2=>wpAny_execs_nil (show SP X pins D .next s2 from ⟨_,H1,I2,q1⟩)) hf
end
end L2
end
section
namespace L2
open PySem PySem.Spec PyProof.Rows
section
variable {prog : Program} {w : World} {A : Around} {E : Value → Shared → Prop} {s : Shared}
theorem Aj2 {j t:Addr} {k:Nat} {us:Array Value} {u:Value} {Q:Value->Shared->Prop} (st:s.heap.IsTupleIter j t k) (tt:s.heap.IsTuple t us) (hu:us[k]?=some u)
  (q:∀ g,g.IsTupleIter j t (k+1)->Heap.SameBut j s.heap g->Q u { s with heap:=g }):wpAny (model prog w) A (Builtin.SmallTypes.nextOf (.ref j)) Q E s:=by
 obtain ⟨ob,e1,e2,e3⟩:=id st
 obtain ⟨ot,f1,_,m,f2⟩:=tt
 unfold Builtin.SmallTypes.nextOf
 refine wpAny_bind (wpAny_callSpecial?_slot (name:=Str.ofString "__next__") st.typeIs F.slot_tuple_iterator_next (wpAny_call_entry F.slot_tuple_iterator_next st.typeIs F.entry_tuple_iterator_next ?_ (F.args_tuple_iterator_next_1 _)))
 show wpAny _ _ (field (.ref j) 0 >>= _) _ _ s
 refine wpAny_bind (wpAny_field e1 e3 (x:=.ref t) rfl ?_)
 show wpAny _ _ (if (Value.ref t == Value.none)=true then _ else _) _ _ s
 rw [if_neg (show ¬ ((Value.ref t == Value.none)=true) from Bool.false_ne_true)]; show wpAny _ _ (field (.ref j) 1 >>= _) _ _ s
 refine wpAny_bind (wpAny_field e1 e3 (x:=.int k 0) rfl ?_)
 show wpAny _ _ (seqItems? (.ref t) >>= _) _ _ s
 refine wpAny_bind (wpAny_seqItems f1 f2 ?_)
 simp only [Int.toNat_natCast,hu]
 refine wpAny_bind (wpAny_setField e1 e3 (by simp) (wpAny_pure ⟨u,rfl,wpAny_pure (q _ ?_ (Heap.SameBut.update ..))⟩))
 exact ⟨_,Heap.get?_update_self _ e1 (Obj.isFreed_of_fields (Obj.data_mapFields e3 _)),(Obj.cls_mapFields ..).trans e2,by rw [Obj.data_mapFields e3]; simp [rawInt]⟩
theorem Aq7 {j t:Addr} {k:Nat} {us:Array Value} {Q:Value->Shared->Prop} (calm:A.handled=none) (st:s.heap.IsTupleIter j t k) (tt:s.heap.IsTuple t us) (hu:us[k]?=none)
  (q:∀ g e,Heap.ExtBut j s.heap g->(∃ o,g.get? e=some o/\o.cls=.type "StopIteration")->E (.ref e) { s with heap:=g }):wpAny (model prog w) A (Builtin.SmallTypes.nextOf (.ref j)) Q E s:=by
 obtain ⟨ob,e1,e2,e3⟩:=id st
 obtain ⟨ot,f1,_,m,f2⟩:=tt
 unfold Builtin.SmallTypes.nextOf
 refine wpAny_bind (wpAny_callSpecial?_slot (name:=Str.ofString "__next__") st.typeIs F.slot_tuple_iterator_next (wpAny_call_entry F.slot_tuple_iterator_next st.typeIs F.entry_tuple_iterator_next ?_ (F.args_tuple_iterator_next_1 _)))
 show wpAny _ _ (field (.ref j) 0 >>= _) _ _ s
 refine wpAny_bind (wpAny_field e1 e3 (x:=.ref t) rfl ?_)
 show wpAny _ _ (if (Value.ref t == Value.none)=true then _ else _) _ _ s
 rw [if_neg (show ¬ ((Value.ref t == Value.none)=true) from Bool.false_ne_true)]; show wpAny _ _ (field (.ref j) 1 >>= _) _ _ s
 refine wpAny_bind (wpAny_field e1 e3 (x:=.int k 0) rfl ?_)
 show wpAny _ _ (seqItems? (.ref t) >>= _) _ _ s
 refine wpAny_bind (wpAny_seqItems f1 f2 ?_)
 simp only [Int.toNat_natCast,hu]
 refine wpAny_bind (wpAny_rule (wpAny_bind (wpAny_setField e1 e3 (by simp) ?_)))
 show wpAny _ _ (newExc (.type "StopIteration") [] >>= _) _ _ _; refine wpAny_bind ?_
 simp only [newExc,newTuple]; refine wpAny_bind (wpAny_newObj_type ?_ (by size_fits))
 refine wpAny_bind (m:=firstArgMember _ _) (wpAny_of_eq (a:=Value.none) (by first | rfl | (simp only [firstArgMember]; rfl)) ?_); refine wpAny_newObj_type ?_ (by size_fits)
 simp only [raiseNew]; refine wpAny_bind (wpAny_handled ?_)
 first | rw [show A.in1.handled=none from calm] | rw [calm]
 refine wpAny_bind (wpAny_pure (wpAny_throw ?_)); exact q _ _ (((Heap.SameBut.update ..).extBut.push _).push _) ⟨_,Heap.get?_push_size _ rfl,rfl⟩
theorem Bb3 {z TI TO i1 i2 l1 l2:Addr} {k:Nat} {us vs:Array Value} {u v a b:Value} {Q:Option Value->Shared->Prop} (D:ZipApart z TI TO i1 i2 l1 l2) (hz:IsZip s.heap z TI TO .none) (hTI:IsPair s.heap TI (.ref i1) (.ref i2)) (hTO:IsPair s.heap TO a b)
  (h1:s.heap.IsTupleIter i1 l1 k) (h2:s.heap.IsTupleIter i2 l2 k) (t1:s.heap.IsTuple l1 us) (t2:s.heap.IsTuple l2 vs) (hu:us[k]?=some u) (hv:vs[k]?=some v)
  (q:∀ g,IsZip g z TI TO (rawInt s.heap.objs.size)->IsPair g TO u v->g.IsTupleIter i1 l1 (k+1)->g.IsTupleIter i2 l2 (k+1)->IsPair g s.heap.objs.size u v->g.objs.size=s.heap.objs.size+1 ->
   (∀ c o,c≠z->c≠TO->c≠i1->c≠i2->s.heap.get? c=some o->g.get? c=some o)->Q (some (.ref s.heap.objs.size)) { s with heap:=g }):wpAny (model prog w) A (pyNext (.ref z)) Q E s:=by
 have ty:s.TypeIs (.ref z) "zip":=⟨_,hz,rfl⟩
 unfold pyNext
 refine wpAny_bind (wpAny_attempt (wpAny_callSpecial?_slot (name:=Str.ofString "__next__") ty F.slot_zip_next (wpAny_call_entry F.slot_zip_next ty F.entry_zip_next (Q:=λx s'=>wpAny _ _ _ _ _ s') ?_ (F.args_zip_next_1 _))))
 show wpAny _ _ (field (.ref z) 2 >>= _) _ _ _; refine wpAny_bind (wpAny_field hz rfl (x:=.bool false) rfl ?_)
 show wpAny _ _ (field (.ref z) 3 >>= _) _ _ _; refine wpAny_bind (wpAny_field hz rfl (x:=.ref TI) rfl ?_)
 refine wpAny_bind (wpAny_seqItems hTI rfl ?_); show wpAny _ _ (Builtin.SmallTypes.ownedTupleIsFree (.ref z) >>= _) _ _ _; refine wpAny_bind ?_
 unfold Builtin.SmallTypes.ownedTupleIsFree; refine wpAny_bind (wpAny_field hz rfl (x:=.none) rfl (wpAny_pure ?_))
 simp only [if_true]; refine wpAny_bind (wpAny_rule ?_); refine wpAny_bind (wpAny_field hz rfl (x:=.ref TO) rfl ?_)
 refine wpAny_bind (wpAny_setField_rec hz (by simp) λg1 z1 s1=>?_); replace z1:IsZip g1 z TI TO .ellipsis:=z1
 refine wpAny_bind ?_; simp only [List.zipIdx_cons,List.zipIdx_nil,List.forIn_cons,List.forIn_nil]
 refine wpAny_bind (wpAny_bind (wpAny_onRaise ?_)); show wpAny _ _ (Builtin.SmallTypes.nextOf (.ref i1) >>= _) _ _ _
 refine wpAny_bind (Aj2 (h1.extBut s1.extBut D.i1z) (t1.extBut s1.extBut D.l1z) hu λg2 p2 s2=>wpAny_pure ?_)
 have o2:IsPair g2 TO a b:=s2.extBut _ _ D.TOi1 (s1.extBut _ _ D.TOz hTO)
 refine wpAny_bind (wpAny_seqItems o2 rfl ?_); refine wpAny_bind (wpAny_updateSeq_pair o2 λg3 o3 s3=>?_); replace o3:IsPair g3 TO u b:=o3
 refine wpAny_bind (wpAny_letGo (wpAny_pure ?_)); refine wpAny_bind (wpAny_bind (wpAny_onRaise ?_)); show wpAny _ _ (Builtin.SmallTypes.nextOf (.ref i2) >>= _) _ _ _
 refine wpAny_bind (Aj2 (((h2.extBut s1.extBut D.i2z).extBut s2.extBut D.i12.symm).extBut s3.extBut D.TOi2.symm) (((t2.extBut s1.extBut D.l2z).extBut s2.extBut D.l2i1).extBut s3.extBut D.l2TO) hv λg4 p4 s4=>wpAny_pure ?_)
 have o4:IsPair g4 TO u b:=s4.extBut _ _ D.TOi2 o3
 refine wpAny_bind (wpAny_seqItems o4 rfl ?_); refine wpAny_bind (wpAny_updateSeq_pair o4 λg5 o5 s5=>?_); replace o5:IsPair g5 TO u v:=o5
 refine wpAny_bind (wpAny_letGo (wpAny_pure (wpAny_pure ?_))); refine wpAny_bind (wpAny_seqItems o5 rfl ?_); refine wpAny_bind (wpAny_newTuple ?_)
 have sz:g5.objs.size=s.heap.objs.size:=by rw [s5.1,s4.1,s3.1,s2.1,s1.1]
 have z5:IsZip g5 z TI TO .ellipsis:=s5.extBut _ _ D.TOz.symm (s4.extBut _ _ D.i2z.symm (s3.extBut _ _ D.TOz.symm (s2.extBut _ _ D.i1z.symm z1)))
 have k5:∀ c o,c≠z->c≠TO->c≠i1->c≠i2->s.heap.get? c=some o->g5.get? c=some o:=λc o c1 c2 c3 c4 e=>s5.extBut _ _ c2 (s4.extBut _ _ c4 (s3.extBut _ _ c2 (s2.extBut _ _ c3 (s1.extBut _ _ c1 e))))
 have p1:g5.IsTupleIter i1 l1 (k+1):=((p2.extBut s3.extBut D.TOi1.symm).extBut s4.extBut D.i12).extBut s5.extBut D.TOi1.symm
 have p5:g5.IsTupleIter i2 l2 (k+1):=p4.extBut s5.extBut D.TOi2.symm
 have zlt:z<g5.objs.size:=Heap.lt_size z5
 show wpAny _ _ (Builtin.SmallTypes.ownedTupleHandOut (.ref z) (.ref g5.objs.size) >>= _) _ _ _; refine wpAny_bind ?_
 unfold Builtin.SmallTypes.ownedTupleHandOut
 have z6:IsZip (g5.push { cls:=.type "tuple",data:=.seq #[u,v] }) z TI TO .ellipsis:=Heap.get?_push_of_some _ z5
 refine wpAny_bind (wpAny_setField_rec z6 (by simp) λg7 z7 s7=>?_); replace z7:IsZip g7 z TI TO (rawInt g5.objs.size):=z7
 refine wpAny_setField_rec z7 (by simp) λg8 z8 s8=>?_; replace z8:IsZip g8 z TI TO (rawInt g5.objs.size):=z8
 have up:∀ c o,c≠z->g5.get? c=some o->g8.get? c=some o:=λc o c1 e=>s8.extBut _ _ c1 (s7.extBut _ _ c1 (Heap.get?_push_of_some _ e))
 have tp:IsPair g8 g5.objs.size u v:=s8.extBut _ _ (Nat.ne_of_gt zlt) (s7.extBut _ _ (Nat.ne_of_gt zlt) (Heap.get?_push_size _ rfl))
 have n8:g8.objs.size=g5.objs.size+1:=by rw [s8.1,s7.1,Heap.size_push]
 rw [sz] at z8 tp n8
 have fin:=q g8 z8 (up _ _ D.TOz o5) (p1.at λo e=>up _ o D.i1z e) (p5.at λo e=>up _ o D.i2z e) tp n8 λc o c1 c2 c3 c4 e=>up c o c1 (k5 c o c1 c2 c3 c4 e)
 rw [<- sz] at fin
 exact wpAny_pure ⟨_,rfl,wpAny_pure fin⟩
theorem Bg7 {z TI TO i1 i2 l1 l2:Addr} {k:Nat} {us vs:Array Value} {a b:Value} {Q:Option Value->Shared->Prop} (calm:A.handled=none) (D:ZipApart z TI TO i1 i2 l1 l2) (hz:IsZip s.heap z TI TO .none) (hTI:IsPair s.heap TI (.ref i1) (.ref i2)) (hTO:IsPair s.heap TO a b)
  (h1:s.heap.IsTupleIter i1 l1 k) (h2:s.heap.IsTupleIter i2 l2 k) (t1:s.heap.IsTuple l1 us) (t2:s.heap.IsTuple l2 vs) (hend:us[k]?=none\/vs[k]?=none)
  (q:∀ g,(∀ c o,c≠z->c≠TO->c≠i1->c≠i2->s.heap.get? c=some o->g.get? c=some o)->Q none { s with heap:=g }):wpAny (model prog w) A (pyNext (.ref z)) Q E s:=by
 have ty:s.TypeIs (.ref z) "zip":=⟨_,hz,rfl⟩
 unfold pyNext
 refine wpAny_bind (wpAny_attempt (wpAny_callSpecial?_slot (name:=Str.ofString "__next__") ty F.slot_zip_next (wpAny_call_entry F.slot_zip_next ty F.entry_zip_next ?_ (F.args_zip_next_1 _))))
 show wpAny _ _ (field (.ref z) 2 >>= _) _ _ _; refine wpAny_bind (wpAny_field hz rfl (x:=.bool false) rfl ?_)
 show wpAny _ _ (field (.ref z) 3 >>= _) _ _ _; refine wpAny_bind (wpAny_field hz rfl (x:=.ref TI) rfl ?_)
 refine wpAny_bind (wpAny_seqItems hTI rfl ?_); show wpAny _ _ (Builtin.SmallTypes.ownedTupleIsFree (.ref z) >>= _) _ _ _; refine wpAny_bind ?_
 unfold Builtin.SmallTypes.ownedTupleIsFree; refine wpAny_bind (wpAny_field hz rfl (x:=.none) rfl (wpAny_pure ?_))
 simp only [if_true]; refine wpAny_bind (wpAny_rule ?_); refine wpAny_bind (wpAny_field hz rfl (x:=.ref TO) rfl ?_)
 refine wpAny_bind (wpAny_setField_rec hz (by simp) λg1 z1 s1=>?_); replace z1:IsZip g1 z TI TO .ellipsis:=z1
 refine wpAny_bind ?_; simp only [List.zipIdx_cons,List.zipIdx_nil,List.forIn_cons,List.forIn_nil]
 refine wpAny_bind (wpAny_bind (wpAny_onRaise ?_)); show wpAny _ _ (Builtin.SmallTypes.nextOf (.ref i1) >>= _) _ _ _
 cases hu:us[k]? with
 | none =>
  refine wpAny_bind (Aq7 calm (h1.extBut s1.extBut D.i1z) (t1.extBut s1.extBut D.l1z) hu λg2 e s2 he=>?_)
  obtain ⟨oe,e1,e2⟩:=he
  have z2:IsZip g2 z TI TO .ellipsis:=s2 _ _ D.i1z.symm z1
  have ne:e≠z:=λx=>by subst x; rw [z2] at e1; cases e1; simp at e2
  refine wpAny_setField_rec z2 (by simp) λg3 _ s3=>?_
  refine wpAny_bind (wpAny_isInstance (T:="StopIteration") (b:=true) ⟨oe,s3.extBut _ _ ne e1,e2⟩ isSubtype_stop ?_)
  exact wpAny_pure (q _ λc o c1 _ c3 _ x=>s3.extBut _ _ c1 (s2 _ _ c3 (s1.extBut _ _ c1 x)))
 | some u =>
  have hv:vs[k]?=none:=by rcases hend with h | h; rw [hu] at h; cases h; exact h
  refine wpAny_bind (Aj2 (h1.extBut s1.extBut D.i1z) (t1.extBut s1.extBut D.l1z) hu λg2 p2 s2=>wpAny_pure ?_)
  have o2:IsPair g2 TO a b:=s2.extBut _ _ D.TOi1 (s1.extBut _ _ D.TOz hTO)
  refine wpAny_bind (wpAny_seqItems o2 rfl ?_); refine wpAny_bind (wpAny_updateSeq_pair o2 λg3 o3 s3=>?_)
  refine wpAny_bind (wpAny_letGo (wpAny_pure ?_)); refine wpAny_bind (wpAny_bind (wpAny_onRaise ?_)); show wpAny _ _ (Builtin.SmallTypes.nextOf (.ref i2) >>= _) _ _ _
  refine wpAny_bind (Aq7 calm (((h2.extBut s1.extBut D.i2z).extBut s2.extBut D.i12.symm).extBut s3.extBut D.TOi2.symm) (((t2.extBut s1.extBut D.l2z).extBut s2.extBut D.l2i1).extBut s3.extBut D.l2TO) hv λg4 e s4 he=>?_)
  obtain ⟨oe,e1,e2⟩:=he
  have z4:IsZip g4 z TI TO .ellipsis:=s4 _ _ D.i2z.symm (s3.extBut _ _ D.TOz.symm (s2.extBut _ _ D.i1z.symm z1))
  have ne:e≠z:=λx=>by subst x; rw [z4] at e1; cases e1; simp at e2
  refine wpAny_setField_rec z4 (by simp) λg5 _ s5=>?_
  refine wpAny_bind (wpAny_isInstance (T:="StopIteration") (b:=true) ⟨oe,s5.extBut _ _ ne e1,e2⟩ isSubtype_stop ?_)
  exact wpAny_pure (q _ λc o c1 c2 c3 c4 x=>s5.extBut _ _ c1 (s4 _ _ c4 (s3.extBut _ _ c2 (s2.extBut _ _ c3 (s1.extBut _ _ c1 x)))))
end
end L2
end
section
namespace L2
open PySem PySem.Spec PyProof.Rows
section
variable {prog : Program} {w : World} {A : Around} {E : Value → Shared → Prop} {s : Shared}
def zT1 (h:Heap) (a:Addr):Heap:=h.push { cls:=.type "tuple_iterator",data:=.fields #[.ref a,.int 0 0] }
def zT2 (h:Heap) (a b:Addr):Heap:=(zT1 h a).push { cls:=.type "tuple_iterator",data:=.fields #[.ref b,.int 0 0] }
def zT3 (h:Heap) (a b:Addr):Heap:=(zT2 h a b).push { cls:=.type "tuple",data:=.seq #[.ref h.objs.size,.ref (zT1 h a).objs.size] }
def zT4 (h:Heap) (a b:Addr):Heap:=(zT3 h a b).push { cls:=.type "tuple",data:=.seq #[.none,.none] }
def zT5 (h:Heap) (a b:Addr):Heap:=(zT4 h a b).push { cls:=.type "zip",data:=.fields #[.none,.bool false,.bool false,.ref (zT2 h a b).objs.size,.ref (zT3 h a b).objs.size] }
theorem Bq2 (a b:Addr) (us vs:Array Value):Meets (Builtin.«zip.__new__» ⟨[.type "zip",.ref a,.ref b],[]⟩)
  (λ_ R s=>s.heap.IsTuple a us/\s.heap.IsTuple b vs/\R (.ok (.ret (.ref (zT4 s.heap a b).objs.size))) { s with heap:=zT5 s.heap a b }) :=
 .of_wp λprog w A R s h=>by
  obtain ⟨hp,g,d,tk,os⟩:=s; obtain ⟨ha,hb,h⟩:=h
  have hsub:=sub_zip
  have hA:Heap.IsTuple (Shared.heap ⟨hp,g,d,tk,os⟩) a us:=ha
  have hB:Heap.IsTuple (Shared.heap ⟨hp.push { cls:=.type "tuple_iterator",data:=.fields #[.ref a,.int 0 0] },g,d,tk,os⟩) b vs:=Heap.IsTuple.push hb _
  wp_walk using wpAny_pyIter_tuple hA,wpAny_pyIter_tuple hB
  exact ⟨_,rfl,h⟩
theorem Bg3 {a b:Addr} {us vs:Array Value} {Q:Value->Shared->Prop} (ha:s.heap.IsTuple a us) (hb:s.heap.IsTuple b vs)
  (h:∀ g,IsZip g (s.heap.objs.size+4) (s.heap.objs.size+2) (s.heap.objs.size+3) .none->IsPair g (s.heap.objs.size+2) (.ref s.heap.objs.size) (.ref (s.heap.objs.size+1))->IsPair g (s.heap.objs.size+3) .none .none ->
   g.IsTupleIter s.heap.objs.size a 0->g.IsTupleIter (s.heap.objs.size+1) b 0->(∀ c o,s.heap.get? c=some o->g.get? c=some o)->Q (.ref (s.heap.objs.size+4)) { s with heap:=g }):wpAny (model prog w) A (call (.type "zip") [.ref a,.ref b]) Q E s:=by
 refine callType_new F.called_zip (by decide) (F.typeCall_zip_2 _ _) (F.newCall_zip_2 _ _) (λobj=>F.args_object_init_3 obj _ _) F.entry_zip_new (Bq2 a b us vs) ⟨ha,hb,?_⟩
 have z1:(zT1 s.heap a).objs.size=s.heap.objs.size+1:=Heap.size_push ..
 have z2:(zT2 s.heap a b).objs.size=s.heap.objs.size+2:=by unfold zT2; rw [Heap.size_push,z1]
 have z3:(zT3 s.heap a b).objs.size=s.heap.objs.size+3:=by unfold zT3; rw [Heap.size_push,z2]
 have z4:(zT4 s.heap a b).objs.size=s.heap.objs.size+4:=by unfold zT4; rw [Heap.size_push,z3]
 have k45:∀ c o,(zT4 s.heap a b).get? c=some o->(zT5 s.heap a b).get? c=some o:=λc o e=>Heap.get?_push_of_some _ e
 have k34:∀ c o,(zT3 s.heap a b).get? c=some o->(zT5 s.heap a b).get? c=some o:=λc o e=>k45 c o (Heap.get?_push_of_some _ e)
 have k23:∀ c o,(zT2 s.heap a b).get? c=some o->(zT5 s.heap a b).get? c=some o:=λc o e=>k34 c o (Heap.get?_push_of_some _ e)
 have k12:∀ c o,(zT1 s.heap a).get? c=some o->(zT5 s.heap a b).get? c=some o:=λc o e=>k23 c o (Heap.get?_push_of_some _ e)
 have g5:(zT5 s.heap a b).get? (zT4 s.heap a b).objs.size=some { cls:=.type "zip",data:=.fields #[.none,.bool false,.bool false,.ref (zT2 s.heap a b).objs.size,.ref (zT3 s.heap a b).objs.size] }:=Heap.get?_push_size _ rfl
 have g4:(zT5 s.heap a b).get? (zT3 s.heap a b).objs.size=some { cls:=.type "tuple",data:=.seq #[.none,.none] }:=k45 _ _ (Heap.get?_push_size _ rfl)
 have g3:(zT5 s.heap a b).get? (zT2 s.heap a b).objs.size=some { cls:=.type "tuple",data:=.seq #[.ref s.heap.objs.size,.ref (zT1 s.heap a).objs.size] }:=k34 _ _ (Heap.get?_push_size _ rfl)
 have g2:(zT5 s.heap a b).get? (zT1 s.heap a).objs.size=some { cls:=.type "tuple_iterator",data:=.fields #[.ref b,.int 0 0] }:=k23 _ _ (Heap.get?_push_size _ rfl)
 have g1:(zT5 s.heap a b).get? s.heap.objs.size=some { cls:=.type "tuple_iterator",data:=.fields #[.ref a,.int 0 0] }:=k12 _ _ (Heap.get?_push_size _ rfl)
 show _/\_
 rw [z2,z3,z4] at g5; rw [z1,z2] at g3; rw [z3] at g4; rw [z1] at g2; rw [z4]
 exact ⟨⟨_,g5,rfl⟩,h _ g5 g3 g4 ⟨_,g1,rfl,rfl⟩ ⟨_,g2,rfl,rfl⟩ λc o x=>k12 c o (Heap.get?_push_of_some _ x)⟩
end
theorem SqT.apart {X:Cx} {pins:List (Addr×Obj)} {σ:St} {H:Hp} {s:Shared} {a b:Addr} {xs:List V} (I:Inv X pins σ H s) (h:SqT X.K H a xs) (f:FpOk X pins H b):a≠b:=by
 rintro rfl
 rcases h with (h | ⟨o,h⟩) | ⟨o,its,n,hk,_⟩
 ·rw [f.1] at h; cases h
 ·rw [f.1] at h; cases h
 ·have hb:X.base.get? a=some o:=I.ok.mod.kin a o hk
  rcases f.2.2.2.1 with z | z
  ·exact I.ok.noex a o hb z
  ·exact absurd (Nat.lt_of_lt_of_le (Heap.lt_size (I.ok.bs a o hb).1) z) (Nat.lt_irrefl _)
def Itz (K:PySem.W.Frag) (a b:Addr):It :=
 ⟨λi H=>∃ xs ys x y,SqT K H a xs/\SqT K H b ys/\xs[i]?=some x/\ys[i]?=some y,
   λi H v H'=>∃ t x y,H t=none/\v=.ref t/\(∀ xs,SqT K H a xs->xs[i]?=some x)/\(∀ ys,SqT K H b ys->ys[i]?=some y)/\H'=upd H t (.tup [x,y]),
   λi H=>∃ xs ys,SqT K H a xs/\SqT K H b ys/\(xs.length<=i\/ys.length<=i)⟩
structure ZA (z TI TO i1 i2:Addr):Prop where
 a1:TI≠z
 a2:TO≠z
 a3:i1≠z
 a4:i2≠z
 a5:TI≠TO
 a6:TI≠i1
 a7:TI≠i2
 a8:TO≠i1
 a9:TO≠i2
 a0:i1≠i2
theorem Br4 (n:Nat):ZA (n+4) (n+2) (n+3) n (n+1) :=
 ⟨by show @Ne Nat _ _; omega,by show @Ne Nat _ _; omega,by show @Ne Nat _ _; omega,by show @Ne Nat _ _; omega,by show @Ne Nat _ _; omega,by show @Ne Nat _ _; omega,by show @Ne Nat _ _; omega,by show @Ne Nat _ _; omega,by show @Ne Nat _ _; omega,by show @Ne Nat _ _; omega⟩
theorem Bg8 {P:Program} {w:World} {K:PySem.W.Frag} {elts:List Expr} {x1:Nat} {pos:Pos} (a b z TI TO i1 i2:Addr) (Z:ZA z TI TO i1 i2) :
  Turn P w K (.Tuple elts x1 pos) (Itz K a b) [z,TI,TO,i1,i2] z (λi h=>IsZip h z TI TO .none/\IsPair h TI (.ref i1) (.ref i2)/\(∃ c d,IsPair h TO c d)/\h.IsTupleIter i1 a i/\h.IsTupleIter i2 b i) where
 mem:=by simp
 obj:=λi h st c hc=>by
  obtain ⟨h1,h2,⟨c1,d1,h3⟩,⟨o4,e4,_,d4⟩,o5,e5,_,d5⟩:=st
  simp only [List.mem_cons,List.not_mem_nil,or_false] at hc
  rcases hc with rfl | rfl | rfl | rfl | rfl
  ·exact ⟨_,h1,λv z=>by cases z⟩
  ·exact ⟨_,h2,λv z=>by cases z⟩
  ·exact ⟨_,h3,λv z=>by cases z⟩
  ·exact ⟨o4,e4,λv z=>by rw [d4] at z; cases z⟩
  ·exact ⟨o5,e5,λv z=>by rw [d5] at z; cases z⟩
 keep:=λi h h' st k=>by
  obtain ⟨h1,h2,⟨c1,d1,h3⟩,h4,h5⟩:=st
  exact ⟨k _ (by simp) _ h1,k _ (by simp) _ h2,⟨c1,d1,k _ (by simp) _ h3⟩,h4.at λo e=>k _ (by simp) o e,h5.at λo e=>k _ (by simp) o e⟩
 item:=by
  intro X hP hw hK hc i pins s σ H E I hf st hg
  subst hP hw hK
  obtain ⟨xs,ys,x,y,qa,qb,hx,hy⟩:=hg
  obtain ⟨us,ra,pa,_⟩:=I.tuple qa
  obtain ⟨vs,rb,pb,_⟩:=I.tuple qb
  obtain ⟨u,hu,ru⟩:=ra.get hx
  obtain ⟨v,hv,rv⟩:=rb.get hy
  obtain ⟨h1,h2,⟨c1,d1,h3⟩,h4,h5⟩:=st
  have D:ZipApart z TI TO i1 i2 a b:=⟨Z.a1,Z.a2,Z.a3,Z.a4,Z.a5,Z.a6,Z.a7,Z.a8,Z.a9,Z.a0,qa.apart I (hf z (by simp)),qa.apart I (hf TO (by simp)),qa.apart I (hf i1 (by simp)),qa.apart I (hf i2 (by simp)),qb.apart I (hf z (by simp)),qb.apart I (hf TO (by simp)),qb.apart I (hf i1 (by simp)),qb.apart I (hf i2 (by simp))⟩
  have lts:∀ c ∈ [z,TI,TO,i1,i2],c<s.heap.objs.size:=λc hc=>by
   simp only [List.mem_cons,List.not_mem_nil,or_false] at hc
   rcases hc with rfl | rfl | rfl | rfl | rfl
   ·exact Heap.lt_size h1
   ·exact Heap.lt_size h2
   ·exact Heap.lt_size h3
   ·obtain ⟨o,e,_⟩:=h4; exact Heap.lt_size e
   ·obtain ⟨o,e,_⟩:=h5; exact Heap.lt_size e
  refine Bb3 D h1 h2 h3 h4 h5 (show s.heap.IsTuple a us.toArray from pa) (show s.heap.IsTuple b vs.toArray from pb) (by simpa using hu) (by simpa using hv) λg1 z1 o1 j1 j2 tp sz kp=>⟨_,rfl,?_⟩
  refine wpAny_letOwnedTupleGo_zip z1 λg2 z2 s2=>?_
  have s2:Heap.SameBut z g1 g2:=s2
  have hT:H s.heap.objs.size=none:=I.hok.fresh (Nat.le_refl _)
  have I1:Inv X pins σ (upd H s.heap.objs.size (.tup [x,y])) { s with heap:=s.heap.push { cls:=.type "tuple",data:=.seq #[u,v] },toks:=s.toks }:=by
   refine I.laid (λb o z=>Heap.get?_push_of_some _ z) (Nat.le_refl _) ?_
   exact ⟨by show 2<=sizeLine; decide,[u,v],.cons ru (.cons rv .nil),_,Heap.get?_push_size _ rfl,rfl,_,rfl⟩
  have hf1:∀ c ∈ [z,TI,TO,i1,i2],FpOk X pins (upd H s.heap.objs.size (.tup [x,y])) c:=λc hc=>by
   obtain ⟨f0,f⟩:=hf c hc
   refine ⟨?_,f⟩
   rw [Ab0 (Nat.ne_of_lt (lts c hc))]
   exact f0
  have I2:Inv X pins σ (upd H s.heap.objs.size (.tup [x,y])) { s with heap:=g2,toks:=s.toks }:=by
   refine Inv.turnedN (s:={ s with heap:=s.heap.push { cls:=.type "tuple",data:=.seq #[u,v] },toks:=s.toks }) (h':=g2) (t':=s.toks) (fp:=[z,TI,TO,i1,i2]) I1 (λc o hc e=>?_) hf1
   have n1:c≠z:=λq=>hc (by simp [q])
   rw [s2.2 c n1]
   by_cases hcT:c=s.heap.objs.size
   ·subst hcT
    have e':some _=some o:=(Heap.get?_push_size s.heap (o:={ cls:=.type "tuple",data:=.seq #[u,v] }) rfl).symm.trans e
    rw [<- e']
    exact tp
   ·refine kp c o n1 (λq=>hc (by simp [q])) (λq=>hc (by simp [q])) (λq=>hc (by simp [q])) ?_
    rwa [show (s.heap.push { cls:=.type "tuple",data:=.seq #[u,v] }).get? c=s.heap.get? c from Heap.get?_push_ne _ _ _ hcT] at e
  refine ⟨.ref s.heap.objs.size,_,I2,rfl,⟨_,x,y,hT,rfl,λzs hz=>by rw [I.tuple_inj hz qa]; exact hx,λzs hz=>by rw [I.tuple_inj hz qb]; exact hy,rfl⟩,⟨z2,?_,⟨_,_,s2.extBut _ _ Z.a2 o1⟩,j1.extBut s2.extBut Z.a3,j2.extBut s2.extBut Z.a4⟩,λc hc=>(hf1 c hc).1⟩
  exact s2.extBut _ _ Z.a1 (kp _ _ Z.a1 Z.a5 Z.a6 Z.a7 h2)
 done:=by
  intro X hP hw hK hc i pins s σ H E I hf st hg
  subst hP hw hK
  obtain ⟨xs,ys,qa,qb,hx⟩:=hg
  obtain ⟨us,ra,pa,_⟩:=I.tuple qa
  obtain ⟨vs,rb,pb,_⟩:=I.tuple qb
  obtain ⟨h1,h2,⟨c1,d1,h3⟩,h4,h5⟩:=st
  have D:ZipApart z TI TO i1 i2 a b:=⟨Z.a1,Z.a2,Z.a3,Z.a4,Z.a5,Z.a6,Z.a7,Z.a8,Z.a9,Z.a0,qa.apart I (hf z (by simp)),qa.apart I (hf TO (by simp)),qa.apart I (hf i1 (by simp)),qa.apart I (hf i2 (by simp)),qb.apart I (hf z (by simp)),qb.apart I (hf TO (by simp)),qb.apart I (hf i1 (by simp)),qb.apart I (hf i2 (by simp))⟩
  have la:=ra.length
  have lb:=rb.length
  refine Bg7 (I.ok.hd hc) D h1 h2 h3 h4 h5 (show s.heap.IsTuple a us.toArray from pa) (show s.heap.IsTuple b vs.toArray from pb) ?_ λg kp=>⟨rfl,I.turnedN (t':=s.toks) (fp:=[z,TI,TO,i1,i2]) (λc o hc e=>kp c o (λq=>hc (by simp [q])) (λq=>hc (by simp [q])) (λq=>hc (by simp [q])) (λq=>hc (by simp [q])) e) hf⟩
  rcases hx with hx | hx
  ·exact .inl (by simp; omega)
  ·exact .inr (by simp; omega)
 self:=λ_ _ _ _ _ st h=>wpAny_pyIter_zip st.1 h
def iZip (K:PySem.W.Frag) (ta:TA):TI:=λσ H R=>ta σ H λvs H1=>∃ a b xs ys,vs=[.ref a,.ref b]/\SqT K H1 a xs/\SqT K H1 b ys/\R (Itz K a b) H1
theorem Bt5 {X:Cx} {elts:List Expr} {x1:Nat} {tpos p pos:Pos} {e1 e2:Expr} {ta:TA} (hg:Gl X "zip") (hm:X.mg "zip"=none) (ha:PA X [e1,e2] ta) (hs:starEach [e1,e2] X.env=[(false,eval e1 X.env),(false,eval e2 X.env)]:=by rfl) (hs2:starEach [e2] X.env=[(false,eval e2 X.env)]:=by rfl) :
  PI X (.Tuple elts x1 tpos) (.Call (.Name "zip" p) [e1,e2] [] pos) (iZip X.K ta):=by
 intro pins s σ H R I h
 refine Call_ (An8 I hg hm boot_zip (PyProof.Rows.callWith_type1 (thn (ha pos pins s σ H _ I h) λus s1 ⟨vs,H1,I1,r1,q1⟩=>?_) (by rw [hs,hs2]) (by rw [hs2]; rfl)))
 obtain ⟨a,b,xs,ys,e,qa,qb,q⟩:=q1
 subst e
 cases r1 with
 | cons r rr =>
  cases rr with
  | cons r' rr =>
   cases rr
   cases r
   cases r'
   obtain ⟨us,ra,pa,_⟩:=I1.tuple qa
   obtain ⟨vs,rb,pb,_⟩:=I1.tuple qb
   refine Bg3 (show s1.heap.IsTuple a us.toArray from pa) (show s1.heap.IsTuple b vs.toArray from pb) λg g1 g2 g3 g4 g5 kp=>?_
   refine wpAny_pyIter_zip g1 ?_
   refine ⟨_,[s1.heap.objs.size+4,s1.heap.objs.size+2,s1.heap.objs.size+3,s1.heap.objs.size,s1.heap.objs.size+1],_,_,H1,rfl,I1.kept (t':=s1.toks) kp,Bg8 a b _ _ _ _ _ (Br4 _),⟨g1,g2,⟨_,_,g3⟩,g4,g5⟩,λc hc=>?_,q⟩
   have hb':s1.heap.objs.size<=c:=by
    simp only [List.mem_cons,List.not_mem_nil,or_false] at hc
    rcases hc with rfl | rfl | rfl | rfl | rfl
    ·exact Nat.le_add_right _ 4
    ·exact Nat.le_add_right _ 2
    ·exact Nat.le_add_right _ 3
    ·exact Nat.le_refl _
    ·exact Nat.le_add_right _ 1
   exact I1.fpOk hb' (I1.hok.fresh hb')
end L2
end
section
namespace L2
open PySem PySem.Spec PyProof.Rows
section
variable {X : Cx} {pins : List (Addr × Obj)} {σ : St} {H₂ : Hp} {s₂ : Shared} {fp : List Addr} {x y : Str} {scope : Scope} {C : Addr}
end
def Bs3 (K:PySem.W.Frag) (wi:TI) (te:TE):TE:=λσ H Q=>wi σ H λJ H1=>∀ D,H1 D=none->∃ W:Nat->Nat->List V->Hp->Prop,(∃ m,W 0 m [] (upd H1 D (.lst [])))/\∀ i m ys H,W i m ys H->H D=some (.lst ys) /\
 ((J.stop i H/\Q (.ref D) H)\/(J.go i H/\∃ N:List V->Hp->Prop,(∀ zs H',N zs H'->∃ m',m'<m/\W (i+1) m' zs H')/\∀ v H',J.yld i H v H'->∃ t a b,v=.ref t/\SqT K H' t [a,b]/\te (some a::some b::σ) H' λy H3=>H3 D=some (.lst ys)/\ys.length<sizeLine/\N (ys++[y]) (upd H3 D (.lst (ys++[y])))))
section
variable {X : Cx} {x y : Str} {px py pos tpos : Pos} {scope : Scope} {elt iter : Expr} {wi : TI} {te : TE} {k1 : Nat}
theorem Bh6 (hcalm:X.calm=true) (hi:PI X (.Tuple [.Name x px,.Name y py] k1 tpos) iter wi) (hclos:closureFor scope X.env=pure []) (hcb:Az2 x y (relabel scope X.env).names=true)
  (he:∀ C s₂ H₂ fp,PE (cxD X x y scope C s₂ H₂ fp) elt te) (hN:(Ar9 x y X.N).Nodup)
  (hkind:scope.kind=.function:=by rfl) (hnc:∀ y ∈ scope.names,y.2≠.cell:=by decide +kernel) (hnm:∀ y ∈ scope.names,y.2=.local->scope.names.lookup y.1=some .local:=by decide +kernel) (hx0:x≠"":=by decide +kernel) (hy0:y≠"":=by decide +kernel) (hdot:(".0":Str) ∉ X.N:=by decide +kernel)
  (hxl:scope.names.lookup x=some .local:=by rfl) (hyl:scope.names.lookup y=some .local:=by rfl)
  (hs:∀ x,foldedSetIterable iter X.env x=pure x:=by intro _; rfl):PE X (.ListComp elt [⟨.Tuple [.Name x px,.Name y py] k1 tpos,iter,[],0⟩] scope pos) (Bs3 X.K wi te):=by
 have hc:=As0 hcb
 intro pins s σ H Q I h
 rw [eval_ListComp]
 refine wpAny_comprehension_free (use:=none) rfl hs hclos hkind hnm (wpAny_mono (hi pins s σ H _ I h) (λxv s₁ h₁=>wpAny_mono h₁ (λitv s₂ h₂=>?_) λ_ _ e=>e) λ_ _ e=>e)
 obtain ⟨it,fp,tn,J,H₂,e,I2,T,st2,f2,hq⟩:=h₂
 subst e
 refine wpAny_newObj_type (wpAny_newFunctionEnv hnc (by intro y hy; simp at hy) (λh₁ hns₁ hsb₁=>?_) hkind)
 dsimp only at hns₁ hsb₁ ⊢
 have ho:∀ b ∈ fp,∃ o,s₂.heap.get? b=some o:=λb hb=>let ⟨o,e,_⟩:=T.obj 0 _ st2 b hb; ⟨o,e⟩
 generalize hP2:s₂.heap.push { cls:=.type "list",dict:=none,data:=.seq ([]:List Value).toArray }=P2 at hns₁ hsb₁ ⊢
 have hC:P2.objs.size=s₂.heap.objs.size+1:=by rw [<- hP2,Heap.size_push]
 have old:∀ b o,s₂.heap.get? b=some o->h₁.get? b=some o:=λb o e=>hsb₁.extBut b o (by rw [hC]; exact Nat.ne_of_lt (Nat.lt_succ_of_lt (Heap.lt_size e))) (Heap.get?_push_of_some _ (hP2 ▸ Heap.get?_push_of_some _ e))
 have hD:∃ n,h₁.get? s₂.heap.objs.size=some { cls:=.type "list",data:=.seq #[] n }:=⟨_,hsb₁.extBut _ _ (by rw [hC]; exact Nat.ne_of_lt (Nat.lt_succ_self _)) (Heap.get?_push_of_some _ (hP2 ▸ Heap.get?_push_size _ rfl))⟩
 have hns':h₁.Ns P2.objs.size λ_=>none:=by
  have e:(λx:Str=>([]:List (Str×Value)).reverse.lookup x)=λ_=>none:=by funext y; rfl
  rw [<- e]
  exact hns₁
 have I0:=invD (tk:=s₂.toks+([]:List (Str×Value)).length) I2 f2 ho hkind hc hx0 hy0 hdot hC hns' old hD
 obtain ⟨W,⟨m0,w0⟩,turn⟩:=hq _ (I2.hok.fresh (Nat.le_refl _))
 have hCs:X.s₀.heap.objs.size<=P2.objs.size:=by rw [hC]; exact Nat.le_succ_of_le I2.sz
 have loop:∀ s₃:Shared,s₃={ s₂ with heap:=h₁,toks:=s₂.toks+([]:List (Str×Value)).length } ->
   codeAny (model X.prog X.w) X.A (.compLoop (.ListComp elt [⟨.Tuple [.Name x px,.Name y py] k1 tpos,iter,[],0⟩] scope pos) 0 (.ref it) (.ref s₂.heap.objs.size) (compEnvC scope [] P2.objs.size X.env)) (compPost (model X.prog X.w) X.A X.xe none (EP X pins σ Q) (.ref s₂.heap.objs.size) P2.objs.size) s₃:=by
  rintro s₃ rfl
  refine Am6 (λn s'=>∃ i ys a b H,Inv (cxD X x y scope P2.objs.size s₂ H₂ fp) [] (a::b::σ) H s'/\tn i s'.heap/\(∀ b ∈ fp,H b=none)/\W i n ys H) ?_ m0
   ⟨0,[],none,none,_,I0,T.keep _ _ _ st2 λb _ o e=>old b o e,λb hb=>by rw [Ab0 (by obtain ⟨o,e⟩:=ho b hb; exact Nat.ne_of_lt (Heap.lt_size e))]; exact (f2 b hb).1,w0⟩
  rintro n s' ⟨i,ys,a,b,H,I',st',fr',w'⟩
  have fpn:∀ {H:Hp},(∀ b ∈ fp,H b=none)->∀ b ∈ fp,FpOk (cxD X x y scope P2.objs.size s₂ H₂ fp) [] H b:=λhn=>fpD I2 f2 ho (by rw [hC]; exact Nat.le_succ _) hn
  obtain ⟨hDl,go⟩:=turn i n ys H w'
  rcases go with ⟨stop,qn⟩ | ⟨go,Nx,hNx,step⟩
  ·refine wpAny_mono (T.done (cxD X x y scope P2.objs.size s₂ H₂ fp) rfl rfl rfl hcalm i [] s' (a::b::σ) H (λ_ _=>False) I' (fpn fr') st' stop) (λr s4 z=>?_) λ_ _ z=>z
   obtain ⟨hr,I4⟩:=z
   subst hr
   obtain ⟨m4,hm4,_⟩:=I4.loc
   have Iout:Inv X pins σ H s4:=I2.call' I4.os I4.base I4.hok I4.bare λb hb=>by
    obtain ⟨f0,f1,f2,f3,f4,f5⟩:=f2 b hb
    exact ⟨f3,f1,f4,f5⟩
   refine ⟨m4,hm4,λh' hs'=>?_⟩
   refine ⟨.ref s₂.heap.objs.size,H,Iout.turned (t':=s4.toks) (it:=P2.objs.size) (λb o hb e=>(hs'.2 b hb).trans e) I4.free ?_ (.inr hCs) (λy c e z=>?_) (λp hp z=>?_),rfl,qn⟩
   ·rw [hC]
    exact Nat.ne_of_gt (Nat.lt_succ_of_lt I2.lt)
   ·obtain ⟨v',oc,g1,_⟩:=I2.cell y c e
    have:=Heap.lt_size g1
    rw [z,hC] at this
    exact absurd (Nat.lt_of_succ_lt this) (Nat.lt_irrefl _)
   ·have:=Heap.lt_size (I2.pin p hp).1
    rw [z,hC] at this
    exact absurd (Nat.lt_of_succ_lt this) (Nat.lt_irrefl _)
  ·refine wpAny_mono (T.item (cxD X x y scope P2.objs.size s₂ H₂ fp) rfl rfl rfl hcalm i [] s' (a::b::σ) H (λ_ _=>False) I' (fpn fr') st' go) (λr s4 z=>?_) λ_ _ z=>z
   obtain ⟨u,hr,h4⟩:=z
   subst hr
   refine wpAny_mono h4 (λ_ s5 z=>?_) λ_ _ z=>z
   obtain ⟨yv,H5,I5,r5,y5,st5,fr5⟩:=z
   have I5':=I5.pinned (fpn fr5) (T.obj _ _ st5)
   have hxl':(relabel scope X.env).names.lookup x=some .local:=lookup_relabel_local hxl
   have hyl':(relabel scope X.env).names.lookup y=some .local:=lookup_relabel_local hyl
   obtain ⟨t,a1,b1,rfl,sqt,hs6⟩:=step yv H5 y5
   have pg:=Ay3 (X:=cxD X x y scope P2.objs.size s₂ H₂ fp) (k:=k1) (pos:=tpos) (n:=2) hcalm (Af1 (Ae7 (X:=cxD X x y scope P2.objs.size s₂ H₂ fp) (i:=0) (pos:=px) hN rfl (.inl hxl') (.inr hxl')) (Af1 (Ae7 (X:=cxD X x y scope P2.objs.size s₂ H₂ fp) (i:=1) (pos:=py) hN rfl (.inl hyl') (.inr hyl')) Ao9))
   refine wpAny_mono (pg _ s5 (a::b::σ) _ (.ref t) u (λσ6 H6=>σ6=some a1::some b1::σ/\H6=H5) I5' r5 ⟨t,[a1,b1],rfl,sqt,rfl,_,_,rfl,_,_,rfl,rfl,rfl,rfl⟩) (λ_ s6 z=>?_) λ_ _ z=>z
   obtain ⟨σ6,H6,I6,rfl,rfl⟩:=z
   have again:∀ {H7:Hp} {s7:Shared} {zs:List V},Inv (cxD X x y scope P2.objs.size s₂ H₂ fp) ([]++Al4 fp s5.heap) (some a1::some b1::σ) H7 s7->Nx zs H7 ->
     ∃ m,m<n/\∃ i ys a b H,Inv (cxD X x y scope P2.objs.size s₂ H₂ fp) [] (a::b::σ) H s7/\tn i s7.heap/\(∀ b ∈ fp,H b=none)/\W i m ys H:=λ{H7 s7 zs} I7 w7=>by
    obtain ⟨m',hm,w7⟩:=hNx _ _ w7
    refine ⟨m',hm,i+1,zs,some a1,some b1,H7,I7.unpinned,T.keep _ _ _ st5 λb hb o e=>(I7.pin (b,o) (List.mem_append_right _ (List.mem_append_right _ (Af6 hb e)))).1,λb hb=>?_,w7⟩
    obtain ⟨o,e,d⟩:=T.obj _ _ st5 b hb
    exact (I7.pin (b,o) (List.mem_append_right _ (List.mem_append_right _ (Af6 hb e)))).2.1
   refine wpAny_tests_nil ?_
   refine wpAny_mono (he P2.objs.size s₂ H₂ fp _ s6 _ _ _ I6 hs6) (λu8 s8 z=>?_) λ_ _ z=>z
   obtain ⟨y',H8,I8,r8,hD8,hz8,w8⟩:=z
   refine wpAny_mono (Ah4 (X:=cxD X x y scope P2.objs.size s₂ H₂ fp) _ s8 _ H8 (.ref s₂.heap.objs.size) [y'] (.ref s₂.heap.objs.size) [u8] (λ_ H9=>H9=upd H8 s₂.heap.objs.size (.lst (ys++[y']))) I8 rfl (.cons r8 .nil) ⟨_,ys,y',rfl,rfl,hD8,hz8,rfl⟩) (λ_ s9 z=>?_) λ_ _ z=>z
   obtain ⟨_,H9,I9,_,rfl⟩:=z
   exact again I9 w8
 exact codeAny_compStart_list (loop _ rfl) (T.self _ 0 _ _ _ (T.keep _ _ _ st2 λb _ o e=>old b o e) (loop _ rfl))
end
theorem Bk3 {K:PySem.W.Frag} {a b:Addr} {xs ys:List V} {te:TE} {σ:St} {H1:Hp} {Q:Addr->Hp->Prop} (hlen:xs.length=ys.length) (Pv:Addr->Nat->List V->Hp->Prop) (h0:∀ D,H1 D=none->Pv D 0 [] (upd H1 D (.lst [])))
  (hl:∀ D i zs H,i<=xs.length->Pv D i zs H->SqT K H a xs/\SqT K H b ys/\H D=some (.lst zs))
  (hs:∀ D i x y zs H t,xs[i]?=some x->ys[i]?=some y->Pv D i zs H->H t=none->te (some x::some y::σ) (upd H t (.tup [x,y])) λz H3=>H3 D=some (.lst zs)/\zs.length<sizeLine/\Pv D (i+1) (zs++[z]) (upd H3 D (.lst (zs++[z]))))
  (hd:∀ D zs H,Pv D xs.length zs H->Q D H) :
  ∀ D,H1 D=none->∃ W:Nat->Nat->List V->Hp->Prop,(∃ m,W 0 m [] (upd H1 D (.lst [])))/\∀ i m zs H,W i m zs H->H D=some (.lst zs) /\
   (((Itz K a b).stop i H/\Q D H)\/((Itz K a b).go i H/\∃ N:List V->Hp->Prop,(∀ us H',N us H'->∃ m',m'<m/\W (i+1) m' us H')/\∀ v H',(Itz K a b).yld i H v H'->∃ t x y,v=.ref t/\SqT K H' t [x,y]/\te (some x::some y::σ) H' λz H3=>H3 D=some (.lst zs)/\zs.length<sizeLine/\N (zs++[z]) (upd H3 D (.lst (zs++[z]))))):=λD hD=>by
 refine ⟨λi m zs H=>m=xs.length - i/\i<=xs.length/\Pv D i zs H,⟨xs.length,by simp,Nat.zero_le _,h0 D hD⟩,?_⟩
 rintro i m zs H ⟨rfl,hi,p⟩
 obtain ⟨qa,qb,qd⟩:=hl D i zs H hi p
 refine ⟨qd,?_⟩
 by_cases hlt:i<xs.length
 ·refine .inr ⟨⟨xs,ys,xs[i],ys[i]'(by omega),qa,qb,by simp [hlt],by simp⟩,Pv D (i+1),λzs H' p'=>⟨xs.length - (i+1),by omega,rfl,hlt,p'⟩,λv H' z=>?_⟩
  obtain ⟨t,x,y,ht,rfl,hx,hy,rfl⟩:=z
  exact ⟨t,x,y,rfl,SqT.of upd_same,hs D i x y zs H t (hx xs qa) (hy ys qb) p ht⟩
 ·have e:i=xs.length:=by omega
  subst e
  exact .inl ⟨⟨xs,ys,qa,qb,.inl (Nat.le_refl _)⟩,hd D zs H p⟩
end L2
end
section
namespace L2
open PySem PySem.Spec PyProof.Rows
section
variable {K : PySem.W.Frag}
end
section
variable {X : Cx}
end
structure Tab (K:PySem.W.Frag) (F:Addr) (D:List (Str×Addr)):Prop where
 lo:(F == sysModules)=false
 ob:∃ o es ep,K.lookup F=some o/\o.ExactDict/\o.data=.dict es ep/\KTD.Rows (λ(a:Addr) v=>v=.ref a) es.toList D
section
variable {prog : Program} {w : World} {A : Around} {E : Value → Shared → Prop} {s : Shared} {K : PySem.W.Frag} {F : Addr} {D : List (Str × Addr)} {k : Str} {tk : Tok}
theorem Tab.typeIs (T:Tab K F D) (X:K.In s.heap):s.TypeIs (.ref F) "dict":=let ⟨_,o,_,_,ho,hc,_⟩:=T; ⟨o,X _ _ ho,hc.1⟩
theorem As6 {Q:Option Value->Shared->Prop} (T:Tab K F D) (X:K.In s.heap) (h1:∀ a,KTD.datumAt k D=some a->Q (some (.ref a)) { s with toks:=s.toks+1 }) (h2:KTD.datumAt k D=none->Q none { s with toks:=s.toks+1 }):wpAny (model prog w) A (dictGet F (.str k tk)) Q E s:=by
 obtain ⟨_,o,es,ep,ho,hc,hd,hr⟩:=T
 have ho:=X _ _ ho
 unfold dictGet; try with_reducible refine wpAny_holding ?_
 refine wpAny_bind (wpAny_pyHash_str (wpAny_bind (KTD.kt_dictFind_strs (s:={ s with toks:=s.toks+1 }) ho hd (by obtain ⟨l⟩:=es; simpa using hr.exact) ?_)))
 have hq:Q (findBy (λk v=>v.isStr k) es k) { s with toks:=s.toks+1 }:=by
  have hf:findBy (λk v=>v.isStr k) es k=(es.toList.find? λe=>e.key.isStr k).map (·.val):=by obtain ⟨l⟩:=es; simp [findBy]
  rw [hf]
  cases hat:KTD.datumAt k D with
  | some d=>obtain ⟨v,hv,rfl⟩:=hr.find_some hat; rw [hv]; exact h1 d hat
  | none=>rw [hr.find_none hat]; exact h2 hat
 rw [findBy_of_findIdx?] at hq
 cases hi:es.findIdx? λe=>e.key.isStr k with
 | none=>rw [hi] at hq; exact wpAny_pure hq
 | some i=>rw [hi] at hq; exact wpAny_bind (wpAny_dictEntries (s:={ s with toks:=s.toks+1 }) ho hd (wpAny_pure hq))
end
section
variable {X : Cx}
theorem Bd6:OpR X (compareOp .NotIn) (λx y H Q=>∃ F D k,x=.str k/\y=.ref F/\Tab X.K F D/\Q (.bl (!KTD.inKeys k D)) H):=by
 intro pins s σ H x y v u Q I rx ry h
 obtain ⟨F,D,k,rfl,rfl,T,q⟩:=h
 cases ry
 obtain ⟨tk,rfl⟩:=rx
 have ty:=T.typeIs I.kIn
 show wpAny _ _ (do return Value.bool (!(<- contains (.ref F) (.str k tk)))) _ _ s
 refine wpAny_bind ?_; unfold contains; try with_reducible refine wpAny_holding ?_
 refine wpAny_bind (wpAny_specialOf ty slot_dict_contains.lookup ?_)
 show wpAny _ _ (if (some (Value.builtin "dict.__contains__") == some Value.none)=true then _ else _) _ _ s
 rw [if_neg (by rw [beq_builtin_none]; exact Bool.false_ne_true)]
 refine wpAny_bind (wpAny_callSpecialUnlessNone?_slot (name:=Str.ofString "__contains__") ty slot_dict_contains (wpAny_call_entry slot_dict_contains ty entry_dict_contains ?_ (args_dict_contains _ _)))
 show wpAny _ _ (dictGet F (.str k tk) >>= _) _ _ s
 have fin:EP X pins σ Q (.bool (!KTD.inKeys k D)) { s with toks:=s.toks+1 }:=⟨.bl _,H,I.tok _,rfl,q⟩
 refine wpAny_bind (As6 T I.kIn (λa ha=>?_) λhn=>?_)
 ·have hb:KTD.inKeys k D=true:=by rw [<- KTD.isSome_datumAt,ha]; rfl
  rw [hb] at fin
  show wpAny _ _ (ret (.bool true)) _ _ _; exact wpAny_pure ⟨_,rfl,wpAny_truthy_bool (wpAny_pure fin)⟩
 ·have hb:KTD.inKeys k D=false:=by rw [<- KTD.isSome_datumAt,hn]; rfl
  rw [hb] at fin
  show wpAny _ _ (Builtin.Dict.pendingKey? F (.str k tk) >>= _) _ _ _; exact wpAny_bind (wpAny_pendingKey_other T.lo (wpAny_pure ⟨_,rfl,wpAny_truthy_bool (wpAny_pure fin)⟩))
theorem Be9:IxR X (λx y H Q=>∃ F D k a,x=.ref F/\y=.str k/\Tab X.K F D/\KTD.datumAt k D=some a/\Q (.ref a) H):=by
 intro value slice pins s σ H x y v u Q I rx ry h hs
 obtain ⟨F,D,k,a,rfl,rfl,T,ha,q⟩:=h
 cases rx
 obtain ⟨tk,rfl⟩:=ry
 have ty:=T.typeIs I.kIn
 refine subscriptTail_builtinR (x:=.ref a) ty slot_dict_getitem.lookup ?_ hs
 unfold getItem; try with_reducible refine wpAny_holding ?_
 refine wpAny_bind (wpAny_sequenceKey ty (by decide) ?_)
 refine wpAny_bind (wpAny_callSpecial?_slot (name:=Str.ofString "__getitem__") ty slot_dict_getitem (wpAny_call_entry slot_dict_getitem ty entry_dict_getitem ?_ (args_dict_getitem _ _)))
 show wpAny _ _ (dictGet F (.str k tk) >>= _) _ _ s
 refine wpAny_bind (As6 T I.kIn (λb hb=>?_) λhn=>by rw [ha] at hn; cases hn)
 rw [ha] at hb
 cases hb
 exact wpAny_pure ⟨_,rfl,wpAny_pure ⟨rfl,⟨.ref a,H,I.tok _,rfl,q⟩⟩⟩
end
end L2
end
section
namespace L2
open PySem PySem.Spec PyProof.Rows
section
variable {X : Cx} {pos : Pos}
inductive Br1:List Expr->List Str->Prop
 | nil:Br1 [] []
 | cons {z:Str} {j:Nat} {p:Pos} {es:List Expr} {zs:List Str}:Br1 es zs->Br1 (.Constant (.str z) j p::es) (z::zs)
end
end L2
end
section
namespace L2
open PySem PySem.Spec PyProof.Rows
def CEx (X:Cx) (E:XK) (x:V) (sp:Sp):Prop:=∃ (f:Addr) (fd:FuncData) (k:Nat) (CX:CXT) (ps:List Str),x=.ref f/\FnOk X.prog X.w X.K X.mg X.base CX k f fd ps sp/\Room k X.A/\PySem.W.keepIn X.K (.ref f)=true/\Binds X.K fd ps []/\Ah1 CX X E
def Bs5 (X:Cx) (E:XK) (tf:TE) (t:TA):TE:=λσ H Q=>tf σ H λx H1=>∃ sp,CEx X E x sp/\t σ H1 λvs H2=>sp vs H2 Q E
theorem Ay5 {X:Cx} {E:XK} {fe e:Expr} {es:List Expr} {pos:Pos} {tf:TE} {t:TA} (hf:PE X fe tf) (ha:PA X (e::es) t)
  (he:starEach (e::es) X.env=(false,eval e X.env)::starEach es X.env:=by rfl) (hpl:(backTo pos (starEach es X.env)).any (·.1)=false:=by rfl)
  (hc:eval (.Call fe (e::es) [] pos) X.env=(do let f <- eval fe X.env; callWith pos f [] (backTo pos (starEach (e::es) X.env)) (backToKw pos (keywordEach [] X.env))):=by rfl) :
  PE X (.Call fe (e::es) [] pos) (Bs5 X E tf t):=by
 intro pins s σ H Q I h
 refine Call_ (thn (hf pins s σ H _ I h) λfv s1 ⟨x,H1,I1,rx,q1⟩=>?_) hc
 obtain ⟨sp,⟨f,fd,k,CX,ps,rfl,F,hr,hk,hb,hx⟩,q2⟩:=q1
 cases rx
 refine PySem.W.callWith_K (h₀:=X.base) I1.ok.mod.kin hk (thn (ha pos pins s1 σ H1 _ I1 q2) λus s2 ⟨vs,H2,I2,r,q⟩=>⟨I2.kIn,?_⟩) he hpl
 exact An5 (dvs:=[]) F hr hb .nil hx I2 r (by rw [List.append_nil]; exact q)
section
variable {X : Cx}
theorem Bi1:OpR X (compareOp .In) (λx y H Q=>∃ F D k,x=.str k/\y=.ref F/\Tab X.K F D/\Q (.bl (KTD.inKeys k D)) H):=by
 intro pins s σ H x y v u Q I rx ry h
 obtain ⟨F,D,k,rfl,rfl,T,q⟩:=h
 cases ry
 obtain ⟨tk,rfl⟩:=rx
 have ty:=T.typeIs I.kIn
 show wpAny _ _ (do return Value.bool (<- contains (.ref F) (.str k tk))) _ _ s
 refine wpAny_bind ?_; unfold contains; try with_reducible refine wpAny_holding ?_
 refine wpAny_bind (wpAny_specialOf ty slot_dict_contains.lookup ?_)
 show wpAny _ _ (if (some (Value.builtin "dict.__contains__") == some Value.none)=true then _ else _) _ _ s
 rw [if_neg (by rw [beq_builtin_none]; exact Bool.false_ne_true)]
 refine wpAny_bind (wpAny_callSpecialUnlessNone?_slot (name:=Str.ofString "__contains__") ty slot_dict_contains (wpAny_call_entry slot_dict_contains ty entry_dict_contains ?_ (args_dict_contains _ _)))
 show wpAny _ _ (dictGet F (.str k tk) >>= _) _ _ s
 have fin:EP X pins σ Q (.bool (KTD.inKeys k D)) { s with toks:=s.toks+1 }:=⟨.bl _,H,I.tok _,rfl,q⟩
 refine wpAny_bind (As6 T I.kIn (λa ha=>?_) λhn=>?_)
 ·have hb:KTD.inKeys k D=true:=by rw [<- KTD.isSome_datumAt,ha]; rfl
  rw [hb] at fin
  show wpAny _ _ (ret (.bool true)) _ _ _; exact wpAny_pure ⟨_,rfl,wpAny_truthy_bool (wpAny_pure fin)⟩
 ·have hb:KTD.inKeys k D=false:=by rw [<- KTD.isSome_datumAt,hn]; rfl
  rw [hb] at fin
  show wpAny _ _ (Builtin.Dict.pendingKey? F (.str k tk) >>= _) _ _ _; exact wpAny_bind (wpAny_pendingKey_other T.lo (wpAny_pure ⟨_,rfl,wpAny_truthy_bool (wpAny_pure fin)⟩))
end
end L2
end
section
namespace K33
open PySem L2
abbrev Ak3:Stmt:=top 32
abbrev Al1:Stmt:=top 33
abbrev sChk:Stmt:=top 34
def fT:List (Str×List Str):=[("set",["a","word"]),("add",["a","b"]),("both",["a","b"]),("odd",["a","b"]),("load",["a","b"]),("save",["a","b"]),("jump",["at"]),("nought",["a","at"]),("tell",["a"]),("call",[]),("halt",[]),("peek",["a","b"]),("poke",["a","b"]),("root",["a"]),("drop",["a"]),("give",["a"]),("want",["a"]),("why",["a","b"]),("back",[]),("past",[]),("user",["at"])]
def bnd (p:Str):Int:=if p = "word" then 281474976710656 else if p = "at" then 61 else 4
def Ah0:List V->List Str->List Bool
 | y::r,f::fs=>Af0 y (bnd f)::Ah0 r fs
 | _,_=>[]
theorem Al6:∀ (r:List V) (fs:List Str) (i:Nat) (y:V) (f:Str),r[i]?=some y->fs[i]?=some f->(Ah0 r fs).take (i+1)=(Ah0 r fs).take i++[Af0 y (bnd f)]
 | [],_,i,y,f,h,_=>by simp at h
 | _::_,[],i,y,f,_,h=>by simp at h
 | y0::r,f0::fs,0,y,f,h1,h2=>by
  simp at h1 h2
  subst h1 h2
  simp [Ah0]
 | y0::r,f0::fs,i+1,y,f,h1,h2=>by
  have z:=Al6 r fs i y f (by simpa using h1) (by simpa using h2)
  show Af0 y0 (bnd f0)::(Ah0 r fs).take (i+1)=Af0 y0 (bnd f0)::(Ah0 r fs).take i++[Af0 y (bnd f)]
  rw [z]
  rfl
theorem An7:∀ (r:List V) (fs:List Str),r.length=fs.length->(Ah0 r fs).length=r.length
 | [],_,_=>rfl
 | _::_,[],h=>by simp at h
 | y::r,f::fs,h=>by
  show (Ah0 r fs).length+1=r.length+1
  rw [An7 r fs (by simpa using h)]
def ordB:List V->Bool
 | .str s::r=>match PyProof.Rows.KTD.datumAt s fT with
  | some fs=>decide (r.length=fs.length) && (Ah0 r fs).all id
  | none=>false
 | _=>false
theorem Ar7 {δ:Type} {k:Str} {d:δ}:∀ {D:List (Str×δ)},PyProof.Rows.KTD.datumAt k D=some d->(k,d) ∈ D
 | [],h=>by cases h
 | (x,e)::D,h=>by
  have h':(if decide (k=x)=true then some e else PyProof.Rows.KTD.datumAt k D)=some d:=h
  by_cases hk:decide (k=x)=true
  ·rw [if_pos hk] at h'
   cases h'
   rw [of_decide_eq_true hk]
   exact List.mem_cons_self
  ·rw [if_neg hk] at h'
   exact List.mem_cons_of_mem _ (Ar7 h')
theorem Bw3 {k:Str} {fs:List Str} (h:PyProof.Rows.KTD.datumAt k fT=some fs):fs.length<=2:=(by decide:∀ p ∈ fT,p.2.length<=2) _ (Ar7 h)
def Ord (H:Hp) (x:V) (b:Bool):Prop:=Th H x/\((Ag4 H x=false/\b=false)\/∃ a ys,x=.ref a/\H a=some (.tup ys)/\(∀ y ∈ ys,Th H y)/\b=ordB ys)
theorem Ba8 {H H':Hp} {x:V} (t:Th H x) (s:Same H H') (h:Ag4 H x=false):Ag4 H' x=false:=by
 cases t with
 | lst e=>simp [Ag4,s _ _ e]
 | frz e=>simp [Ag4,s _ _ e]
 | tup e=>rw [show Ag4 H (.ref _)=true from by simp [Ag4,e]] at h; cases h
 | dic e=>simp [Ag4,s _ _ e]
 | _=>rfl
theorem Ord.same {H H':Hp} {x:V} {b:Bool} (o:Ord H x b) (s:Same H H'):Ord H' x b:=by
 obtain ⟨t,h⟩:=o
 refine ⟨t.same s,?_⟩
 rcases h with ⟨h,e⟩ | ⟨a,ys,rfl,ha,hy,e⟩
 ·exact .inl ⟨Ba8 t s h,e⟩
 ·exact .inr ⟨a,ys,rfl,s _ _ ha,λy z=>(hy y z).same s,e⟩
inductive Fm (K:PySem.W.Frag):List (Str×Addr)->List (Str×List Str)->Prop
 | nil:Fm K [] []
 | cons {k:Str} {a:Addr} {fs:List Str} {D:List (Str×Addr)} {F:List (Str×List Str)}:(∀ H,SqT K H a (fs.map V.str))->Fm K D F->Fm K ((k,a)::D) ((k,fs)::F)
theorem Fm.no {K:PySem.W.Frag} {D:List (Str×Addr)} {F:List (Str×List Str)} {k:Str} (h:Fm K D F) (e:PyProof.Rows.KTD.datumAt k F=none):PyProof.Rows.KTD.datumAt k D=none:=by
 induction h with
 | nil=>rfl
 | @cons k' a fs D F hs _ ih =>
  have e':(if decide (k=k')=true then some fs else PyProof.Rows.KTD.datumAt k F)=none:=e
  show (if decide (k=k')=true then some a else PyProof.Rows.KTD.datumAt k D)=none
  by_cases hk:decide (k=k')=true
  ·rw [if_pos hk] at e'; cases e'
  ·rw [if_neg hk] at e' ⊢; exact ih e'
theorem Fm.yes {K:PySem.W.Frag} {D:List (Str×Addr)} {F:List (Str×List Str)} {k:Str} {fs:List Str} (h:Fm K D F) (e:PyProof.Rows.KTD.datumAt k F=some fs):∃ a,PyProof.Rows.KTD.datumAt k D=Option.some a/\∀ H,SqT K H a (fs.map V.str):=by
 induction h with
 | nil=>cases e
 | @cons k' a fs' D F hs _ ih =>
  have e':(if decide (k=k')=true then Option.some fs' else PyProof.Rows.KTD.datumAt k F)=Option.some fs:=e
  show ∃ a',(if decide (k=k')=true then Option.some a else PyProof.Rows.KTD.datumAt k D)=Option.some a'/\_
  by_cases hk:decide (k=k')=true
  ·rw [if_pos hk] at e' ⊢; cases e'; exact ⟨a,rfl,hs⟩
  ·rw [if_neg hk] at e' ⊢; exact ih e'
structure Fms (K:PySem.W.Frag) (mg:Str->Option Value) (FF:Addr):Prop where
 m:mg "FORMS"=some (.ref FF)
 t:∃ D,Tab K FF D/\Fm K D fT
structure Tx2 (K:PySem.W.Frag) (mg:Str->Option Value):Prop where
 str:mg "str"=none
 tup:mg "tuple"=none
 zip:mg "zip"=none
 enu:mg "enumerate"=none
 wor:∃ t,mg "WORDS"=some (.int 281474976710656 t)
 reg:∃ t,mg "REGISTERS"=some (.int 4 t)
 ent:∃ t,mg "ENTRIES"=some (.int 61 t)
 ord:∃ t,mg "ORDERS"=some (.int 60 t)
def Ao3:Sp:=λvs H Q _=>∃ p,vs=[.str p]/\Q (.int (bnd p)) H
def At3:Sp:=λvs H Q _=>∃ x b,vs=[x]/\Ord H x b/\∀ H',Same H H'->Q (.bl b) H'
theorem cut1 (x:V) (r:List V):cutV (x::r) (some 1) none=r/\¬ (HT.sIx (x::r).length 0 (some 1)=0/\HT.sIx (x::r).length (x::r).length none=(x::r).length):=by
 have e:HT.sIx (x::r).length 0 (some 1)=1:=by
  show (if (1:Int)<0 then ((1:Int)+((x::r).length:Int)).toNat else min (1:Int).toNat (x::r).length)=1
  rw [if_neg (by decide),List.length_cons]
  show min 1 (r.length+1)=1
  omega
 constructor
 ·unfold cutV
  rw [e,HT.sIx_none]
  simp
 ·rw [e]
  rintro ⟨z,_⟩
  exact absurd z (by decide)
def Bm7:Sp:=λvs H Q _=>∃ (p:Addr) (xs:List V) (e:Int),vs=[.ref p,.int e]/\H p=some (.lst xs)/\1<=xs.length/\xs.length<=60/\(∀ x ∈ xs,Ord H x true)/\0<=e/\e<61/\∀ H',Same H H'->Q .non H'
section
variable {P : Program} {w : World} {K : PySem.W.Frag} {mg : Str → Option Value} {base : Heap} {C NP NL NW NI SC PL WC FA : Addr}
theorem scBo:Ab6 ["part"] ["part"] (Aa1 Al1):=FSc
theorem strV {p z:Str} (h:decide (V.str p=V.str z)=true):p=z:=V.str.inj (of_decide_eq_true h)
theorem strN {p z:Str} (h:¬ decide (V.str p=V.str z)=true):¬ p=z:=λe=>h (decide_eq_true (by rw [e]))
theorem Bj1 {f:Addr} {fd:FuncData} (F:Fun K "bound_of" "bound_of" Al1 f fd) (T:Txt K mg) (T2:Tx2 K mg):FnOk P w K mg base CX0 1 f fd ["part"] Ao3:=by
 obtain ⟨t1,m1⟩:=T2.wor
 obtain ⟨t2,m2⟩:=T2.reg
 obtain ⟨t3,m3⟩:=T2.ent
 refine F.ok scBo (λvs H Q E h=>?_) (λcdv A outer s H vs Q E hr h=>?_)
 ·obtain ⟨p,rfl,_⟩:=h
  rfl
 ·obtain ⟨p,rfl,q⟩:=h
  refine ⟨_,(Aa5 (Ae5 (Ac2 Ag8 (pv 0) Ad7 (Ac7 _)) (Aa6 (Ac3 (Ae0 (by rfl) m1 (show RelV (.int 281474976710656) (.int 281474976710656 t1) from ⟨_,rfl⟩)))) Ac4) (Aa5 (Ae5 (Ac2 Ag8 (pv 0) Ad7 (Ac7 _)) (Aa6 (Ac3 (Ae0 (by rfl) m3 (show RelV (.int 61) (.int 61 t3) from ⟨_,rfl⟩)))) Ac4) (Aa6 (Ac3 (Ae0 (by rfl) m2 (show RelV (.int 4) (.int 4 t2) from ⟨_,rfl⟩)))))),?_⟩
  refine ⟨_,rfl,rfl,_,rfl,ite2 (λz=>?_) (λz=>?_)⟩
  ·rw [show bnd p=281474976710656 from by unfold bnd; rw [if_pos (strV z)]] at q
   exact q
  ·refine ⟨_,rfl,rfl,_,rfl,ite2 (λz2=>?_) (λz2=>?_)⟩
   ·rw [show bnd p=61 from by unfold bnd; rw [if_neg (strN z),if_pos (strV z2)]] at q
    exact q
   ·rw [show bnd p=4 from by unfold bnd; rw [if_neg (strN z),if_neg (strN z2)]] at q
    exact q
theorem scOr:Ab6 ["thing","form"] ["thing"] (Aa1 Ak3):=FSc
theorem ndOr:(Ar9 "number" "part" ["thing","form"]).Nodup:=by decide +kernel
theorem By8:(".0":Str) ∉ (["thing","form"]:List Str):=by decide +kernel
theorem Bi6 {f f1 f2 FF:Addr} {fd fd1 fd2:FuncData} (F:Fun K "is_order" "is_order" Ak3 f fd) (B:Dn K mg "is_below" Ai0 ["thing","bound"] f1 fd1) (GB:FnOk P w K mg base CX0 2 f1 fd1 ["thing","bound"] Ai4) (N:Dn K mg "bound_of" Al1 ["part"] f2 fd2) (GN:FnOk P w K mg base CX0 1 f2 fd2 ["part"] Ao3)
  (Z:Fms K mg FF) (T:Txt K mg) (T2:Tx2 K mg):FnOk P w K mg base CX0 3 f fd ["thing"] At3:=by
 obtain ⟨DD,tab,fm⟩:=Z.t
 refine F.ok scOr (λvs H Q E h=>?_) (λcdv A outer s H vs Q E hr h=>?_)
 ·obtain ⟨x,b,rfl,_⟩:=h
  rfl
 ·obtain ⟨x,b,rfl,⟨th,od⟩,q⟩:=h
  have hr1:Room 1 _:=hr.mono (by decide)
  refine ⟨_,Aa5 (Ae5 (PW.pt (Ag2 (Ad0 (Ad3 (Ac0 Ag9 (by rfl) T.isi PyProof.Rows.boot_isinstance (Aa0 (pv 0) (Aa0 (Ae4 (by rfl) T2.tup PyProof.Rows.boot_tuple (show RelV (.ty "tuple") (.type "tuple") from rfl)) Aa4))))) (Ag1 (Ac2 Ag8 (Ac0 Ac6 (by rfl) T.len PySem.boot_len (Aa0 (pv 0) Aa4)) Aa3 (Ac7 _))))) (Aa6 (Ac3 Af5)) Ac4) (Aa5 (Ae5 (PW.pt (Ag2 (Ad0 (Ad3 (Ac0 Ao0 (by rfl) T.isi PyProof.Rows.boot_isinstance (Aa0 (Ab5 Ab3 (pv 0) Aa3 (λ_ _=>rfl)) (Aa0 (Ae4 (by rfl) T2.str PyProof.Rows.boot_str (show RelV (.ty "str") (.type "str") from rfl)) Aa4))))) (Ag1 (Ac2 Bd6 (Ab5 Ab3 (pv 0) Aa3 (λ_ _=>rfl)) (Ae0 (by rfl) Z.m (show RelV (.ref FF) (.ref FF) from rfl)) rfl)))) (Aa6 (Ac3 Af5)) Ac4) (Aa5 (Ae8 (i:=1) scOr.nd rfl (Or.inl rfl) (Ab5 Be9 (Ae0 (by rfl) Z.m (show RelV (.ref FF) (.ref FF) from rfl)) (Ab5 Ab3 (pv 0) Aa3 (λ_ _=>rfl)) (λ_ _=>rfl))) (Aa5 (Ae5 (Ac2 Bo6 (Ac0 Ac6 (by rfl) T.len PySem.boot_len (Aa0 (pv 0) Aa4)) (Ad9 Ah3 Aa3 (Ac0 Ac6 (by rfl) T.len PySem.boot_len (Aa0 (pv 1) Aa4))) (Ac7 _)) (Aa6 (Ac3 Af5)) Ac4) (Aa6 (Ac3 (Ac0 (As1 rfl) (by rfl) T.all PyProof.Rows.boot_all (Aa0 (Bh6 (te:=As7 Ai4 [] E0 (Aj6 (tVar 0) (Aj6 (As7 Ao3 [] E0 (Aj6 (tVar 1) tNil)) tNil))) rfl (Bt5 (by rfl) T2.zip (Aa0 (Ay4 Bs6 (pv 0) (Av1 Aa3) Bo2) (Aa0 (pv 1) Aa4))) (closureFor_none (by decide +kernel)) rfl (λC s₂ H₂ fp=>Ab9 GB hr (by rfl) B.m B.F.kp B.b .nil Ac8 (Aa0 (pv 0) (Aa0 (Ab9 GN hr1 (by rfl) N.m N.F.kp N.b .nil Ac8 (Aa0 (pv 1) Aa4)) Aa4))) ndOr (hdot:=By8)) Aa4))))))),?_⟩
  rcases od with ⟨ht,rfl⟩ | ⟨a,ys,rfl,ha,hy,rfl⟩
  ·refine ⟨_,rfl,x,rfl,th,_,rfl,?_⟩
   rw [ht]
   exact iteT (q H (Same.refl _))
  ·refine ⟨_,rfl,_,rfl,th,_,rfl,?_⟩
   rw [show Ag4 H (.ref a)=true from by simp [Ag4,ha]]
   refine iteF ?_
   refine ⟨_,rfl,a,_,rfl,.inr (SqT.of ha),rfl,_,rfl,?_⟩
   cases ys with
   | nil=>exact Ag3 (decide_eq_true rfl) (q H (Same.refl _))
   | cons y0 r =>
    refine Ab7 (decide_eq_false (by intro z; have z':=V.int.inj z; rw [List.length_cons] at z'; omega)) ?_
    have t0:Th H y0:=hy y0 List.mem_cons_self
    have tr:∀ y ∈ r,Th H y:=λy hm=>hy y (List.mem_cons_of_mem _ hm)
    have i0:atI (y0::r) 0=some y0:=by
     unfold atI ixN
     rw [if_pos (by decide),if_pos (by rw [List.length_cons]; omega)]
     rfl
    refine ⟨_,rfl,a,_,_,_,rfl,rfl,SqT.of ha,i0,y0,rfl,t0,_,rfl,?_⟩
    cases hs:isS y0 with
    | false =>
     refine iteT ?_
     have e:ordB (y0::r)=false:=by cases y0 <;> first | rfl | (simp [isS] at hs)
     rw [e] at q
     exact q H (Same.refl _)
    | true =>
     refine iteF ?_
     obtain ⟨z,rfl⟩:∃ z,y0=.str z:=by cases y0 <;> first | exact ⟨_,rfl⟩ | (simp [isS] at hs)
     refine ⟨_,rfl,a,_,_,_,rfl,rfl,SqT.of ha,i0,FF,DD,z,rfl,rfl,tab,_,rfl,?_⟩
     cases hd:PyProof.Rows.KTD.datumAt z fT with
     | none =>
      refine Ag3 (by rw [<- PyProof.Rows.KTD.isSome_datumAt,fm.no hd]; rfl) ?_
      have e:ordB (.str z::r)=false:=by simp only [ordB,hd]
      rw [e] at q
      exact q H (Same.refl _)
     | some fs =>
      obtain ⟨t,ht,hsq⟩:=fm.yes hd
      refine Ab7 (by rw [<- PyProof.Rows.KTD.isSome_datumAt,ht]; rfl) ?_
      refine ⟨_,rfl,a,_,_,_,rfl,rfl,SqT.of ha,i0,FF,DD,z,t,rfl,rfl,tab,ht,?_⟩
      have e:ordB (.str z::r)=(decide (r.length=fs.length) && (Ah0 r fs).all id):=by simp only [ordB,hd]
      rw [e] at q
      refine ⟨_,rfl,a,_,rfl,.inr (SqT.of ha),_,rfl,t,_,rfl,.inr (hsq H),_,_,rfl,rfl,rfl,_,rfl,?_⟩
      by_cases hl:r.length=fs.length
      ·refine Ab7 (by show (!decide (V.int (((V.str z::r).length:Nat):Int)=V.int (1+((fs.map V.str).length:Int))))=false; rw [decide_eq_true (by rw [List.length_cons,List.length_map,hl]; congr 1; omega)]; rfl) ?_
       rw [decide_eq_true hl,Bool.true_and] at q
       obtain ⟨c1,c2⟩:=cut1 (.str z) r
       refine ⟨_,rfl,1,rfl,a,_,rfl,SqT.of ha,c2,λp hp=>?_⟩
       rw [c1]
       have s1:=Aa7 (o:=.tup r) hp
       have hp1:upd H p (.tup r) p=some (.tup r):=upd_same
       generalize upd H p (.tup r)=H1 at s1 hp1 ⊢
       refine ⟨_,rfl,p,t,_,_,rfl,SqT.of hp1,hsq H1,?_⟩
       refine Bk3 (K:=K) (a:=p) (b:=t) (xs:=r) (ys:=fs.map V.str) (by rw [List.length_map]; exact hl) (λD i zs H'=>H1 D=none/\Same H1 H'/\H' D=some (.lst zs)/\zs=((Ah0 r fs).take i).map V.bl) ?_ ?_ ?_ ?_
       ·intro D hD
        exact ⟨hD,Aa7 hD,upd_same,rfl⟩
       ·rintro D i zs H' _ ⟨_,s',e',_⟩
        exact ⟨SqT.of (s' _ _ hp1),hsq H',e'⟩
       ·rintro D i y f zs H' u hy1 hf1 ⟨hD,s',e',hz⟩ hu
        rw [List.getElem?_map] at hf1
        cases ef:fs[i]? with
        | none=>rw [ef] at hf1; cases hf1
        | some f0 =>
         rw [ef] at hf1
         have hf2:V.str f0=f:=Option.some.inj hf1
         subst hf2
         have su:=Aa7 (o:=.tup [y,.str f0]) hu
         refine ⟨_,rfl,_,rfl,f0,rfl,y,_,rfl,((tr y (List.mem_of_getElem? hy1)).same (s1.trans s')).same su,su _ _ e',?_,hD,?_,upd_same,?_⟩
         ·rw [hz,List.length_map]
          have:i<fs.length:=(List.getElem?_eq_some_iff.mp ef).1
          have h2:=Bw3 hd
          exact Nat.lt_of_le_of_lt (by rw [List.length_take]; omega:_<=2) (by decide)
         ·exact Same.set (s'.trans su) hD
         ·rw [Al6 r fs i y f0 hy1 ef,hz,List.map_append]
          rfl
       ·rintro D zs H' ⟨hD,s',e',hz⟩
        have hz':zs=(Ah0 r fs).map V.bl:=by rw [hz,List.take_of_length_le (by rw [An7 r fs hl]; exact Nat.le_refl _)]
        subst hz'
        exact ⟨D,_,rfl,e',q H' (s1.trans s')⟩
      ·refine Ag3 (by show (!decide (V.int (((V.str z::r).length:Nat):Int)=V.int (1+((fs.map V.str).length:Int))))=true; rw [decide_eq_false (by intro y; have y':=V.int.inj y; rw [List.length_cons,List.length_map] at y'; omega)]; rfl) ?_
       rw [decide_eq_false hl,Bool.false_and] at q
       exact q H (Same.refl _)
theorem scCk:Ab6 ["program","entry","number","row"] ["program","entry"] (Aa1 sChk):=FSc
theorem Bv2 {f f1 f2:Addr} {fd fd1 fd2:FuncData} (F:Fun K "checked" "checked" sChk f fd) (D1:Dn K mg "is_order" Ak3 ["thing"] f1 fd1) (G1:FnOk P w K mg base CX0 3 f1 fd1 ["thing"] At3) (D2:Dn K mg "is_below" Ai0 ["thing","bound"] f2 fd2) (G2:FnOk P w K mg base CX0 2 f2 fd2 ["thing","bound"] Ai4) (T:Txt K mg) (T2:Tx2 K mg):FnOk P w K mg base CX0 4 f fd ["program","entry"] Bm7:=by
 obtain ⟨t1,m1⟩:=T2.ord
 obtain ⟨t2,m2⟩:=T2.ent
 refine F.ok scCk (λvs H Q E h'=>?_) (λcdv A outer s H vs Q E hr h'=>?_)
 ·obtain ⟨p,xs,e,rfl,_⟩:=h'
  rfl
 ·obtain ⟨p,xs,e,rfl,hp,l1,l2,ho,e0,e1,q⟩:=h'
  have hr2:Room 2 _:=hr.mono (by decide)
  refine ⟨_,(Aa5 (Ae5 (PW.pt (Ag2 (Ad0 (Ad3 (Ac0 Af7 (by rfl) T.isi PyProof.Rows.boot_isinstance (Aa0 (pv 0) (Aa0 (Ae4 (by rfl) T.lst PyProof.Rows.boot_list (show RelV (.ty "list") (.type "list") from rfl)) Aa4))))) (Ag1 (Ad0 (Ao8 Av3 Av3 Aa3 (Ac0 Ac6 (by rfl) T.len PySem.boot_len (Aa0 (pv 0) Aa4)) (Ae0 (by rfl) m1 (show RelV (.int 60) (.int 60 t1) from ⟨_,rfl⟩))))))) (Aa6 Ag7) Ac4) (Aa5 (Aq2 PassesOwn.never rfl (Bo3 (by rfl) T2.enu (Aa0 (pv 0) Aa4)) (Ay3 rfl (Af1 (Ae7 (i:=2) scCk.nd rfl (Or.inl rfl)) (Af1 (Ae7 (i:=3) scCk.nd rfl (Or.inl rfl)) Ao9))) (Aa6 (Ae5 (Ad0 (Ad3 (Ab9 G1 hr (by rfl) D1.m D1.F.kp D1.b .nil Ac8 (Aa0 (pv 3) Aa4)))) (Aa6 Ag7) Ac4))) (Aa6 (Ae5 (Ad0 (Ad3 (Ab9 G2 hr2 (by rfl) D2.m D2.F.kp D2.b .nil Ac8 (Aa0 (pv 1) (Aa0 (Ae0 (by rfl) m2 (show RelV (.int 61) (.int 61 t2) from ⟨_,rfl⟩)) Aa4))))) (Aa6 Ag7) Ac4)))),?_⟩
  refine ⟨_,rfl,_,rfl,.lst hp,_,rfl,Ab7 (by show (!Am2 H (.ref p))=false; rw [Ai9 hp]; rfl) ?_⟩
  refine ⟨_,rfl,p,_,rfl,.inl (SqL.of hp),1,_,rfl,rfl,_,rfl,Ag3 (decide_eq_true (by omega)) ⟨_,_,rfl,rfl,_,rfl,Ab7 (by show (!decide ((xs.length:Int)<=60))=false; rw [decide_eq_true (by omega)]; rfl) ?_⟩⟩
  refine ⟨_,rfl,p,_,rfl,SqL.of hp,Bk0 (K:=K) (a:=p) (xs:=xs) (λi σ H'=>Same H H'/\∃ v2 v3:Option V,σ=[some (.ref p),some (.int e),v2,v3]) ?_ ?_ ?_ ?_⟩
  ·exact ⟨Same.refl _,_,_,rfl⟩
  ·rintro i σ H' _ ⟨ss,_⟩
   exact SqL.of (ss _ _ hp)
  ·rintro i x σ H' t hi ⟨ss,v2,v3,rfl⟩ htn
   have st:=Aa7 (o:=.tup [V.int (i:Int),x]) htn
   refine ⟨t,_,rfl,SqT.of upd_same,rfl,_,_,rfl,_,_,rfl,rfl,?_⟩
   refine ⟨_,rfl,x,true,rfl,((ho x (List.mem_of_getElem? hi)).same ss).same st,λH2 s2=>⟨_,rfl,iteF ⟨(ss.trans st).trans s2,_,_,rfl⟩⟩⟩
  ·rintro σ H' ⟨ss,v2,v3,rfl⟩
   refine ⟨_,rfl,_,_,rfl,.int e,_,rfl,Ab7 (by show (!Af0 (.int e) 61)=false; rw [Ah9 e0 e1]; rfl) (q H' ss)⟩
end
end K33
end
section
namespace K33
open PySem L2
abbrev sWOf:Stmt:=top 25
abbrev Au0:Stmt:=top 26
abbrev Au8:Stmt:=top 27
abbrev sOdd:Stmt:=top 28
abbrev Au3:Stmt:=top 67
abbrev Au5:Stmt:=top 68
abbrev Al0:Stmt:=top 69
abbrev Au4:Stmt:=top 70
abbrev Ak9:Stmt:=top 73
abbrev Ak5:Stmt:=top 83
abbrev Au2:Stmt:=top 84
abbrev Ak6:Stmt:=top 85
abbrev sArr:Stmt:=Aa9 (top 91) 1
structure Mf (fs:List (Str×V)) (wy po rg sv hp:Addr) (gate ctr:Int) (kn hl:Bool):Prop where
 wys:fs.lookup ("ways":Str)=some (.ref wy)
 ord:fs.lookup ("orders":Str)=some (.ref po)
 gat:fs.lookup ("gate":Str)=some (.int gate)
 reg:fs.lookup ("registers":Str)=some (.ref rg)
 ker:fs.lookup ("kernel":Str)=some (.bl kn)
 sav:fs.lookup ("saved":Str)=some (.ref sv)
 hal:fs.lookup ("halted":Str)=some (.bl hl)
 hap:fs.lookup ("happened":Str)=some (.ref hp)
 ctr:fs.lookup ("counter":Str)=some (.int ctr)
 no:∀ n:Str,¬ n = "ways"->¬ n = "orders"->¬ n = "gate"->¬ n = "registers"->¬ n = "kernel"->¬ n = "saved"->¬ n = "halted"->¬ n = "happened"->¬ n = "counter"->fs.lookup n=none
 few:fs.length<=100
structure Mcc (K:PySem.W.Frag) (MC:Addr):Prop where
 cl:Cls K MC
 wys:NoAttr K MC "ways"
 ord:NoAttr K MC "orders"
 gat:NoAttr K MC "gate"
 reg:NoAttr K MC "registers"
 ker:NoAttr K MC "kernel"
 sav:NoAttr K MC "saved"
 hal:NoAttr K MC "halted"
 hap:NoAttr K MC "happened"
 ctr:NoAttr K MC "counter"
inductive R3
 | set (a:Nat) (v:Int)
 | add (a b:Nat)
 | both (a b:Nat)
 | odd (a b:Nat)
 | tell (a:Nat)
 | nought (a t:Nat)
 | jump (t:Nat)
 | halt
def R3.w:R3->Str
 | .set ..=>"set"
 | .add ..=>"add"
 | .both ..=>"both"
 | .odd ..=>"odd"
 | .tell ..=>"tell"
 | .nought ..=>"nought"
 | .jump ..=>"jump"
 | .halt=>"halt"
def R3.v:R3->List V
 | .set a v=>[.str "set",.int (a:Int),.int v]
 | .add a b=>[.str "add",.int (a:Int),.int (b:Int)]
 | .both a b=>[.str "both",.int (a:Int),.int (b:Int)]
 | .odd a b=>[.str "odd",.int (a:Int),.int (b:Int)]
 | .tell a=>[.str "tell",.int (a:Int)]
 | .nought a t=>[.str "nought",.int (a:Int),.int (t:Int)]
 | .jump t=>[.str "jump",.int (t:Int)]
 | .halt=>[.str "halt"]
def R3.Ok:R3->Prop
 | .set a v=>a<4/\0<=v/\v<281474976710656
 | .add a b=>a<4/\b<4
 | .both a b=>a<4/\b<4
 | .odd a b=>a<4/\b<4
 | .tell a=>a<4
 | .nought a t=>a<4/\t<61
 | .jump t=>t<61
 | .halt=>True
def R3.rs (rs:List Int):R3->List Int
 | .set a v=>rs.set a v
 | .add a b=>rs.set a ((rs.getD a 0+rs.getD b 0) % 281474976710656)
 | .both a b=>rs.set a (Builtin.bitAnd (rs.getD a 0) (rs.getD b 0))
 | .odd a b=>rs.set a (Builtin.bitXor (rs.getD a 0) (rs.getD b 0))
 | _=>rs
def R3.es (rs:List Int):R3->List Int
 | .tell a=>[rs.getD a 0]
 | _=>[]
def R3.at (rs:List Int) (c:Nat):R3->Nat
 | .jump t=>t
 | .nought a t=>if rs.getD a 0=0 then t else c+1
 | .halt=>c
 | _=>c+1
def R3.hl:R3->Bool
 | .halt=>true
 | _=>false
theorem R3.rs_len (rs:List Int) (r:R3):(r.rs rs).length=rs.length:=by
 cases r <;> first | rfl | exact List.length_set ..
theorem R3.ord {r:R3} (h:r.Ok):ordB r.v=true:=by
 have b4:∀ {a:Nat},a<4->Af0 (.int (a:Int)) 4=true:=λh=>Ah9 (by omega) (by omega)
 have b61:∀ {a:Nat},a<61->Af0 (.int (a:Int)) 61=true:=λh=>Ah9 (by omega) (by omega)
 cases r with
 | set a v =>
  show (true && [Af0 (.int (a:Int)) 4,Af0 (.int v) 281474976710656].all id)=true
  rw [b4 h.1,Ah9 h.2.1 h.2.2]; rfl
 | add a b =>
  show (true && [Af0 (.int (a:Int)) 4,Af0 (.int (b:Int)) 4].all id)=true
  rw [b4 h.1,b4 h.2]; rfl
 | both a b =>
  show (true && [Af0 (.int (a:Int)) 4,Af0 (.int (b:Int)) 4].all id)=true
  rw [b4 h.1,b4 h.2]; rfl
 | odd a b =>
  show (true && [Af0 (.int (a:Int)) 4,Af0 (.int (b:Int)) 4].all id)=true
  rw [b4 h.1,b4 h.2]; rfl
 | tell a =>
  show (true && [Af0 (.int (a:Int)) 4].all id)=true
  rw [b4 h]; rfl
 | nought a t =>
  show (true && [Af0 (.int (a:Int)) 4,Af0 (.int (t:Int)) 61].all id)=true
  rw [b4 h.1,b61 h.2]; rfl
 | jump t =>
  show (true && [Af0 (.int (t:Int)) 61].all id)=true
  rw [b61 h]; rfl
 | halt=>rfl
theorem R3.is_set {r:R3} (h:r.w = "set"):∃ x y,r=.set x y:=by
 cases r <;> first | exact ⟨_,_,rfl⟩ | (exfalso; simp only [R3.w] at h; exact absurd h (by decide +kernel))
theorem R3.is_add {r:R3} (h:r.w = "add"):∃ x y,r=.add x y:=by
 cases r <;> first | exact ⟨_,_,rfl⟩ | (exfalso; simp only [R3.w] at h; exact absurd h (by decide +kernel))
theorem R3.is_both {r:R3} (h:r.w = "both"):∃ x y,r=.both x y:=by
 cases r <;> first | exact ⟨_,_,rfl⟩ | (exfalso; simp only [R3.w] at h; exact absurd h (by decide +kernel))
theorem R3.is_odd {r:R3} (h:r.w = "odd"):∃ x y,r=.odd x y:=by
 cases r <;> first | exact ⟨_,_,rfl⟩ | (exfalso; simp only [R3.w] at h; exact absurd h (by decide +kernel))
theorem R3.is_tell {r:R3} (h:r.w = "tell"):∃ x,r=.tell x:=by
 cases r <;> first | exact ⟨_,rfl⟩ | (exfalso; simp only [R3.w] at h; exact absurd h (by decide +kernel))
theorem R3.is_nought {r:R3} (h:r.w = "nought"):∃ x y,r=.nought x y:=by
 cases r <;> first | exact ⟨_,_,rfl⟩ | (exfalso; simp only [R3.w] at h; exact absurd h (by decide +kernel))
theorem R3.is_jump {r:R3} (h:r.w = "jump"):∃ x,r=.jump x:=by
 cases r <;> first | exact ⟨_,rfl⟩ | (exfalso; simp only [R3.w] at h; exact absurd h (by decide +kernel))
theorem R3.is_halt {r:R3} (h:r.w = "halt"):r=.halt :=by
 cases r <;> first | exact rfl | (exfalso; simp only [R3.w] at h; exact absurd h (by decide +kernel))
inductive Rls (H:Hp):List V->List R3->Prop
 | nil:Rls H [] []
 | cons {t:Addr} {r:R3} {ys:List V} {rr:List R3}:H t=some (.tup r.v)->Rls H ys rr->Rls H (.ref t::ys) (r::rr)
theorem Rls.imp {H H':Hp} (f:∀ t xs,H t=some (.tup xs)->H' t=some (.tup xs)) {ys:List V} {rr:List R3} (h:Rls H ys rr):Rls H' ys rr:=by
 induction h with
 | nil=>exact .nil
 | cons e _ ih=>exact .cons (f _ _ e) ih
theorem Rls.len {H:Hp} {ys:List V} {rr:List R3} (h:Rls H ys rr):ys.length=rr.length:=by
 induction h with
 | nil=>rfl
 | cons e _ ih=>rw [List.length_cons,List.length_cons,ih]
theorem Rls.get {H:Hp} {ys:List V} {rr:List R3} (h:Rls H ys rr):∀ (i:Nat) (r:R3),rr[i]?=some r->∃ t,ys[i]?=some (.ref t)/\H t=some (.tup r.v):=by
 induction h with
 | nil=>intro i x e; simp at e
 | @cons t r ys rr e _ ih =>
  intro i x he
  cases i with
  | zero =>
   have he':some r=some x:=he
   cases he'
   exact ⟨t,rfl,e⟩
  | succ i=>exact ih i x he
inductive Evs (H:Hp):List V->List Int->Prop
 | nil:Evs H [] []
 | cons {t:Addr} {i:Int} {ys:List V} {es:List Int}:H t=some (.tup [.str "told",.int i])->Evs H ys es->Evs H (.ref t::ys) (i::es)
theorem Evs.imp {H H':Hp} (f:∀ t xs,H t=some (.tup xs)->H' t=some (.tup xs)) {ys:List V} {es:List Int} (h:Evs H ys es):Evs H' ys es:=by
 induction h with
 | nil=>exact .nil
 | cons e _ ih=>exact .cons (f _ _ e) ih
theorem Evs.len {H:Hp} {ys:List V} {es:List Int} (h:Evs H ys es):ys.length=es.length:=by
 induction h with
 | nil=>rfl
 | cons e _ ih=>rw [List.length_cons,List.length_cons,ih]
theorem Evs.app {H:Hp} {ys:List V} {es:List Int} {i:Int} {t:Addr} (h:Evs H ys es) (e:H t=some (.tup [.str "told",.int i])):Evs H (ys++[.ref t]) (es++[i]):=by
 induction h with
 | nil=>exact .cons e .nil
 | cons e' _ ih=>exact .cons e' ih
structure Mc (MC:Addr) (H:Hp) (mc wy po rg sv hp:Addr) (gate:Int) (ctr:Nat) (kn hl:Bool) (rr:List R3) (rs es:List Int):Prop where
 ob:∃ dx fs,H mc=some (.ins MC dx fs)/\Mf fs wy po rg sv hp gate (ctr:Int) kn hl
 opo:∃ ys,H po=some (.lst ys)/\Rls H ys rr
 org:H rg=some (.lst (rs.map V.int))
 ohp:∃ ys,H hp=some (.lst ys)/\Evs H ys es
 osv:H sv=some (.tup [.int 0,.int 0,.int 0,.bl true])
 ok:∀ r ∈ rr,r.Ok
 ln:rs.length=4
 n1:rg≠po
 n2:rg≠hp
 n3:hp≠po
theorem Mc.same {MC:Addr} {H H':Hp} {mc wy po rg sv hp:Addr} {gate:Int} {ctr:Nat} {kn hl:Bool} {rr:List R3} {rs es:List Int} (m:Mc MC H mc wy po rg sv hp gate ctr kn hl rr rs es) (s:Same H H'):Mc MC H' mc wy po rg sv hp gate ctr kn hl rr rs es:=by
 obtain ⟨dx,fs,e,f⟩:=m.ob
 obtain ⟨ys,e1,r1⟩:=m.opo
 obtain ⟨zs,e2,r2⟩:=m.ohp
 exact ⟨⟨dx,fs,s _ _ e,f⟩,⟨ys,s _ _ e1,r1.imp λt xs z=>s _ _ z⟩,s _ _ m.org,⟨zs,s _ _ e2,r2.imp λt xs z=>s _ _ z⟩,s _ _ m.osv,m.ok,m.ln,m.n1,m.n2,m.n3⟩
theorem Mc.reg {MC:Addr} {H:Hp} {mc wy po rg sv hp:Addr} {gate:Int} {ctr:Nat} {kn hl:Bool} {rr:List R3} {rs es:List Int} (m:Mc MC H mc wy po rg sv hp gate ctr kn hl rr rs es) (a:Nat) (v:Int):Mc MC (upd H rg (.lst ((rs.map V.int).set a (.int v)))) mc wy po rg sv hp gate ctr kn hl rr (rs.set a v) es:=by
 obtain ⟨dx,fs,e,f⟩:=m.ob
 obtain ⟨ys,e1,r1⟩:=m.opo
 obtain ⟨zs,e2,r2⟩:=m.ohp
 have k:∀ b o,b≠rg->H b=some o->upd H rg (.lst ((rs.map V.int).set a (.int v))) b=some o:=λb o nb e=>by rw [Ab0 nb]; exact e
 have nt:∀ t xs,H t=some (.tup xs)->upd H rg (.lst ((rs.map V.int).set a (.int v))) t=some (.tup xs):=λt xs z=>k _ _ (Ae2 z m.org (by intro z; cases z)) z
 exact ⟨⟨dx,fs,k _ _ (Ae2 e m.org (by intro z; cases z)) e,f⟩,⟨ys,k _ _ m.n1.symm e1,r1.imp nt⟩,by rw [upd_same,List.map_set],⟨zs,k _ _ m.n2.symm e2,r2.imp nt⟩,nt _ _ m.osv,m.ok,by rw [List.length_set]; exact m.ln,m.n1,m.n2,m.n3⟩
theorem Mc.tell {MC:Addr} {H:Hp} {mc wy po rg sv hp t:Addr} {gate:Int} {ctr:Nat} {kn hl:Bool} {rr:List R3} {rs es:List Int} {i:Int} {ys:List V} (m:Mc MC H mc wy po rg sv hp gate ctr kn hl rr rs es) (ey:H hp=some (.lst ys)) (e:H t=some (.tup [.str "told",.int i])):Mc MC (upd H hp (.lst (ys++[.ref t]))) mc wy po rg sv hp gate ctr kn hl rr rs (es++[i]):=by
 obtain ⟨dx,fs,e0,f⟩:=m.ob
 obtain ⟨ws,e1,r1⟩:=m.opo
 obtain ⟨zs,e2,r2⟩:=m.ohp
 rw [ey] at e2
 cases e2
 have k:∀ b o,b≠hp->H b=some o->upd H hp (.lst (ys++[.ref t])) b=some o:=λb o nb e=>by rw [Ab0 nb]; exact e
 have nt:∀ t' xs,H t'=some (.tup xs)->upd H hp (.lst (ys++[.ref t])) t'=some (.tup xs):=λt' xs z=>k _ _ (Ae2 z ey (by intro z; cases z)) z
 exact ⟨⟨dx,fs,k _ _ (Ae2 e0 ey (by intro z; cases z)) e0,f⟩,⟨ws,k _ _ m.n3.symm e1,r1.imp nt⟩,k _ _ m.n2 m.org,⟨_,upd_same,(r2.imp nt).app (nt _ _ e)⟩,nt _ _ m.osv,m.ok,m.ln,m.n1,m.n2,m.n3⟩
def Mk3 (rg hp:Addr) (H H':Hp):Prop:=∀ b o,b≠rg->b≠hp->H b=some o->H' b=some o
def spD3 (MC:Addr) (w:Str):Sp:=λvs H Q _=>∃ (mc wy po rg sv hp:Addr) (gate:Int) (ctr:Nat) (kn hl:Bool) (rr:List R3) (rs es:List Int) (t:Addr) (r:R3),vs=[.ref mc,.ref t]/\Mc MC H mc wy po rg sv hp gate ctr kn hl rr rs es/\es.length<=900/\H t=some (.tup r.v)/\r.Ok/\r.w=w/\∀ H',Mc MC H' mc wy po rg sv hp gate ctr kn hl rr (r.rs rs) (es++r.es rs)->Mk3 rg hp H H'->Q .non H'
def Ao4 (g:Int->Int->Int):Sp:=λvs H Q _=>∃ a b:Int,vs=[.int a,.int b]/\Q (.int (g a b)) H
def Bm1:Sp:=λvs H Q _=>∃ a:Int,vs=[.int a]/\Q (.int (a % 281474976710656)) H
theorem Mf.setC {fs:List (Str×V)} {wy po rg sv hp:Addr} {gate ctr:Int} {kn hl:Bool} (m:Mf fs wy po rg sv hp gate ctr kn hl) (c:Int):Mf (putF "counter" (.int c) fs) wy po rg sv hp gate c kn hl:=by
 refine ⟨?_,?_,?_,?_,?_,?_,?_,?_,?_,λn h1 h2 h3 h4 h5 h6 h7 h8 h9=>?_,?_⟩
 ·rw [Aa2,if_neg (by decide +kernel)]; exact m.wys
 ·rw [Aa2,if_neg (by decide +kernel)]; exact m.ord
 ·rw [Aa2,if_neg (by decide +kernel)]; exact m.gat
 ·rw [Aa2,if_neg (by decide +kernel)]; exact m.reg
 ·rw [Aa2,if_neg (by decide +kernel)]; exact m.ker
 ·rw [Aa2,if_neg (by decide +kernel)]; exact m.sav
 ·rw [Aa2,if_neg (by decide +kernel)]; exact m.hal
 ·rw [Aa2,if_neg (by decide +kernel)]; exact m.hap
 ·rw [Aa2,if_pos rfl]
 ·rw [Aa2,if_neg h9]; exact m.no n h1 h2 h3 h4 h5 h6 h7 h8 h9
 ·rw [Ag0 _ _ (by rw [m.ctr]; rfl)]; exact m.few
theorem Mf.setH {fs:List (Str×V)} {wy po rg sv hp:Addr} {gate ctr:Int} {kn hl:Bool} (m:Mf fs wy po rg sv hp gate ctr kn hl) (b:Bool):Mf (putF "halted" (.bl b) fs) wy po rg sv hp gate ctr kn b:=by
 refine ⟨?_,?_,?_,?_,?_,?_,?_,?_,?_,λn h1 h2 h3 h4 h5 h6 h7 h8 h9=>?_,?_⟩
 ·rw [Aa2,if_neg (by decide +kernel)]; exact m.wys
 ·rw [Aa2,if_neg (by decide +kernel)]; exact m.ord
 ·rw [Aa2,if_neg (by decide +kernel)]; exact m.gat
 ·rw [Aa2,if_neg (by decide +kernel)]; exact m.reg
 ·rw [Aa2,if_neg (by decide +kernel)]; exact m.ker
 ·rw [Aa2,if_neg (by decide +kernel)]; exact m.sav
 ·rw [Aa2,if_pos rfl]
 ·rw [Aa2,if_neg (by decide +kernel)]; exact m.hap
 ·rw [Aa2,if_neg (by decide +kernel)]; exact m.ctr
 ·rw [Aa2,if_neg h7]; exact m.no n h1 h2 h3 h4 h5 h6 h7 h8 h9
 ·rw [Ag0 _ _ (by rw [m.hal]; rfl)]; exact m.few
theorem Mc.fld {MC:Addr} {H:Hp} {mc wy po rg sv hp dx:Addr} {gate:Int} {ctr ctr':Nat} {kn hl hl':Bool} {rr:List R3} {rs es:List Int} {fs fs':List (Str×V)} (m:Mc MC H mc wy po rg sv hp gate ctr kn hl rr rs es) (e:H mc=some (.ins MC dx fs)) (f:Mf fs' wy po rg sv hp gate (ctr':Int) kn hl'):Mc MC (upd H mc (.ins MC dx fs')) mc wy po rg sv hp gate ctr' kn hl' rr rs es:=by
 obtain ⟨ys,e1,r1⟩:=m.opo
 obtain ⟨zs,e2,r2⟩:=m.ohp
 have k:∀ b o,b≠mc->H b=some o->upd H mc (.ins MC dx fs') b=some o:=λb o nb e=>by rw [Ab0 nb]; exact e
 have nt:∀ t xs,H t=some (.tup xs)->upd H mc (.ins MC dx fs') t=some (.tup xs):=λt xs z=>k _ _ (Ae2 z e (by intro z; cases z)) z
 have nl:∀ t xs,H t=some (.lst xs)->upd H mc (.ins MC dx fs') t=some (.lst xs):=λt xs z=>k _ _ (Ae2 z e (by intro z; cases z)) z
 exact ⟨⟨dx,fs',upd_same,f⟩,⟨ys,nl _ _ e1,r1.imp nt⟩,nl _ _ m.org,⟨zs,nl _ _ e2,r2.imp nt⟩,nt _ _ m.osv,m.ok,m.ln,m.n1,m.n2,m.n3⟩
def spL3 (MC:Addr) (w:Str):Sp:=λvs H Q _=>∃ (mc wy po rg sv hp:Addr) (gate:Int) (ctr:Nat) (kn hl:Bool) (rr:List R3) (rs es:List Int) (t:Addr) (r:R3),vs=[.ref mc,.ref t]/\Mc MC H mc wy po rg sv hp gate ctr kn hl rr rs es/\H t=some (.tup r.v)/\r.Ok/\r.w=w/\∀ H',Mc MC H' mc wy po rg sv hp gate ctr kn (hl || r.hl) rr rs es->(∀ b o,b≠mc->H b=some o->H' b=some o)->Q (.int ((r.at rs ctr:Nat):Int)) H'
def Bm8 (MC:Addr):Sp:=λvs H Q _=>∃ (mc wy po rg sv hp:Addr) (gate:Int) (ctr c:Nat) (kn hl:Bool) (rr:List R3) (rs es:List Int),vs=[.ref mc,.int (c:Int)]/\Mc MC H mc wy po rg sv hp gate ctr kn hl rr rs es/\∀ H',Mc MC H' mc wy po rg sv hp gate c kn (hl || decide (rr.length<=c)) rr rs es->(∀ b o,b≠mc->H b=some o->H' b=some o)->Q .non H'
section
variable {P : Program} {w : World} {K : PySem.W.Frag} {mg : Str → Option Value} {base : Heap} {C NP NL NW NI SC PL WC FA MC : Addr}
theorem scWO:Ab6 ["number"] ["number"] (Aa1 sWOf):=FSc
theorem Bu4 {f f1:Addr} {fd fd1:FuncData} (F:Fun K "word_of" "word_of" sWOf f fd) (D1:Dn K mg "is_whole" Ai7 ["thing"] f1 fd1) (G1:FnOk P w K mg base CX0 1 f1 fd1 ["thing"] Af9) (T2:Tx2 K mg):FnOk P w K mg base CX0 2 f fd ["number"] Bm1:=by
 obtain ⟨t1,m1⟩:=T2.wor
 refine F.ok scWO (λvs H Q E h'=>?_) (λcdv A outer s H vs Q E hr h'=>?_)
 ·obtain ⟨i,rfl,_⟩:=h'
  rfl
 ·obtain ⟨i,rfl,q⟩:=h'
  refine ⟨_,(Aa5 (Ae5 (Ad0 (Ad3 (Ab9 G1 hr (by rfl) D1.m D1.F.kp D1.b .nil Ac8 (Aa0 (pv 0) Aa4)))) (Aa6 Ag7) Ac4) (Aa6 (Ac3 (Ad9 Ai2 (pv 0) (Ae0 (by rfl) m1 (show RelV (.int 281474976710656) (.int 281474976710656 t1) from ⟨_,rfl⟩)))))),?_⟩
  exact ⟨_,rfl,_,rfl,.int i,_,rfl,iteF ⟨_,rfl,i,_,rfl,rfl,(by show (0:Int)<281474976710656; decide),q⟩⟩
theorem Bx6:Ab6 ["one","other"] ["one","other"] (Aa1 Au0):=FSc
theorem Bp2 {f f1:Addr} {fd fd1:FuncData} (F:Fun K "plus" "plus" Au0 f fd) (D1:Dn K mg "word_of" sWOf ["number"] f1 fd1) (G1:FnOk P w K mg base CX0 2 f1 fd1 ["number"] Bm1):FnOk P w K mg base CX0 3 f fd ["one","other"] (Ao4 (λa b=>(a+b) % 281474976710656)):=by
 refine F.ok Bx6 (λvs H Q E h'=>?_) (λcdv A outer s H vs Q E hr h'=>?_)
 ·obtain ⟨i,j,rfl,_⟩:=h'
  rfl
 ·obtain ⟨i,j,rfl,q⟩:=h'
  refine ⟨_,(Aa6 (Ac3 (Ab9 G1 hr (by rfl) D1.m D1.F.kp D1.b .nil Ac8 (Aa0 (Ad9 Ah3 (pv 0) (pv 1)) Aa4)))),?_⟩
  exact ⟨_,rfl,_,rfl,i,j,rfl,rfl,_,rfl,q⟩
theorem scBt:Ab6 ["one","other"] ["one","other"] (Aa1 Au8):=FSc
theorem Bp7 {f:Addr} {fd:FuncData} (F:Fun K "both" "both" Au8 f fd):FnOk P w K mg base CX0 1 f fd ["one","other"] (Ao4 (Builtin.bitAnd)):=by
 refine F.ok scBt (λvs H Q E h'=>?_) (λcdv A outer s H vs Q E hr h'=>?_)
 ·obtain ⟨i,j,rfl,_⟩:=h'
  rfl
 ·obtain ⟨i,j,rfl,q⟩:=h'
  refine ⟨_,(Aa6 (Ac3 (Ad9 Bl3 (pv 0) (pv 1)))),?_⟩
  exact ⟨_,rfl,_,rfl,i,j,rfl,rfl,q⟩
theorem scOd:Ab6 ["one","other"] ["one","other"] (Aa1 sOdd):=FSc
theorem Bu5 {f:Addr} {fd:FuncData} (F:Fun K "odd" "odd" sOdd f fd):FnOk P w K mg base CX0 1 f fd ["one","other"] (Ao4 (Builtin.bitXor)):=by
 refine F.ok scOd (λvs H Q E h'=>?_) (λcdv A outer s H vs Q E hr h'=>?_)
 ·obtain ⟨i,j,rfl,_⟩:=h'
  rfl
 ·obtain ⟨i,j,rfl,q⟩:=h'
  refine ⟨_,(Aa6 (Ac3 (Ad9 Bl0 (pv 0) (pv 1)))),?_⟩
  exact ⟨_,rfl,_,rfl,i,j,rfl,rfl,q⟩
theorem Bs7:Ab6 ["machine","row"] ["machine","row"] (Aa1 Au3):=FSc
theorem Be2 {f:Addr} {fd:FuncData} (F:Fun K "do_set" "do_set" Au3 f fd) (MK:Mcc K MC):FnOk P w K mg base CX0 1 f fd ["machine","row"] (spD3 MC "set"):=by
 refine F.ok Bs7 (λvs H Q E h'=>?_) (λcdv A outer s H vs Q E hr h'=>?_)
 ·obtain ⟨mc,wy,po,rg,sv,hp,gate,ctr,kn,hl,rr,rs,es,t,r,rfl,_⟩:=h'
  rfl
 ·obtain ⟨mc,wy,po,rg,sv,hp,gate,ctr,kn,hl,rr,rs,es,t,r,rfl,m,_,ht,hok,hw,q⟩:=h'
  obtain ⟨dx,fs,hm,mf⟩:=m.ob
  refine ⟨_,(Aa6 (Ai1 (Ab5 Ab3 (pv 1) Aa3 (λ_ _=>rfl)) (Aj4 (Ad5 (pv 0) rfl) (Ab5 Ab3 (pv 1) Aa3 (λ_ _=>rfl)) Af8))),?_⟩
  obtain ⟨a,v,rfl⟩:=R3.is_set hw
  refine ⟨_,rfl,t,_,_,.int v,rfl,rfl,SqT.of ht,rfl,_,rfl,mc,MC,dx,fs,_,rfl,hm,MK.cl,MK.reg,mf.reg,_,rfl,t,_,_,.int (a:Int),rfl,rfl,SqT.of ht,rfl,rg,_,_,a,rfl,rfl,m.org,Ah5 (by rw [List.length_map,m.ln]; exact hok.1),?_⟩
  refine q _ ?_ (λb o n1 _ e=>by rw [Ab0 n1]; exact e)
  show Mc MC _ mc wy po rg sv hp gate ctr kn hl rr _ (es++[])
  rw [List.append_nil]
  exact m.reg a _
theorem Bs9:Ab6 ["machine","row"] ["machine","row"] (Aa1 Au5):=FSc
theorem Be4 {f f1:Addr} {fd fd1:FuncData} (F:Fun K "do_add" "do_add" Au5 f fd) (D1:Dn K mg "plus" Au0 ["one","other"] f1 fd1) (G1:FnOk P w K mg base CX0 3 f1 fd1 ["one","other"] (Ao4 (λa b=>(a+b) % 281474976710656))) (MK:Mcc K MC):FnOk P w K mg base CX0 4 f fd ["machine","row"] (spD3 MC "add"):=by
 refine F.ok Bs9 (λvs H Q E h'=>?_) (λcdv A outer s H vs Q E hr h'=>?_)
 ·obtain ⟨mc,wy,po,rg,sv,hp,gate,ctr,kn,hl,rr,rs,es,t,r,rfl,_⟩:=h'
  rfl
 ·obtain ⟨mc,wy,po,rg,sv,hp,gate,ctr,kn,hl,rr,rs,es,t,r,rfl,m,_,ht,hok,hw,q⟩:=h'
  obtain ⟨dx,fs,hm,mf⟩:=m.ob
  refine ⟨_,(Aa6 (Ai1 (Ab9 G1 hr (by rfl) D1.m D1.F.kp D1.b .nil Ac8 (Aa0 (Ab5 Ad4 (Ad5 (pv 0) rfl) (Ab5 Ab3 (pv 1) Aa3 (λ_ _=>rfl)) (λ_ _=>rfl)) (Aa0 (Ab5 Ad4 (Ad5 (pv 0) rfl) (Ab5 Ab3 (pv 1) Aa3 (λ_ _=>rfl)) (λ_ _=>rfl)) Aa4))) (Aj4 (Ad5 (pv 0) rfl) (Ab5 Ab3 (pv 1) Aa3 (λ_ _=>rfl)) Af8))),?_⟩
  obtain ⟨a,b,rfl⟩:=R3.is_add hw
  refine ⟨_,rfl,mc,MC,dx,fs,_,rfl,hm,MK.cl,MK.reg,mf.reg,_,rfl,t,_,_,.int (a:Int),rfl,rfl,SqT.of ht,rfl,rg,_,_,_,rfl,rfl,SqL.of m.org,Ad2 (by rw [m.ln]; exact hok.1),_,rfl,mc,MC,dx,fs,_,rfl,hm,MK.cl,MK.reg,mf.reg,_,rfl,t,_,_,.int (b:Int),rfl,rfl,SqT.of ht,rfl,rg,_,_,_,rfl,rfl,SqL.of m.org,Ad2 (by rw [m.ln]; exact hok.2),_,_,rfl,_,rfl,mc,MC,dx,fs,_,rfl,hm,MK.cl,MK.reg,mf.reg,_,rfl,t,_,_,.int (a:Int),rfl,rfl,SqT.of ht,rfl,rg,_,_,a,rfl,rfl,m.org,Ah5 (by rw [List.length_map,m.ln]; exact hok.1),?_⟩
  refine q _ ?_ (λb o n1 _ e=>by rw [Ab0 n1]; exact e)
  show Mc MC _ mc wy po rg sv hp gate ctr kn hl rr _ (es++[])
  rw [List.append_nil]
  exact m.reg a _
theorem Bn6:Ab6 ["machine","row"] ["machine","row"] (Aa1 Al0):=FSc
theorem Ba0 {f f1:Addr} {fd fd1:FuncData} (F:Fun K "do_both" "do_both" Al0 f fd) (D1:Dn K mg "both" Au8 ["one","other"] f1 fd1) (G1:FnOk P w K mg base CX0 1 f1 fd1 ["one","other"] (Ao4 (Builtin.bitAnd))) (MK:Mcc K MC):FnOk P w K mg base CX0 2 f fd ["machine","row"] (spD3 MC "both"):=by
 refine F.ok Bn6 (λvs H Q E h'=>?_) (λcdv A outer s H vs Q E hr h'=>?_)
 ·obtain ⟨mc,wy,po,rg,sv,hp,gate,ctr,kn,hl,rr,rs,es,t,r,rfl,_⟩:=h'
  rfl
 ·obtain ⟨mc,wy,po,rg,sv,hp,gate,ctr,kn,hl,rr,rs,es,t,r,rfl,m,_,ht,hok,hw,q⟩:=h'
  obtain ⟨dx,fs,hm,mf⟩:=m.ob
  refine ⟨_,(Aa6 (Ai1 (Ab9 G1 hr (by rfl) D1.m D1.F.kp D1.b .nil Ac8 (Aa0 (Ab5 Ad4 (Ad5 (pv 0) rfl) (Ab5 Ab3 (pv 1) Aa3 (λ_ _=>rfl)) (λ_ _=>rfl)) (Aa0 (Ab5 Ad4 (Ad5 (pv 0) rfl) (Ab5 Ab3 (pv 1) Aa3 (λ_ _=>rfl)) (λ_ _=>rfl)) Aa4))) (Aj4 (Ad5 (pv 0) rfl) (Ab5 Ab3 (pv 1) Aa3 (λ_ _=>rfl)) Af8))),?_⟩
  obtain ⟨a,b,rfl⟩:=R3.is_both hw
  refine ⟨_,rfl,mc,MC,dx,fs,_,rfl,hm,MK.cl,MK.reg,mf.reg,_,rfl,t,_,_,.int (a:Int),rfl,rfl,SqT.of ht,rfl,rg,_,_,_,rfl,rfl,SqL.of m.org,Ad2 (by rw [m.ln]; exact hok.1),_,rfl,mc,MC,dx,fs,_,rfl,hm,MK.cl,MK.reg,mf.reg,_,rfl,t,_,_,.int (b:Int),rfl,rfl,SqT.of ht,rfl,rg,_,_,_,rfl,rfl,SqL.of m.org,Ad2 (by rw [m.ln]; exact hok.2),_,_,rfl,_,rfl,mc,MC,dx,fs,_,rfl,hm,MK.cl,MK.reg,mf.reg,_,rfl,t,_,_,.int (a:Int),rfl,rfl,SqT.of ht,rfl,rg,_,_,a,rfl,rfl,m.org,Ah5 (by rw [List.length_map,m.ln]; exact hok.1),?_⟩
  refine q _ ?_ (λb o n1 _ e=>by rw [Ab0 n1]; exact e)
  show Mc MC _ mc wy po rg sv hp gate ctr kn hl rr _ (es++[])
  rw [List.append_nil]
  exact m.reg a _
theorem Bs8:Ab6 ["machine","row"] ["machine","row"] (Aa1 Au4):=FSc
theorem Be3 {f f1:Addr} {fd fd1:FuncData} (F:Fun K "do_odd" "do_odd" Au4 f fd) (D1:Dn K mg "odd" sOdd ["one","other"] f1 fd1) (G1:FnOk P w K mg base CX0 1 f1 fd1 ["one","other"] (Ao4 (Builtin.bitXor))) (MK:Mcc K MC):FnOk P w K mg base CX0 2 f fd ["machine","row"] (spD3 MC "odd"):=by
 refine F.ok Bs8 (λvs H Q E h'=>?_) (λcdv A outer s H vs Q E hr h'=>?_)
 ·obtain ⟨mc,wy,po,rg,sv,hp,gate,ctr,kn,hl,rr,rs,es,t,r,rfl,_⟩:=h'
  rfl
 ·obtain ⟨mc,wy,po,rg,sv,hp,gate,ctr,kn,hl,rr,rs,es,t,r,rfl,m,_,ht,hok,hw,q⟩:=h'
  obtain ⟨dx,fs,hm,mf⟩:=m.ob
  refine ⟨_,(Aa6 (Ai1 (Ab9 G1 hr (by rfl) D1.m D1.F.kp D1.b .nil Ac8 (Aa0 (Ab5 Ad4 (Ad5 (pv 0) rfl) (Ab5 Ab3 (pv 1) Aa3 (λ_ _=>rfl)) (λ_ _=>rfl)) (Aa0 (Ab5 Ad4 (Ad5 (pv 0) rfl) (Ab5 Ab3 (pv 1) Aa3 (λ_ _=>rfl)) (λ_ _=>rfl)) Aa4))) (Aj4 (Ad5 (pv 0) rfl) (Ab5 Ab3 (pv 1) Aa3 (λ_ _=>rfl)) Af8))),?_⟩
  obtain ⟨a,b,rfl⟩:=R3.is_odd hw
  refine ⟨_,rfl,mc,MC,dx,fs,_,rfl,hm,MK.cl,MK.reg,mf.reg,_,rfl,t,_,_,.int (a:Int),rfl,rfl,SqT.of ht,rfl,rg,_,_,_,rfl,rfl,SqL.of m.org,Ad2 (by rw [m.ln]; exact hok.1),_,rfl,mc,MC,dx,fs,_,rfl,hm,MK.cl,MK.reg,mf.reg,_,rfl,t,_,_,.int (b:Int),rfl,rfl,SqT.of ht,rfl,rg,_,_,_,rfl,rfl,SqL.of m.org,Ad2 (by rw [m.ln]; exact hok.2),_,_,rfl,_,rfl,mc,MC,dx,fs,_,rfl,hm,MK.cl,MK.reg,mf.reg,_,rfl,t,_,_,.int (a:Int),rfl,rfl,SqT.of ht,rfl,rg,_,_,a,rfl,rfl,m.org,Ah5 (by rw [List.length_map,m.ln]; exact hok.1),?_⟩
  refine q _ ?_ (λb o n1 _ e=>by rw [Ab0 n1]; exact e)
  show Mc MC _ mc wy po rg sv hp gate ctr kn hl rr _ (es++[])
  rw [List.append_nil]
  exact m.reg a _
theorem Bn5:Ab6 ["machine","row"] ["machine","row"] (Aa1 Ak9):=FSc
theorem Az9 {f:Addr} {fd:FuncData} (F:Fun K "do_tell" "do_tell" Ak9 f fd) (MK:Mcc K MC):FnOk P w K mg base CX0 1 f fd ["machine","row"] (spD3 MC "tell"):=by
 refine F.ok Bn5 (λvs H Q E h'=>?_) (λcdv A outer s H vs Q E hr h'=>?_)
 ·obtain ⟨mc,wy,po,rg,sv,hp,gate,ctr,kn,hl,rr,rs,es,t,r,rfl,_⟩:=h'
  rfl
 ·obtain ⟨mc,wy,po,rg,sv,hp,gate,ctr,kn,hl,rr,rs,es,t,r,rfl,m,le,ht,hok,hw,q⟩:=h'
  obtain ⟨dx,fs,hm,mf⟩:=m.ob
  obtain ⟨ys,ey,ty⟩:=m.ohp
  have ly:=ty.len
  obtain ⟨a,rfl⟩:=R3.is_tell hw
  refine ⟨_,(Aa6 (Af3 (Bo4 PySem.F.plainAttrs_list PySem.F.slot_list_append PySem.F.type_list_append Ah4 (Ad5 (pv 0) rfl) (Aa0 (Ae3 (Aa0 Ad7 (Aa0 (Ab5 Ad4 (Ad5 (pv 0) rfl) (Ab5 Ab3 (pv 1) Aa3 (λ_ _=>rfl)) (λ_ _=>rfl)) Aa4))) Aa4)))),?_⟩
  refine ⟨_,rfl,mc,MC,dx,fs,_,rfl,hm,MK.cl,MK.hap,mf.hap,.inl ⟨rfl,_,SqL.of ey⟩,_,rfl,mc,MC,dx,fs,_,rfl,hm,MK.cl,MK.reg,mf.reg,_,rfl,t,_,_,.int (a:Int),rfl,rfl,SqT.of ht,rfl,rg,_,_,_,rfl,rfl,SqL.of m.org,Ad2 (by rw [m.ln]; exact hok),by show 2<=sizeLine; decide,λu hu=>?_⟩
  have su:=Aa7 (o:=.tup [.str "told",.int (rs.getD a 0)]) hu
  have zu:upd H u (.tup [.str "told",.int (rs.getD a 0)]) u=some (.tup [.str "told",.int (rs.getD a 0)]):=upd_same
  generalize upd H u (.tup [.str "told",.int (rs.getD a 0)])=H1 at *
  refine ⟨hp,_,_,rfl,rfl,su _ _ ey,Nat.lt_of_lt_of_le (show ys.length<1001 by omega) (by decide),?_⟩
  exact q _ ((m.same su).tell (su _ _ ey) zu) (λb o _ n2 e=>by rw [Ab0 n2]; exact su _ _ e)
theorem Bn3:Ab6 ["machine","row"] ["machine","row"] (Aa1 Ak5):=FSc
theorem Aq4 {f:Addr} {fd:FuncData} (F:Fun K "lead_jump" "lead_jump" Ak5 f fd) (MK:Mcc K MC):FnOk P w K mg base CX0 1 f fd ["machine","row"] (spL3 MC "jump"):=by
 refine F.ok Bn3 (λvs H Q E h'=>?_) (λcdv A outer s H vs Q E hr h'=>?_)
 ·obtain ⟨mc,wy,po,rg,sv,hp,gate,ctr,kn,hl,rr,rs,es,t,r,rfl,_⟩:=h'
  rfl
 ·obtain ⟨mc,wy,po,rg,sv,hp,gate,ctr,kn,hl,rr,rs,es,t,r,rfl,m,ht,hok,hw,q⟩:=h'
  obtain ⟨dx,fs,hm,mf⟩:=m.ob
  refine ⟨_,(Aa6 (Ac3 (Ab5 Ab3 (pv 1) Aa3 (λ_ _=>rfl)))),?_⟩
  obtain ⟨x,rfl⟩:=R3.is_jump hw
  exact ⟨_,rfl,t,_,_,.int (x:Int),rfl,rfl,SqT.of ht,rfl,q H (by show Mc MC H mc wy po rg sv hp gate ctr kn (hl || false) rr rs es; rw [Bool.or_false]; exact m) (λb o _ e=>e)⟩
theorem Bc7:Ab6 ["machine","row"] ["machine","row"] (Aa1 Au2):=FSc
theorem Am8 {f:Addr} {fd:FuncData} (F:Fun K "lead_nought" "lead_nought" Au2 f fd) (MK:Mcc K MC):FnOk P w K mg base CX0 1 f fd ["machine","row"] (spL3 MC "nought"):=by
 refine F.ok Bc7 (λvs H Q E h'=>?_) (λcdv A outer s H vs Q E hr h'=>?_)
 ·obtain ⟨mc,wy,po,rg,sv,hp,gate,ctr,kn,hl,rr,rs,es,t,r,rfl,_⟩:=h'
  rfl
 ·obtain ⟨mc,wy,po,rg,sv,hp,gate,ctr,kn,hl,rr,rs,es,t,r,rfl,m,ht,hok,hw,q⟩:=h'
  obtain ⟨dx,fs,hm,mf⟩:=m.ob
  refine ⟨_,(Aa6 (Ac3 (Aj8 (Ac2 Ag8 (Ab5 Ad4 (Ad5 (pv 0) rfl) (Ab5 Ab3 (pv 1) Aa3 (λ_ _=>rfl)) (λ_ _=>rfl)) Aa3 (Ac7 _)) (Ab5 Ab3 (pv 1) Aa3 (λ_ _=>rfl)) (Ad9 Ah3 (Ad5 (pv 0) rfl) Aa3)))),?_⟩
  obtain ⟨x,y,rfl⟩:=R3.is_nought hw
  have q':=q H (by show Mc MC H mc wy po rg sv hp gate ctr kn (hl || false) rr rs es; rw [Bool.or_false]; exact m) (λb o _ e=>e)
  refine ⟨_,rfl,mc,MC,dx,fs,_,rfl,hm,MK.cl,MK.reg,mf.reg,_,rfl,t,_,_,.int (x:Int),rfl,rfl,SqT.of ht,rfl,rg,_,_,_,rfl,rfl,SqL.of m.org,Ad2 (by rw [m.ln]; exact hok.1),rfl,_,rfl,ite2 (λz=>⟨_,rfl,t,_,_,.int (y:Int),rfl,rfl,SqT.of ht,rfl,?_⟩) (λz=>⟨_,rfl,mc,MC,dx,fs,_,rfl,hm,MK.cl,MK.ctr,mf.ctr,(ctr:Int),1,rfl,rfl,?_⟩)⟩
  ·rw [show R3.at rs ctr (.nought x y)=y from if_pos (V.int.inj (of_decide_eq_true z))] at q'
   exact q'
  ·rw [show R3.at rs ctr (.nought x y)=ctr+1 from if_neg (λh=>z (decide_eq_true (congrArg V.int h)))] at q'
   exact q'
theorem Bn4:Ab6 ["machine","row"] ["machine","row"] (Aa1 Ak6):=FSc
theorem Aq5 {f:Addr} {fd:FuncData} (F:Fun K "lead_halt" "lead_halt" Ak6 f fd) (MK:Mcc K MC):FnOk P w K mg base CX0 1 f fd ["machine","row"] (spL3 MC "halt"):=by
 refine F.ok Bn4 (λvs H Q E h'=>?_) (λcdv A outer s H vs Q E hr h'=>?_)
 ·obtain ⟨mc,wy,po,rg,sv,hp,gate,ctr,kn,hl,rr,rs,es,t,r,rfl,_⟩:=h'
  rfl
 ·obtain ⟨mc,wy,po,rg,sv,hp,gate,ctr,kn,hl,rr,rs,es,t,r,rfl,m,ht,hok,hw,q⟩:=h'
  obtain ⟨dx,fs,hm,mf⟩:=m.ob
  refine ⟨_,(Aa5 (Ae9 (pv 0) Af5 rfl) (Aa6 (Ac3 (Ad5 (pv 0) rfl)))),?_⟩
  obtain rfl:=R3.is_halt hw
  refine ⟨_,rfl,mc,MC,dx,fs,rfl,hm,MK.cl,MK.hal,(by have:=mf.few; omega),?_⟩
  have mf2:=mf.setH true
  have m2:=m.fld hm mf2
  refine ⟨_,rfl,mc,MC,dx,_,_,rfl,upd_same,MK.cl,MK.ctr,mf2.ctr,?_⟩
  exact q _ (by show Mc MC _ mc wy po rg sv hp gate ctr kn (hl || true) rr rs es; rw [Bool.or_true]; exact m2) (λb o n e=>by rw [Ab0 n]; exact e)
theorem Bt0:Ab6 ["self","counter"] ["self","counter"] (Aa1 sArr):=FSc
theorem Bv3 {f:Addr} {fd:FuncData} (F:Fun K "arrive" "Machine.arrive" sArr f fd) (MK:Mcc K MC) (T:Txt K mg):FnOk P w K mg base CX0 1 f fd ["self","counter"] (Bm8 MC):=by
 refine F.ok Bt0 (λvs H Q E h'=>?_) (λcdv A outer s H vs Q E hr h'=>?_)
 ·obtain ⟨mc,wy,po,rg,sv,hp,gate,ctr,c,kn,hl,rr,rs,es,rfl,_⟩:=h'
  rfl
 ·obtain ⟨mc,wy,po,rg,sv,hp,gate,ctr,c,kn,hl,rr,rs,es,rfl,m,q⟩:=h'
  obtain ⟨dx,fs,hm,mf⟩:=m.ob
  refine ⟨_,(Aa5 (Ae9 (pv 0) (pv 1) rfl) (Aa6 (Ae5 (Ac2 Bo7 (pv 1) (Ac0 Ac6 (by rfl) T.len PySem.boot_len (Aa0 (Ad5 (pv 0) rfl) Aa4)) (Ac7 _)) (Aa6 (Ae9 (pv 0) Af5 rfl)) Ac4))),?_⟩
  refine ⟨_,rfl,_,rfl,mc,MC,dx,fs,rfl,hm,MK.cl,MK.ctr,(by have:=mf.few; omega),?_⟩
  have mf2:=mf.setC (c:Int)
  have m2:=m.fld (ctr':=c) hm mf2
  have k2:∀ b o,b≠mc->H b=some o->upd H mc (.ins MC dx (putF "counter" (.int (c:Int)) fs)) b=some o:=λb o n e=>by rw [Ab0 n]; exact e
  have z2:upd H mc (.ins MC dx (putF "counter" (.int (c:Int)) fs)) mc=some (.ins MC dx (putF "counter" (.int (c:Int)) fs)):=upd_same
  generalize upd H mc (.ins MC dx (putF "counter" (.int (c:Int)) fs))=H2 at *
  obtain ⟨ys,ey,ty⟩:=m2.opo
  have ly:=ty.len
  refine ⟨_,rfl,_,rfl,mc,MC,dx,_,_,rfl,z2,MK.cl,MK.ord,mf2.ord,po,_,rfl,.inl (SqL.of ey),_,_,rfl,rfl,_,rfl,ite2 (λz=>?_) (λz=>?_)⟩
  ·have z':rr.length<=c:=by have:=of_decide_eq_true z; omega
   refine ⟨_,rfl,mc,MC,dx,_,rfl,z2,MK.cl,MK.hal,(by have:=mf2.few; omega),?_⟩
   rw [decide_eq_true z',Bool.or_true] at q
   exact q _ (m2.fld z2 (mf2.setH true)) (λb o n e=>by rw [Ab0 n]; exact k2 b o n e)
  ·have z':¬ rr.length<=c:=λh=>z (decide_eq_true (by show ((ys.length:Nat):Int)<=(c:Int); omega))
   rw [decide_eq_false z',Bool.or_false] at q
   exact q H2 m2 k2
end
end K33
end
section
namespace K33
open PySem L2
abbrev Au1:Stmt:=Aa9 (top 91) 4
theorem Az8 {X:Cx} {K:PySem.W.Frag} (h:X.K=K):OpR X (compareOp .In) (rIn K false):=by subst h; exact Bd9
def kws:List Str:=["peek","poke","root","drop","give","want","why","back","past","user"]
structure Dts (K:PySem.W.Frag) (mg:Str->Option Value) (KW LE DE fS fA fB fO fT fJ fN fH:Addr):Prop where
 mkw:mg "KERNEL_WORDS"=some (.ref KW)
 kw:∀ H,SqT K H KW (kws.map V.str)
 mle:mg "LEADS"=some (.ref LE)
 le:∃ D,Tab K LE D/\PyProof.Rows.KTD.datumAt ("jump":Str) D=some fJ/\PyProof.Rows.KTD.datumAt ("nought":Str) D=some fN/\PyProof.Rows.KTD.datumAt ("halt":Str) D=some fH/\PyProof.Rows.KTD.datumAt ("set":Str) D=none/\PyProof.Rows.KTD.datumAt ("add":Str) D=none/\PyProof.Rows.KTD.datumAt ("both":Str) D=none/\PyProof.Rows.KTD.datumAt ("odd":Str) D=none/\PyProof.Rows.KTD.datumAt ("tell":Str) D=none
 mde:mg "DEEDS"=some (.ref DE)
 de:∃ D,Tab K DE D/\PyProof.Rows.KTD.datumAt ("set":Str) D=some fS/\PyProof.Rows.KTD.datumAt ("add":Str) D=some fA/\PyProof.Rows.KTD.datumAt ("both":Str) D=some fB/\PyProof.Rows.KTD.datumAt ("odd":Str) D=some fO/\PyProof.Rows.KTD.datumAt ("tell":Str) D=some fT
def Bb9 (MC:Addr):Sp:=λvs H Q _=>∃ (mc wy po rg sv hp:Addr) (gate:Int) (ctr:Nat) (hl:Bool) (rr:List R3) (rs es:List Int) (t:Addr) (r:R3),vs=[.ref mc,.ref t]/\Mc MC H mc wy po rg sv hp gate ctr true hl rr rs es/\es.length<=900/\H t=some (.tup r.v)/\r.Ok/\∀ H',Mc MC H' mc wy po rg sv hp gate ctr true (hl || r.hl) rr (r.rs rs) (es++r.es rs)->(∀ b o,b≠mc->b≠rg->b≠hp->H b=some o->H' b=some o)->Q (.int ((r.at rs ctr:Nat):Int)) H'
section
variable {P : Program} {w : World} {K : PySem.W.Frag} {mg : Str → Option Value} {base : Heap} {C NP NL NW NI SC PL WC FA MC KW LE DE : Addr}
theorem scOb:Ab6 ["self","row"] ["self","row"] (Aa1 Au1):=FSc
theorem Bp3 {f fS fA fB fO fT fJ fN fH:Addr} {fd fdS fdA fdB fdO fdT fdJ fdN fdH:FuncData} (F:Fun K "obey" "Machine.obey" Au1 f fd) (DfS:Dn K mg "do_set" Au3 ["machine","row"] fS fdS) (GfS:FnOk P w K mg base CX0 1 fS fdS ["machine","row"] (spD3 MC "set")) (DfA:Dn K mg "do_add" Au5 ["machine","row"] fA fdA) (GfA:FnOk P w K mg base CX0 4 fA fdA ["machine","row"] (spD3 MC "add")) (DfB:Dn K mg "do_both" Al0 ["machine","row"] fB fdB) (GfB:FnOk P w K mg base CX0 2 fB fdB ["machine","row"] (spD3 MC "both")) (DfO:Dn K mg "do_odd" Au4 ["machine","row"] fO fdO) (GfO:FnOk P w K mg base CX0 2 fO fdO ["machine","row"] (spD3 MC "odd")) (DfT:Dn K mg "do_tell" Ak9 ["machine","row"] fT fdT) (GfT:FnOk P w K mg base CX0 1 fT fdT ["machine","row"] (spD3 MC "tell")) (DfJ:Dn K mg "lead_jump" Ak5 ["machine","row"] fJ fdJ) (GfJ:FnOk P w K mg base CX0 1 fJ fdJ ["machine","row"] (spL3 MC "jump")) (DfN:Dn K mg "lead_nought" Au2 ["machine","row"] fN fdN) (GfN:FnOk P w K mg base CX0 1 fN fdN ["machine","row"] (spL3 MC "nought")) (DfH:Dn K mg "lead_halt" Ak6 ["machine","row"] fH fdH) (GfH:FnOk P w K mg base CX0 1 fH fdH ["machine","row"] (spL3 MC "halt")) (DT:Dts K mg KW LE DE fS fA fB fO fT fJ fN fH) (MK:Mcc K MC):FnOk P w K mg base (CXr P w) 5 f fd ["self","row"] (Bb9 MC):=by
 refine F.okR scOb (λvs H Q E h'=>?_) (λcdv A outer s H vs Q E hr h'=>?_)
 ·obtain ⟨mc,wy,po,rg,sv,hp,gate,ctr,hl,rr,rs,es,t,r,rfl,_⟩:=h'
  rfl
 ·obtain ⟨mc,wy,po,rg,sv,hp,gate,ctr,hl,rr,rs,es,t,r,rfl,m,le9,ht,hok,q⟩:=h'
  obtain ⟨dx,fs,hm,mf⟩:=m.ob
  obtain ⟨DL,tl,ljump,lnought,lhalt,lset,ladd,lboth,lodd,ltell⟩:=DT.le
  obtain ⟨DD,td,dset,dadd,dboth,dodd,dtell⟩:=DT.de
  have hr4:Room 4 _:=hr.mono (by decide)
  have hr2:Room 2 _:=hr.mono (by decide)
  have hr1:Room 1 _:=hr.mono (by decide)
  refine ⟨_,(Aa5 (Ae5 (PW.pt (Aq1 (Ac2 (Az8 (K:=K) rfl) (Ab5 Ab3 (pv 1) Aa3 (λ_ _=>rfl)) (Ae0 (by rfl) DT.mkw (show RelV (.ref KW) (.ref KW) from rfl)) rfl) (Al2 (Ad0 (Ad3 (Ad5 (pv 0) rfl)))))) (Aa6 Ag7) Ac4) (Aa5 (Ae5 (Ac2 Bi1 (Ab5 Ab3 (pv 1) Aa3 (λ_ _=>rfl)) (Ae0 (by rfl) DT.mle (show RelV (.ref LE) (.ref LE) from rfl)) rfl) (Aa6 (Ac3 (Ay5 (E:=E0) (Ab5 Be9 (Ae0 (by rfl) DT.mle (show RelV (.ref LE) (.ref LE) from rfl)) (Ab5 Ab3 (pv 1) Aa3 (λ_ _=>rfl)) (λ_ _=>rfl)) (Aa0 (pv 0) (Aa0 (pv 1) Aa4))))) Ac4) (Aa5 (Af3 (Ay5 (E:=E0) (Ab5 Be9 (Ae0 (by rfl) DT.mde (show RelV (.ref DE) (.ref DE) from rfl)) (Ab5 Ab3 (pv 1) Aa3 (λ_ _=>rfl)) (λ_ _=>rfl)) (Aa0 (pv 0) (Aa0 (pv 1) Aa4)))) (Aa6 (Ac3 (Ad9 Ah3 (Ad5 (pv 0) rfl) Aa3)))))),?_⟩
  cases r with
  | set a v =>
   refine ⟨_,rfl,t,_,_,_,rfl,rfl,SqT.of ht,rfl,KW,_,rfl,.inr (DT.kw _),rfl,rfl,_,rfl,Ab7 (by decide +kernel) (iteF ?_)⟩
   refine ⟨_,rfl,t,_,_,_,rfl,rfl,SqT.of ht,rfl,LE,DL,_,rfl,rfl,tl,_,rfl,Ab7 (by rw [<- PyProof.Rows.KTD.isSome_datumAt,lset]; rfl) ?_⟩
   refine ⟨_,rfl,t,_,_,_,rfl,rfl,SqT.of ht,rfl,DE,DD,_,_,rfl,rfl,td,dset,(spD3 MC "set"),⟨fS,_,1,CX0,_,rfl,GfS,hr1,DfS.F.kp,DfS.b,Ac8⟩,_,rfl,_,rfl,mc,wy,po,rg,sv,hp,gate,ctr,true,hl,rr,rs,es,t,_,rfl,m,le9,ht,hok,rfl,λH1 m1 k1=>?_⟩
   obtain ⟨dx2,fs2,hm2,mf2⟩:=m1.ob
   refine ⟨_,rfl,mc,MC,dx2,fs2,_,rfl,hm2,MK.cl,MK.ctr,mf2.ctr,(ctr:Int),1,rfl,rfl,?_⟩
   exact q H1 (by show Mc MC H1 mc wy po rg sv hp gate ctr true (hl || false) rr _ _; rw [Bool.or_false]; exact m1) (λb o _ n2 n3 e=>k1 b o n2 n3 e)
  | add a b =>
   refine ⟨_,rfl,t,_,_,_,rfl,rfl,SqT.of ht,rfl,KW,_,rfl,.inr (DT.kw _),rfl,rfl,_,rfl,Ab7 (by decide +kernel) (iteF ?_)⟩
   refine ⟨_,rfl,t,_,_,_,rfl,rfl,SqT.of ht,rfl,LE,DL,_,rfl,rfl,tl,_,rfl,Ab7 (by rw [<- PyProof.Rows.KTD.isSome_datumAt,ladd]; rfl) ?_⟩
   refine ⟨_,rfl,t,_,_,_,rfl,rfl,SqT.of ht,rfl,DE,DD,_,_,rfl,rfl,td,dadd,(spD3 MC "add"),⟨fA,_,4,CX0,_,rfl,GfA,hr4,DfA.F.kp,DfA.b,Ac8⟩,_,rfl,_,rfl,mc,wy,po,rg,sv,hp,gate,ctr,true,hl,rr,rs,es,t,_,rfl,m,le9,ht,hok,rfl,λH1 m1 k1=>?_⟩
   obtain ⟨dx2,fs2,hm2,mf2⟩:=m1.ob
   refine ⟨_,rfl,mc,MC,dx2,fs2,_,rfl,hm2,MK.cl,MK.ctr,mf2.ctr,(ctr:Int),1,rfl,rfl,?_⟩
   exact q H1 (by show Mc MC H1 mc wy po rg sv hp gate ctr true (hl || false) rr _ _; rw [Bool.or_false]; exact m1) (λb o _ n2 n3 e=>k1 b o n2 n3 e)
  | both a b =>
   refine ⟨_,rfl,t,_,_,_,rfl,rfl,SqT.of ht,rfl,KW,_,rfl,.inr (DT.kw _),rfl,rfl,_,rfl,Ab7 (by decide +kernel) (iteF ?_)⟩
   refine ⟨_,rfl,t,_,_,_,rfl,rfl,SqT.of ht,rfl,LE,DL,_,rfl,rfl,tl,_,rfl,Ab7 (by rw [<- PyProof.Rows.KTD.isSome_datumAt,lboth]; rfl) ?_⟩
   refine ⟨_,rfl,t,_,_,_,rfl,rfl,SqT.of ht,rfl,DE,DD,_,_,rfl,rfl,td,dboth,(spD3 MC "both"),⟨fB,_,2,CX0,_,rfl,GfB,hr2,DfB.F.kp,DfB.b,Ac8⟩,_,rfl,_,rfl,mc,wy,po,rg,sv,hp,gate,ctr,true,hl,rr,rs,es,t,_,rfl,m,le9,ht,hok,rfl,λH1 m1 k1=>?_⟩
   obtain ⟨dx2,fs2,hm2,mf2⟩:=m1.ob
   refine ⟨_,rfl,mc,MC,dx2,fs2,_,rfl,hm2,MK.cl,MK.ctr,mf2.ctr,(ctr:Int),1,rfl,rfl,?_⟩
   exact q H1 (by show Mc MC H1 mc wy po rg sv hp gate ctr true (hl || false) rr _ _; rw [Bool.or_false]; exact m1) (λb o _ n2 n3 e=>k1 b o n2 n3 e)
  | odd a b =>
   refine ⟨_,rfl,t,_,_,_,rfl,rfl,SqT.of ht,rfl,KW,_,rfl,.inr (DT.kw _),rfl,rfl,_,rfl,Ab7 (by decide +kernel) (iteF ?_)⟩
   refine ⟨_,rfl,t,_,_,_,rfl,rfl,SqT.of ht,rfl,LE,DL,_,rfl,rfl,tl,_,rfl,Ab7 (by rw [<- PyProof.Rows.KTD.isSome_datumAt,lodd]; rfl) ?_⟩
   refine ⟨_,rfl,t,_,_,_,rfl,rfl,SqT.of ht,rfl,DE,DD,_,_,rfl,rfl,td,dodd,(spD3 MC "odd"),⟨fO,_,2,CX0,_,rfl,GfO,hr2,DfO.F.kp,DfO.b,Ac8⟩,_,rfl,_,rfl,mc,wy,po,rg,sv,hp,gate,ctr,true,hl,rr,rs,es,t,_,rfl,m,le9,ht,hok,rfl,λH1 m1 k1=>?_⟩
   obtain ⟨dx2,fs2,hm2,mf2⟩:=m1.ob
   refine ⟨_,rfl,mc,MC,dx2,fs2,_,rfl,hm2,MK.cl,MK.ctr,mf2.ctr,(ctr:Int),1,rfl,rfl,?_⟩
   exact q H1 (by show Mc MC H1 mc wy po rg sv hp gate ctr true (hl || false) rr _ _; rw [Bool.or_false]; exact m1) (λb o _ n2 n3 e=>k1 b o n2 n3 e)
  | tell a =>
   refine ⟨_,rfl,t,_,_,_,rfl,rfl,SqT.of ht,rfl,KW,_,rfl,.inr (DT.kw _),rfl,rfl,_,rfl,Ab7 (by decide +kernel) (iteF ?_)⟩
   refine ⟨_,rfl,t,_,_,_,rfl,rfl,SqT.of ht,rfl,LE,DL,_,rfl,rfl,tl,_,rfl,Ab7 (by rw [<- PyProof.Rows.KTD.isSome_datumAt,ltell]; rfl) ?_⟩
   refine ⟨_,rfl,t,_,_,_,rfl,rfl,SqT.of ht,rfl,DE,DD,_,_,rfl,rfl,td,dtell,(spD3 MC "tell"),⟨fT,_,1,CX0,_,rfl,GfT,hr1,DfT.F.kp,DfT.b,Ac8⟩,_,rfl,_,rfl,mc,wy,po,rg,sv,hp,gate,ctr,true,hl,rr,rs,es,t,_,rfl,m,le9,ht,hok,rfl,λH1 m1 k1=>?_⟩
   obtain ⟨dx2,fs2,hm2,mf2⟩:=m1.ob
   refine ⟨_,rfl,mc,MC,dx2,fs2,_,rfl,hm2,MK.cl,MK.ctr,mf2.ctr,(ctr:Int),1,rfl,rfl,?_⟩
   exact q H1 (by show Mc MC H1 mc wy po rg sv hp gate ctr true (hl || false) rr _ _; rw [Bool.or_false]; exact m1) (λb o _ n2 n3 e=>k1 b o n2 n3 e)
  | nought a x =>
   refine ⟨_,rfl,t,_,_,_,rfl,rfl,SqT.of ht,rfl,KW,_,rfl,.inr (DT.kw _),rfl,rfl,_,rfl,Ab7 (by decide +kernel) (iteF ?_)⟩
   refine ⟨_,rfl,t,_,_,_,rfl,rfl,SqT.of ht,rfl,LE,DL,_,rfl,rfl,tl,_,rfl,Ag3 (by rw [<- PyProof.Rows.KTD.isSome_datumAt,lnought]; rfl) ?_⟩
   refine ⟨_,rfl,t,_,_,_,rfl,rfl,SqT.of ht,rfl,LE,DL,_,_,rfl,rfl,tl,lnought,(spL3 MC "nought"),⟨fN,_,1,CX0,_,rfl,GfN,hr1,DfN.F.kp,DfN.b,Ac8⟩,_,rfl,_,rfl,mc,wy,po,rg,sv,hp,gate,ctr,true,hl,rr,rs,es,t,_,rfl,m,ht,hok,rfl,λH1 m1 k1=>?_⟩
   exact q H1 (by show Mc MC H1 mc wy po rg sv hp gate ctr true _ rr rs (es++[]); rw [List.append_nil]; exact m1) (λb o n1 _ _ e=>k1 b o n1 e)
  | jump x =>
   refine ⟨_,rfl,t,_,_,_,rfl,rfl,SqT.of ht,rfl,KW,_,rfl,.inr (DT.kw _),rfl,rfl,_,rfl,Ab7 (by decide +kernel) (iteF ?_)⟩
   refine ⟨_,rfl,t,_,_,_,rfl,rfl,SqT.of ht,rfl,LE,DL,_,rfl,rfl,tl,_,rfl,Ag3 (by rw [<- PyProof.Rows.KTD.isSome_datumAt,ljump]; rfl) ?_⟩
   refine ⟨_,rfl,t,_,_,_,rfl,rfl,SqT.of ht,rfl,LE,DL,_,_,rfl,rfl,tl,ljump,(spL3 MC "jump"),⟨fJ,_,1,CX0,_,rfl,GfJ,hr1,DfJ.F.kp,DfJ.b,Ac8⟩,_,rfl,_,rfl,mc,wy,po,rg,sv,hp,gate,ctr,true,hl,rr,rs,es,t,_,rfl,m,ht,hok,rfl,λH1 m1 k1=>?_⟩
   exact q H1 (by show Mc MC H1 mc wy po rg sv hp gate ctr true _ rr rs (es++[]); rw [List.append_nil]; exact m1) (λb o n1 _ _ e=>k1 b o n1 e)
  | halt  =>
   refine ⟨_,rfl,t,_,_,_,rfl,rfl,SqT.of ht,rfl,KW,_,rfl,.inr (DT.kw _),rfl,rfl,_,rfl,Ab7 (by decide +kernel) (iteF ?_)⟩
   refine ⟨_,rfl,t,_,_,_,rfl,rfl,SqT.of ht,rfl,LE,DL,_,rfl,rfl,tl,_,rfl,Ag3 (by rw [<- PyProof.Rows.KTD.isSome_datumAt,lhalt]; rfl) ?_⟩
   refine ⟨_,rfl,t,_,_,_,rfl,rfl,SqT.of ht,rfl,LE,DL,_,_,rfl,rfl,tl,lhalt,(spL3 MC "halt"),⟨fH,_,1,CX0,_,rfl,GfH,hr1,DfH.F.kp,DfH.b,Ac8⟩,_,rfl,_,rfl,mc,wy,po,rg,sv,hp,gate,ctr,true,hl,rr,rs,es,t,_,rfl,m,ht,hok,rfl,λH1 m1 k1=>?_⟩
   exact q H1 (by show Mc MC H1 mc wy po rg sv hp gate ctr true _ rr rs (es++[]); rw [List.append_nil]; exact m1) (λb o n1 _ _ e=>k1 b o n1 e)
end
end K33
end
section
namespace K33
open PySem L2
abbrev Ak1:Stmt:=Aa9 (top 91) 3
def At0 (MC:Addr):Sp:=λvs H Q _=>∃ (mc wy po rg sv hp:Addr) (gate:Int) (ctr:Nat) (rr:List R3) (rs es:List Int) (r:R3),vs=[.ref mc]/\Mc MC H mc wy po rg sv hp gate ctr true false rr rs es/\es.length<=900/\rr[ctr]?=some r/\∀ H',Mc MC H' mc wy po rg sv hp gate (r.at rs ctr) true (r.hl || decide (rr.length<=r.at rs ctr)) rr (r.rs rs) (es++r.es rs)->(∀ b o,b≠mc->b≠rg->b≠hp->H b=some o->H' b=some o)->Q .non H'
section
variable {P : Program} {w : World} {K : PySem.W.Frag} {mg : Str → Option Value} {base : Heap} {C NP NL NW NI SC PL WC FA MC : Addr}
theorem scSM:Ab6 ["self","counter","fault"] ["self"] (Aa1 Ak1):=FSc
theorem Bi4 {f f1 f2:Addr} {fd fd1 fd2:FuncData} (F:Fun K "step" "Machine.step" Ak1 f fd) (M1:Me K MC "obey" "Machine.obey" Au1 ["self","row"] f1 fd1) (GM1:FnOk P w K mg base (CXr P w) 5 f1 fd1 ["self","row"] (Bb9 MC)) (M2:Me K MC "arrive" "Machine.arrive" sArr ["self","counter"] f2 fd2) (GM2:FnOk P w K mg base CX0 1 f2 fd2 ["self","counter"] (Bm8 MC)) (FM:mg "Fault"=some (.ref FA)) (MK:Mcc K MC):FnOk P w K mg base CX0 6 f fd ["self"] (At0 MC):=by
 refine F.ok scSM (λvs H Q E h'=>?_) (λcdv A outer s H vs Q E hr h'=>?_)
 ·obtain ⟨mc,wy,po,rg,sv,hp,gate,ctr,rr,rs,es,r,rfl,_⟩:=h'
  rfl
 ·obtain ⟨mc,wy,po,rg,sv,hp,gate,ctr,rr,rs,es,r,rfl,m,le9,hr0,q⟩:=h'
  obtain ⟨dx,fs,hm,mf⟩:=m.ob
  obtain ⟨ys,ey,ty⟩:=m.opo
  obtain ⟨t,et,ht⟩:=ty.get ctr r hr0
  have hr1:Room 1 _:=hr.mono (by decide)
  have hok:=m.ok r (List.mem_of_getElem? hr0)
  refine ⟨_,(Aa5 (Bt3 (i:=2) scSM.nd rfl rfl rfl rfl FM (Bo0 (i:=1) scSM.nd rfl (Or.inl rfl) (Bh4 (pv 0) MK.cl M1.m GM1 hr M1.b .nil (Aa0 (Ab5 Ad4 (Ad5 (pv 0) rfl) (Ad5 (pv 0) rfl) (λ_ _=>rfl)) Aa4))) (λe=>(Aa6 Ag7))) (Aa6 (Af3 (Av2 (pv 0) MK.cl M2.m GM2 hr1 M2.b .nil Ac8 (Aa0 (pv 1) Aa4))))),?_⟩
  refine ⟨_,rfl,mc,dx,fs,rfl,hm,mf.no _ (by decide +kernel) (by decide +kernel) (by decide +kernel) (by decide +kernel) (by decide +kernel) (by decide +kernel) (by decide +kernel) (by decide +kernel) (by decide +kernel),_,rfl,mc,MC,dx,fs,_,rfl,hm,MK.cl,MK.ord,mf.ord,_,rfl,mc,MC,dx,fs,_,rfl,hm,MK.cl,MK.ctr,mf.ctr,po,_,_,.ref t,rfl,rfl,SqL.of ey,Ap6 et,mc,wy,po,rg,sv,hp,gate,ctr,false,rr,rs,es,t,r,rfl,m,le9,ht,hok,λH1 m1 k1=>?_⟩
  obtain ⟨dx1,fs1,hm1,mf1⟩:=m1.ob
  refine ⟨_,rfl,mc,dx1,fs1,rfl,hm1,mf1.no _ (by decide +kernel) (by decide +kernel) (by decide +kernel) (by decide +kernel) (by decide +kernel) (by decide +kernel) (by decide +kernel) (by decide +kernel) (by decide +kernel),_,rfl,mc,wy,po,rg,sv,hp,gate,ctr,r.at rs ctr,true,_,rr,_,_,rfl,m1,λH2 m2 k2=>?_⟩
  rw [Bool.false_or] at m2
  exact q H2 m2 (λb o n1 n2 n3 e=>k2 b o n1 (k1 b o n1 n2 n3 e))
end
end K33
end
section
namespace K33
open PySem L2
abbrev Ak0:Stmt:=Aa9 (top 91) 2
structure S3 where
 c:Nat
 hl:Bool
 rs:List Int
 es:List Int
def stM (rr:List R3) (s:S3):S3:=match rr[s.c]? with
 | some r=>⟨r.at s.rs s.c,r.hl || decide (rr.length<=r.at s.rs s.c),r.rs s.rs,s.es++r.es s.rs⟩
 | none=>s
def rnM (rr:List R3):Nat->S3->Nat×S3
 | 0,s=>(0,s)
 | n+1,s=>if s.hl=true then (0,s) else ((rnM rr n (stM rr s)).1+1,(rnM rr n (stM rr s)).2)
theorem R3.es_len (rs:List Int) (r:R3):(r.es rs).length<=1:=by
 cases r <;> first | exact Nat.le_refl _ | exact Nat.zero_le _
structure Ms (MC:Addr) (H:Hp) (mc wy po rg sv hp:Addr) (gate:Int) (rr:List R3) (s:S3):Prop where
 m:Mc MC H mc wy po rg sv hp gate s.c true s.hl rr s.rs s.es
 i:s.hl=false->s.c<rr.length
theorem Ms.same {MC:Addr} {H H':Hp} {mc wy po rg sv hp:Addr} {gate:Int} {rr:List R3} {s:S3} (m:Ms MC H mc wy po rg sv hp gate rr s) (e:Same H H'):Ms MC H' mc wy po rg sv hp gate rr s:=⟨m.m.same e,m.i⟩
def As9 (MC:Addr):Sp:=λvs H Q _=>∃ (mc wy po rg sv hp:Addr) (gate:Int) (rr:List R3) (s:S3) (n:Nat),vs=[.ref mc,.int (n:Int)]/\Ms MC H mc wy po rg sv hp gate rr s/\n<=500/\s.es.length+n<=900/\∀ H',Ms MC H' mc wy po rg sv hp gate rr (rnM rr n s).2->(∀ b o,b≠mc->b≠rg->b≠hp->H b=some o->H' b=some o)->Q (.int (((rnM rr n s).1:Nat):Int)) H'
theorem Ay0 {rr:List R3} {n:Nat} {s:S3} (h:s.hl=true):rnM rr n s=(0,s):=by
 cases n with
 | zero=>rfl
 | succ n=>unfold rnM; rw [if_pos h]
theorem Bk8 {rr:List R3} {s:S3} {r:R3} (e:rr[s.c]?=some r):stM rr s=⟨r.at s.rs s.c,r.hl || decide (rr.length<=r.at s.rs s.c),r.rs s.rs,s.es++r.es s.rs⟩:=by
 unfold stM
 rw [e]
theorem Bb7 {rr:List R3} {s:S3}:(stM rr s).es.length<=s.es.length+1:=by
 unfold stM
 split
 ·rename_i r _
  have:=R3.es_len s.rs r
  show (s.es++r.es s.rs).length<=_
  rw [List.length_append]
  omega
 ·omega
section
variable {P : Program} {w : World} {K : PySem.W.Frag} {mg : Str → Option Value} {base : Heap} {C NP NL NW NI SC PL WC FA MC : Addr}
theorem scTM:Ab6 ["self","steps","done"] ["self","steps"] (Aa1 Ak0):=FSc
theorem Bi3 {f f1 f2:Addr} {fd fd1 fd2:FuncData} (F:Fun K "turn" "Machine.turn" Ak0 f fd) (D1:Dn K mg "is_below" Ai0 ["thing","bound"] f1 fd1) (G1:FnOk P w K mg base CX0 2 f1 fd1 ["thing","bound"] Ai4) (M1:Me K MC "step" "Machine.step" Ak1 ["self"] f2 fd2) (GM1:FnOk P w K mg base CX0 6 f2 fd2 ["self"] (At0 MC)) (SP:∃ t,mg "STEPS"=some (.int 501 t)) (MK:Mcc K MC):FnOk P w K mg base CX0 7 f fd ["self","steps"] (As9 MC):=by
 obtain ⟨t1,m1⟩:=SP
 refine F.ok scTM (λvs H Q E h'=>?_) (λcdv A outer s H vs Q E hr h'=>?_)
 ·obtain ⟨mc,wy,po,rg,sv,hp,gate,rr,s,n,rfl,_⟩:=h'
  rfl
 ·obtain ⟨mc,wy,po,rg,sv,hp,gate,rr,s0,n,rfl,M,n5,n9,q⟩:=h'
  have hr2:Room 2 _:=hr.mono (by decide)
  refine ⟨_,(Aa5 (Ae5 (Ad0 (Ad3 (Ab9 G1 hr2 (by rfl) D1.m D1.F.kp D1.b .nil Ac8 (Aa0 (pv 1) (Aa0 (Ae0 (by rfl) m1 (show RelV (.int 501) (.int 501 t1) from ⟨_,rfl⟩)) Aa4))))) (Aa6 Ag7) Ac4) (Aa5 (Ae8 (i:=2) scTM.nd rfl (Or.inl rfl) Aa3) (Aa5 (Ay1 PassesOwn.never (PW.pt (Aq1 (Ac2 Bi0 (pv 2) (pv 1) (Ac7 _)) (Al2 (Ad0 (Ad3 (Ad5 (pv 0) rfl)))))) (Aa5 (Af3 (Ai8 (pv 0) MK.cl M1.m GM1 hr M1.b .nil Ac8)) (Aa6 (Bt4 (i:=2) scTM.nd rfl (Or.inl rfl) Aa3 Bw0)))) (Aa6 (Ac3 (pv 2)))))),?_⟩
  refine ⟨_,rfl,_,_,rfl,.int _,_,rfl,Ab7 (by show (!Af0 (.int (n:Int)) 501)=false; rw [Ah9 (by omega) (by omega)]; rfl) ?_⟩
  refine ⟨λk σ H'=>∃ (j:Nat) (s:S3),σ=[some (.ref mc),some (.int (n:Int)),some (.int (j:Int))]/\j+k=n/\Ms MC H' mc wy po rg sv hp gate rr s/\s.es.length+k<=900/\(rnM rr n s0).1=j+(rnM rr k s).1/\(rnM rr n s0).2=(rnM rr k s).2/\(∀ b o,b≠mc->b≠rg->b≠hp->H b=some o->H' b=some o),⟨n,0,s0,rfl,by omega,M,n9,by omega,rfl,λb o _ _ _ e=>e⟩,?_⟩
  rintro k σ H' ⟨j,s,rfl,jk,M1,l9,e1,e2,kp⟩
  obtain ⟨dx,fs,hm,mf⟩:=M1.m.ob
  refine ⟨_,rfl,_,rfl,(j:Int),(n:Int),rfl,rfl,_,rfl,ite2 (λc1=>?_) (λc1=>?_)⟩
  ·have c1':(j:Int)<(n:Int):=of_decide_eq_true c1
   obtain ⟨k',rfl⟩:∃ k',k=k'+1:=⟨k - 1,by omega⟩
   refine ⟨_,rfl,mc,MC,dx,fs,_,rfl,hm,MK.cl,MK.hal,mf.hal,_,rfl,?_⟩
   cases hh:s.hl with
   | true =>
    refine iteF ⟨_,rfl,?_⟩
    rw [Ay0 hh] at e1 e2
    rw [e1,e2] at q
    exact q H' M1 kp
   | false =>
    have hc:=M1.i hh
    have hr0:rr[s.c]?=some rr[s.c]:=List.getElem?_eq_getElem hc
    have es:=Bk8 hr0
    have un:rnM rr (k'+1) s=((rnM rr k' (stM rr s)).1+1,(rnM rr k' (stM rr s)).2):=by
     show (if s.hl=true then _ else _)=_
     rw [hh]
     rfl
    rw [un] at e1 e2
    have M2:=M1.m
    rw [hh] at M2
    generalize rr[s.c]=r at *
    refine iteT ⟨_,λσ' H2 w=>⟨k',Nat.lt_succ_self _,w⟩,?_⟩
    refine ⟨_,rfl,mc,dx,fs,rfl,hm,mf.no _ (by decide +kernel) (by decide +kernel) (by decide +kernel) (by decide +kernel) (by decide +kernel) (by decide +kernel) (by decide +kernel) (by decide +kernel) (by decide +kernel),mc,wy,po,rg,sv,hp,gate,s.c,rr,s.rs,s.es,r,rfl,M2,by omega,hr0,λH2 m2 k2=>?_⟩
    refine ⟨_,rfl,(j:Int),1,rfl,rfl,j+1,stM rr s,rfl,by omega,⟨by rw [es]; exact m2,λhf=>?_⟩,by have:=Bb7 (rr:=rr) (s:=s); omega,by rw [e1]; omega,e2,λb o n1 n2 n3 e=>k2 b o n1 n2 n3 (kp b o n1 n2 n3 e)⟩
    rw [es] at hf ⊢
    have hf':(r.hl || decide (rr.length<=r.at s.rs s.c))=false:=hf
    rw [Bool.or_eq_false_iff] at hf'
    show r.at s.rs s.c<rr.length
    have:=of_decide_eq_false hf'.2
    omega
  ·have c1':¬ (j:Int)<(n:Int):=λz=>c1 (decide_eq_true z)
   obtain rfl:k=0:=by omega
   refine iteF ⟨_,rfl,?_⟩
   rw [show (rnM rr n s0).1=j from e1,show (rnM rr n s0).2=s from e2] at q
   exact q H' M1 kp
end
end K33
end
section
namespace K33
open PySem L2
abbrev Au6:Stmt:=Aa9 (top 91) 6
abbrev sEvs:Stmt:=Aa9 (top 91) 7
abbrev sFst:Stmt:=top 90
theorem Ab8 {X:Cx} {e:Expr} {es:List Expr} {te:TE} {t:TA} (h1:PE X e te) (h2:PA X es t) (hs:∀ (l:List Expr) (env:Env),starEach (e::l) env=(false,eval e env)::starEach l env:=by intro _ _; rfl):PA X (e::es) (Aj6 te t):=Aa0 h1 h2 (hs es X.env)
def Bc1 (MC:Addr):Sp:=λvs H Q _=>∃ (mc wy po rg sv hp:Addr) (gate:Int) (rr:List R3) (s:S3),vs=[.ref mc]/\Ms MC H mc wy po rg sv hp gate rr s/\∀ t l H',Same H H'->H l=none->H t=none->H' t=some (.tup [.ref l,.int (s.c:Int),.bl true,.ref sv,.bl s.hl])->H' l=some (.lst (s.rs.map V.int))->Q (.ref t) H'
def Bm5 (MC:Addr):Sp:=λvs H Q _=>∃ (mc wy po rg sv hp:Addr) (gate:Int) (rr:List R3) (s:S3),vs=[.ref mc]/\Ms MC H mc wy po rg sv hp gate rr s/\∀ l ys H',Same H H'->H l=none->H' l=some (.lst ys)->Evs H' ys s.es->Q (.ref l) H'
def Bm4:Sp:=λvs H Q _=>vs=[]/\∀ t l u H',Same H H'->H l=none->H' t=some (.tup [.ref l,.int 0,.bl true,.ref u,.bl false])->H' l=some (.lst (([0,0,0,0]:List Int).map V.int))->H' u=some (.tup [.int 0,.int 0,.int 0,.bl true])->Q (.ref t) H'
section
variable {P : Program} {w : World} {K : PySem.W.Frag} {mg : Str → Option Value} {base : Heap} {C NP NL NW NI SC PL WC FA MC : Addr}
theorem By0:Ab6 ["self"] ["self"] (Aa1 Au6):=FSc
theorem Bp5 {f:Addr} {fd:FuncData} (F:Fun K "core" "Machine.core" Au6 f fd) (MK:Mcc K MC) (T:Txt K mg):FnOk P w K mg base CX0 1 f fd ["self"] (Bc1 MC):=by
 refine F.ok By0 (λvs H Q E h'=>?_) (λcdv A outer s H vs Q E hr h'=>?_)
 ·obtain ⟨mc,wy,po,rg,sv,hp,gate,rr,s0,rfl,_⟩:=h'
  rfl
 ·obtain ⟨mc,wy,po,rg,sv,hp,gate,rr,s0,rfl,M,q⟩:=h'
  obtain ⟨dx,fs,hm,mf⟩:=M.m.ob
  refine ⟨_,(Aa6 (Ac3 (Ae3 (Ab8 (Ae6 Ad1 (by rfl) T.lst PyProof.Rows.boot_list (Aa0 (Ad5 (pv 0) rfl) Aa4)) (Ab8 (Ad5 (pv 0) rfl) (Ab8 (Ad5 (pv 0) rfl) (Ab8 (Ad5 (pv 0) rfl) (Ab8 (Ad5 (pv 0) rfl) Aa4)))))))),?_⟩
  refine ⟨_,rfl,mc,MC,dx,fs,_,rfl,hm,MK.cl,MK.reg,mf.reg,rg,_,rfl,.inl (SqL.of M.m.org),λl hl=>?_⟩
  have s1:=Aa7 (o:=.lst (s0.rs.map V.int)) hl
  have z1:upd H l (.lst (s0.rs.map V.int)) l=some (.lst (s0.rs.map V.int)):=upd_same
  generalize upd H l (.lst (s0.rs.map V.int))=H1 at *
  refine ⟨_,rfl,mc,MC,dx,fs,_,rfl,s1 _ _ hm,MK.cl,MK.ctr,mf.ctr,_,rfl,mc,MC,dx,fs,_,rfl,s1 _ _ hm,MK.cl,MK.ker,mf.ker,_,rfl,mc,MC,dx,fs,_,rfl,s1 _ _ hm,MK.cl,MK.sav,mf.sav,_,rfl,mc,MC,dx,fs,_,rfl,s1 _ _ hm,MK.cl,MK.hal,mf.hal,by show 5<=sizeLine; decide,λt ht=>?_⟩
  exact q t l _ (s1.trans (Aa7 ht)) hl (s1.free ht) upd_same (Aa7 ht _ _ z1)
theorem Bx9:Ab6 ["self"] ["self"] (Aa1 sEvs):=FSc
theorem Bv0 {f:Addr} {fd:FuncData} (F:Fun K "events" "Machine.events" sEvs f fd) (MK:Mcc K MC) (T:Txt K mg):FnOk P w K mg base CX0 1 f fd ["self"] (Bm5 MC):=by
 refine F.ok Bx9 (λvs H Q E h'=>?_) (λcdv A outer s H vs Q E hr h'=>?_)
 ·obtain ⟨mc,wy,po,rg,sv,hp,gate,rr,s0,rfl,_⟩:=h'
  rfl
 ·obtain ⟨mc,wy,po,rg,sv,hp,gate,rr,s0,rfl,M,q⟩:=h'
  obtain ⟨dx,fs,hm,mf⟩:=M.m.ob
  obtain ⟨ys,ey,ty⟩:=M.m.ohp
  refine ⟨_,(Aa6 (Ac3 (Ae6 Ad1 (by rfl) T.lst PyProof.Rows.boot_list (Aa0 (Ad5 (pv 0) rfl) Aa4)))),?_⟩
  refine ⟨_,rfl,mc,MC,dx,fs,_,rfl,hm,MK.cl,MK.hap,mf.hap,hp,_,rfl,.inl (SqL.of ey),λl hl=>?_⟩
  exact q l ys _ (Aa7 hl) hl upd_same (ty.imp λt xs z=>Aa7 hl _ _ z)
end
end K33
end
section
namespace K33
open PySem L2
section
variable {P : Program} {w : World} {K : PySem.W.Frag} {mg : Str → Option Value} {base : Heap} {C NP NL NW NI SC PL WC FA : Addr}
theorem Bx8:Ab6 [] [] (Aa1 sFst):=FSc
theorem Bu9 {f:Addr} {fd:FuncData} (F:Fun K "first_core" "first_core" sFst f fd) (T2:Tx2 K mg):FnOk P w K mg base CX0 1 f fd [] Bm4:=by
 obtain ⟨t1,m1⟩:=T2.reg
 refine F.ok Bx8 (λvs H Q E h'=>?_) (λcdv A outer s H vs Q E hr h'=>?_)
 ·obtain ⟨rfl,_⟩:=h'
  rfl
 ·obtain ⟨rfl,q⟩:=h'
  refine ⟨_,(Aa6 (Ac3 (Ae3 (Ab8 (Ad9 Bl1 (Ah2 (Aa0 Aa3 Aa4)) (Ae0 (by rfl) m1 (show RelV (.int 4) (.int 4 t1) from ⟨_,rfl⟩))) (Ab8 Aa3 (Ab8 Af5 (Ab8 (Ae3 (Ab8 Aa3 (Ab8 Aa3 (Ab8 Aa3 (Ab8 Af5 Aa4))))) (Ab8 Af5 Aa4)))))))),?_⟩
  refine ⟨by show 1<=sizeLine; decide,λl0 hl0=>⟨l0,4,_,rfl,rfl,upd_same,by decide,by decide,(by show 1 * (4:Nat)<=sizeLine; decide),λp hp=>?_⟩⟩
  have u1:=Aa7 (o:=.lst [V.int 0]) hl0
  have u2:=Aa7 (o:=.lst (List.replicate (4:Int).toNat [V.int 0]).flatten) hp
  have zp:upd (upd H l0 (.lst [V.int 0])) p (.lst (List.replicate (4:Int).toNat [V.int 0]).flatten) p=some (.lst (([0,0,0,0]:List Int).map V.int)):=upd_same.trans rfl
  have us:=u1.trans u2
  have p5:H p=none:=u1.free hp
  generalize upd (upd H l0 (.lst [V.int 0])) p (.lst (List.replicate (4:Int).toNat [V.int 0]).flatten)=H1 at *
  refine ⟨by show 4<=sizeLine; decide,λu hu=>?_⟩
  have s3:=Aa7 (o:=.tup [.int 0,.int 0,.int 0,.bl true]) hu
  have zu:upd H1 u (.tup [.int 0,.int 0,.int 0,.bl true]) u=some (.tup [.int 0,.int 0,.int 0,.bl true]):=upd_same
  generalize upd H1 u (.tup [.int 0,.int 0,.int 0,.bl true])=H2 at *
  refine ⟨by show 5<=sizeLine; decide,λt ht=>?_⟩
  have s4:=Aa7 (o:=.tup [.ref p,.int 0,.bl true,.ref u,.bl false]) ht
  exact q t p u _ (us.trans (s3.trans s4)) p5 upd_same (s4 _ _ (s3 _ _ zp)) (s4 _ _ zu)
end
end K33
end
section
namespace L2
open PySem PySem.Spec PyProof.Rows
structure FunD (K:PySem.W.Frag) (x qual:Str) (st:Stmt) (f:Addr) (fd:FuncData) (dV:Value):Prop where
 ex:∃ (oc:Value) (od:Option Addr) (kV doc pm:Value) (an:Option Addr) (cdv ct:Value) (osl:Array (Option Value)),
  fd=PySem.W.fnOf x qual (Ab4 st) (Ab1 st) (Aa1 st) dV kV doc pm an cdv ct/\K.lookup f=some ⟨oc,od,.func fd,osl⟩/\PySem.W.codeIn K cdv qual=true
 kp:PySem.W.keepIn K (.ref f)=true
section
variable {P : Program} {w : World} {K : PySem.W.Frag} {mg : Str → Option Value} {base : Heap}
theorem FunD.ok {x qual:Str} {st:Stmt} {f:Addr} {fd:FuncData} {dV:Value} {N ps:List Str} {k:Nat} {sp:Sp} (F:FunD K x qual st f fd dV) (S:Ab6 N ps (Aa1 st)) (len:∀ vs H Q E,sp vs H Q E->vs.length=ps.length)
  (hbody:∀ (cdv:Value) (A:Around) (outer:List Env) (s:Shared) (H:Hp) (vs:List V) (Q:VK) (E:XK),Room k (A.deeper (envOfC qual (Aa1 st) s.heap.objs.size f cdv))->sp vs H Q E ->
   ∃ t,PSs (cxOf CX0 P w K mg base N qual (Aa1 st) f cdv A outer s H E).nox (Ab1 st) t/\t { nx:=λ_ H'=>Q .non H',rt:=Q } (Am7 N vs) H):FnOk P w K mg base CX0 (k+1) f fd ps sp:=by
 obtain ⟨oc,od,kV,doc,pm,an,cdv,ct,osl,rfl,lk,hcd⟩:=F.ex
 refine Bq8 lk hcd S len λA outer s H vs Q E hr hsp=>?_
 obtain ⟨t,h,q⟩:=hbody cdv A outer s H vs Q E hr hsp
 exact ⟨t,h.nox,q⟩
theorem Bq7 {x qual:Str} {st:Stmt} {f:Addr} {oc dV:Value} {od an:Option Addr} {osl:Array (Option Value)} {kV doc pm cdv ct:Value} (l:K.lookup f=some ⟨oc,od,.func (PySem.W.fnOf x qual (Ab4 st) (Ab1 st) (Aa1 st) dV kV doc pm an cdv ct),osl⟩)
  (c:PySem.W.codeIn K cdv qual=true) (k:PySem.W.keepIn K (.ref f)=true):FunD K x qual st f (PySem.W.fnOf x qual (Ab4 st) (Ab1 st) (Aa1 st) dV kV doc pm an cdv ct) dV:=⟨⟨oc,od,kV,doc,pm,an,cdv,ct,osl,rfl,l,c⟩,k⟩
theorem FunD.bindsD {x qual:Str} {st:Stmt} {f T:Addr} {fd:FuncData} {o:Obj} {items:Array Value} {n:Nat} {ps:List Str} {ds:List Value} {m:Nat} (hm:ps.length=m+ds.length) (F:FunD K x qual st f fd (.ref T)) (ho:K.lookup T=some o) (hs:o.data=.seq items n)
  (h:∀ (kV doc pm:Value) (an:Option Addr) (cdv ct:Value) (us:List Value),us.length=m->∃ k,bindArgs (PySem.W.fnOf x qual (Ab4 st) (Ab1 st) (Aa1 st) (.ref T) kV doc pm an cdv ct) ⟨us,[]⟩=seqItems? (.ref T) >>= k/\k (some items)=pure (ps.zip (us++ds))):Binds K fd ps ds:=by
 obtain ⟨oc,od,kV,doc,pm,an,cdv,ct,osl,rfl,lk,hcd⟩:=F.ex
 intro s us X hl
 obtain ⟨k,h1,h2⟩:=h kV doc pm an cdv ct us (by rw [List.length_append] at hl; omega)
 exact PySem.W.binds_K X rfl ho hs h1 h2
end
end L2
end
section
namespace K33
open PySem L2
abbrev An4:Stmt:=Aa9 (top 91) 0
abbrev Au9:Stmt:=top 92
theorem Mf.init {wy po rg sv hp:Addr} {gate:Int} (c:Int) (kn hl:Bool):Mf (putF "counter" (.int c) (putF "happened" (.ref hp) (putF "halted" (.bl hl) (putF "saved" (.ref sv) (putF "kernel" (.bl kn) (putF "registers" (.ref rg) (putF "gate" (.int gate) (putF "orders" (.ref po) (putF "ways" (.ref wy) []))))))))) wy po rg sv hp gate c kn hl:=by
 refine ⟨?_,?_,?_,?_,?_,?_,?_,?_,?_,λn h1 h2 h3 h4 h5 h6 h7 h8 h9=>?_,?_⟩
 ·iterate 8 rw [Aa2,if_neg (by decide +kernel)]
  rw [Aa2,if_pos rfl]
 ·iterate 7 rw [Aa2,if_neg (by decide +kernel)]
  rw [Aa2,if_pos rfl]
 ·iterate 6 rw [Aa2,if_neg (by decide +kernel)]
  rw [Aa2,if_pos rfl]
 ·iterate 5 rw [Aa2,if_neg (by decide +kernel)]
  rw [Aa2,if_pos rfl]
 ·iterate 4 rw [Aa2,if_neg (by decide +kernel)]
  rw [Aa2,if_pos rfl]
 ·iterate 3 rw [Aa2,if_neg (by decide +kernel)]
  rw [Aa2,if_pos rfl]
 ·iterate 2 rw [Aa2,if_neg (by decide +kernel)]
  rw [Aa2,if_pos rfl]
 ·rw [Aa2,if_neg (by decide +kernel)]
  rw [Aa2,if_pos rfl]
 ·rw [Aa2,if_pos rfl]
 ·rw [Aa2,if_neg h9,Aa2,if_neg h8,Aa2,if_neg h7,Aa2,if_neg h6,Aa2,if_neg h5,Aa2,if_neg h4,Aa2,if_neg h3,Aa2,if_neg h2,Aa2,if_neg h1]
  rfl
 ·have l1:=Ac1 "ways" (.ref wy) ([]:List (Str×V))
  have l2:=Ac1 "orders" (.ref po) (putF "ways" (.ref wy) [])
  have l3:=Ac1 "gate" (.int gate) (putF "orders" (.ref po) (putF "ways" (.ref wy) []))
  have l4:=Ac1 "registers" (.ref rg) (putF "gate" (.int gate) (putF "orders" (.ref po) (putF "ways" (.ref wy) [])))
  have l5:=Ac1 "kernel" (.bl kn) (putF "registers" (.ref rg) (putF "gate" (.int gate) (putF "orders" (.ref po) (putF "ways" (.ref wy) []))))
  have l6:=Ac1 "saved" (.ref sv) (putF "kernel" (.bl kn) (putF "registers" (.ref rg) (putF "gate" (.int gate) (putF "orders" (.ref po) (putF "ways" (.ref wy) [])))))
  have l7:=Ac1 "halted" (.bl hl) (putF "saved" (.ref sv) (putF "kernel" (.bl kn) (putF "registers" (.ref rg) (putF "gate" (.int gate) (putF "orders" (.ref po) (putF "ways" (.ref wy) []))))))
  have l8:=Ac1 "happened" (.ref hp) (putF "halted" (.bl hl) (putF "saved" (.ref sv) (putF "kernel" (.bl kn) (putF "registers" (.ref rg) (putF "gate" (.int gate) (putF "orders" (.ref po) (putF "ways" (.ref wy) [])))))))
  have l9:=Ac1 "counter" (.int c) (putF "happened" (.ref hp) (putF "halted" (.bl hl) (putF "saved" (.ref sv) (putF "kernel" (.bl kn) (putF "registers" (.ref rg) (putF "gate" (.int gate) (putF "orders" (.ref po) (putF "ways" (.ref wy) []))))))))
  have l0:([]:List (Str×V)).length=0:=rfl
  omega
structure Grow (MC:Addr) (H H':Hp) (x dx:Addr) (fs:List (Str×V)) (n:Nat):Prop where
 z:H' x=some (.ins MC dx fs)
 k:∀ b o,b≠x->H b=some o->H' b=some o
 l:fs.length<=n
theorem Grow.put {MC:Addr} {H H':Hp} {x dx:Addr} {fs:List (Str×V)} {n:Nat} (g:Grow MC H H' x dx fs n) (f:Str) (v:V):Grow MC H (upd H' x (.ins MC dx (putF f v fs))) x dx (putF f v fs) (n+1) :=
 ⟨upd_same,λb o nb e=>by rw [Ab0 nb]; exact g.k b o nb e,Nat.le_trans (Ac1 _ _ _) (Nat.succ_le_succ g.l)⟩
theorem Grow.same {MC:Addr} {H H' H2:Hp} {x dx:Addr} {fs:List (Str×V)} {n:Nat} (g:Grow MC H H' x dx fs n) (s:Same H' H2):Grow MC H H2 x dx fs n:=⟨s _ _ g.z,λb o nb e=>s _ _ (g.k b o nb e),g.l⟩
theorem Grow.new {MC:Addr} {H H':Hp} {x dx b:Addr} {fs:List (Str×V)} {n:Nat} (g:Grow MC H H' x dx fs n) (h:H' b=none):b≠x/\H b=none:=by
 have nb:b≠x:=λz=>by rw [z,g.z] at h; cases h
 refine ⟨nb,?_⟩
 cases e:H b with
 | none=>rfl
 | some o=>rw [g.k b o nb e] at h; cases h
def Bc4 (MC:Addr):Sp:=λvs H Q _=>∃ (mc dx wy po rg sv hp:Addr) (gate:Int) (c:Nat) (kn hl:Bool) (fs:List (Str×V)) (ys:List V),vs=[.ref mc,.int (c:Int)]/\H mc=some (.ins MC dx fs)/\fs.length<=99/\Mf (putF "counter" (.int (c:Int)) fs) wy po rg sv hp gate (c:Int) kn hl/\H po=some (.lst ys) /\
 ∀ H' fs',H' mc=some (.ins MC dx fs')->Mf fs' wy po rg sv hp gate (c:Int) kn (hl || decide (ys.length<=c))->(∀ b o,b≠mc->H b=some o->H' b=some o)->Q .non H'
def At5 (MC:Addr):Sp:=λvs H Q _=>∃ (x dx wy pl:Addr) (gate:Int) (ys:List V) (rr:List R3),vs=[.ref x,.ref wy,.ref pl,.int gate,.non,.non]/\H x=some (.ins MC dx [])/\H pl=some (.lst ys)/\Rls H ys rr/\(∀ r ∈ rr,r.Ok)/\1<=rr.length/\rr.length<=60/\0<=gate/\gate<61 /\
 ∀ (po rg sv hp:Addr) H',Ms MC H' x wy po rg sv hp gate rr ⟨0,false,[0,0,0,0],[]⟩->(∀ b o,b≠x->H b=some o->H' b=some o)->H po=none->H rg=none->H hp=none->Q .non H'
theorem Rls.ords {H:Hp} {ys:List V} {rr:List R3} (h:Rls H ys rr) (ok:∀ r ∈ rr,r.Ok):∀ x ∈ ys,Ord H x true:=by
 induction h with
 | nil=>intro x z; cases z
 | @cons t r ys rr e _ ih =>
  intro x z
  rcases List.mem_cons.mp z with rfl | z
  ·refine ⟨.tup e,.inr ⟨t,r.v,rfl,e,λy hy=>?_,(R3.ord (ok r List.mem_cons_self)).symm⟩⟩
   cases r <;> simp only [R3.v,List.mem_cons,List.not_mem_nil,or_false] at hy <;> (first | (rcases hy with rfl | rfl | rfl) | (rcases hy with rfl | rfl) | (obtain rfl:=hy)) <;> first | exact .str _ | exact .int _
  ·exact ih (λr hr=>ok r (List.mem_cons_of_mem _ hr)) x z
section
variable {P : Program} {w : World} {K : PySem.W.Frag} {mg : Str → Option Value} {base : Heap} {C NP NL NW NI SC PL WC FA MC : Addr}
theorem Bp9 {f:Addr} {fd:FuncData} (F:Fun K "arrive" "Machine.arrive" sArr f fd) (MK:Mcc K MC) (T:Txt K mg):FnOk P w K mg base CX0 1 f fd ["self","counter"] (Bc4 MC):=by
 refine F.ok Bt0 (λvs H Q E h'=>?_) (λcdv A outer s H vs Q E hr h'=>?_)
 ·obtain ⟨mc,dx,wy,po,rg,sv,hp,gate,c,kn,hl,fs,ys,rfl,_⟩:=h'
  rfl
 ·obtain ⟨mc,dx,wy,po,rg,sv,hp,gate,c,kn,hl,fs,ys,rfl,hm,lf,mf2,ey,q⟩:=h'
  refine ⟨_,(Aa5 (Ae9 (pv 0) (pv 1) rfl) (Aa6 (Ae5 (Ac2 Bo7 (pv 1) (Ac0 Ac6 (by rfl) T.len PySem.boot_len (Aa0 (Ad5 (pv 0) rfl) Aa4)) (Ac7 _)) (Aa6 (Ae9 (pv 0) Af5 rfl)) Ac4))),?_⟩
  refine ⟨_,rfl,_,rfl,mc,MC,dx,fs,rfl,hm,MK.cl,MK.ctr,(by omega),?_⟩
  have k2:∀ b o,b≠mc->H b=some o->upd H mc (.ins MC dx (putF "counter" (.int (c:Int)) fs)) b=some o:=λb o n e=>by rw [Ab0 n]; exact e
  have z2:upd H mc (.ins MC dx (putF "counter" (.int (c:Int)) fs)) mc=some (.ins MC dx (putF "counter" (.int (c:Int)) fs)):=upd_same
  generalize upd H mc (.ins MC dx (putF "counter" (.int (c:Int)) fs))=H2 at *
  have ey2:=k2 po _ (Ae2 ey hm (by intro z; cases z)) ey
  refine ⟨_,rfl,_,rfl,mc,MC,dx,_,_,rfl,z2,MK.cl,MK.ord,mf2.ord,po,_,rfl,.inl (SqL.of ey2),_,_,rfl,rfl,_,rfl,ite2 (λz=>?_) (λz=>?_)⟩
  ·have z':ys.length<=c:=by have:=of_decide_eq_true z; omega
   refine ⟨_,rfl,mc,MC,dx,_,rfl,z2,MK.cl,MK.hal,(by have:=mf2.few; omega),?_⟩
   rw [decide_eq_true z',Bool.or_true] at q
   exact q _ _ upd_same (mf2.setH true) (λb o n e=>by rw [Ab0 n]; exact k2 b o n e)
  ·have z':¬ ys.length<=c:=λh=>z (decide_eq_true (by show ((ys.length:Nat):Int)<=(c:Int); omega))
   rw [decide_eq_false z',Bool.or_false] at q
   exact q H2 _ z2 mf2 k2
theorem scMI:Ab6 ["self","ways","program","entry","core","events","begun"] ["self","ways","program","entry","core","events"] (Aa1 An4):=FSc
theorem Bi8 {f f1 f2 f3:Addr} {fd fd1 fd2 fd3:FuncData} {dV:Value} (F:FunD K "__init__" "Machine.__init__" An4 f fd dV) (D1:Dn K mg "checked" sChk ["program","entry"] f1 fd1) (G1:FnOk P w K mg base CX0 4 f1 fd1 ["program","entry"] Bm7) (D2:Dn K mg "first_core" sFst [] f2 fd2) (G2:FnOk P w K mg base CX0 1 f2 fd2 [] Bm4) (M1:Me K MC "arrive" "Machine.arrive" sArr ["self","counter"] f3 fd3) (GM1:FnOk P w K mg base CX0 1 f3 fd3 ["self","counter"] (Bc4 MC)) (MK:Mcc K MC) (T:Txt K mg):FnOk P w K mg base CX0 5 f fd ["self","ways","program","entry","core","events"] (At5 MC):=by
 refine F.ok scMI (λvs H Q E h'=>?_) (λcdv A outer s H vs Q E hr h'=>?_)
 ·obtain ⟨x,dx,wy,pl,gate,ys,rr,rfl,_⟩:=h'
  rfl
 ·obtain ⟨x,dx,wy,pl,gate,ys,rr,rfl,hx,hp0,rl,ok,l1,l2,e0,e1,q⟩:=h'
  have hr1:Room 1 _:=hr.mono (by decide)
  have ly:=rl.len
  refine ⟨_,(Aa5 (Af3 (Ab9 G1 hr (by rfl) D1.m D1.F.kp D1.b .nil Ac8 (Aa0 (pv 2) (Aa0 (pv 3) Aa4)))) (Aa5 (Ae9 (pv 0) (pv 1) rfl) (Aa5 (Ae9 (pv 0) (Ae6 Ad1 (by rfl) T.lst PyProof.Rows.boot_list (Aa0 (pv 2) Aa4)) rfl) (Aa5 (Ae9 (pv 0) (pv 3) rfl) (Aa5 (Ae8 (i:=6) scMI.nd rfl (Or.inl rfl) (Aj8 (Ac2 Bd8 (pv 4) Aq3 (Ac7 _)) (Bh9 G2 hr1 (by rfl) D2.m D2.F.kp D2.b .nil Ac8) (pv 4))) (Aa5 (Ae9 (pv 0) (Ae6 Ad1 (by rfl) T.lst PyProof.Rows.boot_list (Aa0 (Ab5 Ab3 (pv 6) Aa3 (λ_ _=>rfl)) Aa4)) rfl) (Aa5 (Ae9 (pv 0) (Ab5 Ab3 (pv 6) Aa3 (λ_ _=>rfl)) rfl) (Aa5 (Ae9 (pv 0) (Ab5 Ab3 (pv 6) Aa3 (λ_ _=>rfl)) rfl) (Aa5 (Ae9 (pv 0) (Ab5 Ab3 (pv 6) Aa3 (λ_ _=>rfl)) rfl) (Aa5 (Ae9 (pv 0) (Aj8 (Ac2 Bd8 (pv 5) Aq3 (Ac7 _)) (Ah2 Aa4) (Ae6 Ad1 (by rfl) T.lst PyProof.Rows.boot_list (Aa0 (pv 5) Aa4))) rfl) (Aa6 (Af3 (Av2 (pv 0) MK.cl M1.m GM1 hr1 M1.b .nil Ac8 (Aa0 (Ab5 Ab3 (pv 6) Aa3 (λ_ _=>rfl)) Aa4)))))))))))))),?_⟩
  refine ⟨_,rfl,_,rfl,pl,ys,gate,rfl,hp0,by omega,by omega,rl.ords ok,e0,e1,λH0 s0=>?_⟩
  have g0:Grow MC H H0 x dx [] 0:=⟨s0 _ _ hx,λb o _ e=>s0 _ _ e,Nat.zero_le _⟩
  refine ⟨_,rfl,_,rfl,x,MC,dx,_,rfl,g0.z,MK.cl,MK.wys,(by have:=g0.l; omega),?_⟩
  have g1:=g0.put "ways" (.ref wy)
  generalize upd H0 x _=H1 at *
  have np:pl≠x:=Ae2 hp0 hx (by intro z; cases z)
  refine ⟨_,rfl,pl,_,rfl,.inl (SqL.of (g1.k _ _ np hp0)),λpo hpo=>?_⟩
  have g2:=g1.same (Aa7 (o:=.lst ys) hpo)
  have z2:upd H1 po (.lst ys) po=some (.lst ys):=upd_same
  obtain ⟨npo,fpo⟩:=g1.new hpo
  generalize upd H1 po (.lst ys)=H2 at *
  refine ⟨_,rfl,x,MC,dx,_,rfl,g2.z,MK.cl,MK.ord,(by have:=g2.l; omega),?_⟩
  have g3:=g2.put "orders" (.ref po)
  have z3:=(Ab0 (o:=.ins MC dx (putF "orders" (.ref po) (putF "ways" (.ref wy) []))) npo:upd H2 x _ po=H2 po).trans z2
  generalize upd H2 x _=H3 at *
  refine ⟨_,rfl,_,rfl,x,MC,dx,_,rfl,g3.z,MK.cl,MK.gat,(by have:=g3.l; omega),?_⟩
  have g4:=g3.put "gate" (.int gate)
  have z4:=(Ab0 (o:=.ins MC dx (putF "gate" (.int gate) (putF "orders" (.ref po) (putF "ways" (.ref wy) [])))) npo:upd H3 x _ po=H3 po).trans z3
  generalize upd H3 x _=H4 at *
  refine ⟨_,rfl,rfl,_,rfl,iteT ⟨rfl,λbt l u H5 s5 fl eb el eu=>?_⟩⟩
  have g5:=g4.same s5
  have z5:=s5 _ _ z4
  obtain ⟨nl,hl0⟩:=g4.new fl
  have nb:bt≠x:=Ae2 eb g5.z (by intro z; cases z)
  have nu:u≠x:=Ae2 eu g5.z (by intro z; cases z)
  refine ⟨_,rfl,bt,_,_,.ref l,rfl,rfl,SqT.of eb,rfl,l,_,rfl,.inl (SqL.of el),λrg hrg=>?_⟩
  have s6:=Aa7 (o:=.lst (([0,0,0,0]:List Int).map V.int)) hrg
  have g6:=g5.same s6
  have r6:upd H5 rg (.lst (([0,0,0,0]:List Int).map V.int)) rg=some (.lst (([0,0,0,0]:List Int).map V.int)):=upd_same
  obtain ⟨nrg,frg⟩:=g5.new hrg
  have nrp:rg≠po:=(Aa8 z5 hrg).symm
  have z6:=s6 _ _ z5
  have eb6:=s6 _ _ eb
  have eu6:=s6 _ _ eu
  generalize upd H5 rg (.lst (([0,0,0,0]:List Int).map V.int))=H6 at *
  refine ⟨_,rfl,x,MC,dx,_,rfl,g6.z,MK.cl,MK.reg,(by have:=g6.l; omega),?_⟩
  have g7:=g6.put "registers" (.ref rg)
  have k7:∀ b o,b≠x->H6 b=some o->upd H6 x (.ins MC dx (putF "registers" (.ref rg) (putF "gate" (.int gate) (putF "orders" (.ref po) (putF "ways" (.ref wy) []))))) b=some o:=λb o n e=>by rw [Ab0 n]; exact e
  generalize upd H6 x _=H7 at *
  refine ⟨_,rfl,bt,_,_,.bl true,rfl,rfl,SqT.of (k7 _ _ nb eb6),rfl,_,rfl,x,MC,dx,_,rfl,g7.z,MK.cl,MK.ker,(by have:=g7.l; omega),?_⟩
  have g8:=g7.put "kernel" (.bl true)
  have k8:∀ b o,b≠x->H6 b=some o->upd H7 x (.ins MC dx (putF "kernel" (.bl true) (putF "registers" (.ref rg) (putF "gate" (.int gate) (putF "orders" (.ref po) (putF "ways" (.ref wy) [])))))) b=some o:=λb o n e=>by rw [Ab0 n]; exact k7 b o n e
  generalize upd H7 x _=H8 at *
  refine ⟨_,rfl,bt,_,_,.ref u,rfl,rfl,SqT.of (k8 _ _ nb eb6),rfl,_,rfl,x,MC,dx,_,rfl,g8.z,MK.cl,MK.sav,(by have:=g8.l; omega),?_⟩
  have g9:=g8.put "saved" (.ref u)
  have k9:∀ b o,b≠x->H6 b=some o->upd H8 x (.ins MC dx (putF "saved" (.ref u) (putF "kernel" (.bl true) (putF "registers" (.ref rg) (putF "gate" (.int gate) (putF "orders" (.ref po) (putF "ways" (.ref wy) []))))))) b=some o:=λb o n e=>by rw [Ab0 n]; exact k8 b o n e
  generalize upd H8 x _=H9 at *
  refine ⟨_,rfl,bt,_,_,.bl false,rfl,rfl,SqT.of (k9 _ _ nb eb6),rfl,_,rfl,x,MC,dx,_,rfl,g9.z,MK.cl,MK.hal,(by have:=g9.l; omega),?_⟩
  have ga:=g9.put "halted" (.bl false)
  have ka:∀ b o,b≠x->H6 b=some o->upd H9 x (.ins MC dx (putF "halted" (.bl false) (putF "saved" (.ref u) (putF "kernel" (.bl true) (putF "registers" (.ref rg) (putF "gate" (.int gate) (putF "orders" (.ref po) (putF "ways" (.ref wy) [])))))))) b=some o:=λb o n e=>by rw [Ab0 n]; exact k9 b o n e
  generalize upd H9 x _=Ha at *
  refine ⟨_,rfl,rfl,_,rfl,iteT ⟨by show 0<=sizeLine; decide,λhp hhp=>?_⟩⟩
  have sb:=Aa7 (o:=.lst ([]:List V)) hhp
  have gb:=ga.same sb
  have zb:upd Ha hp (.lst ([]:List V)) hp=some (.lst []):=upd_same
  obtain ⟨nhp,fhp⟩:=ga.new hhp
  have nhpo:hp≠po:=(Aa8 (ka _ _ npo z6) hhp).symm
  have nhrg:rg≠hp:=Aa8 (ka _ _ nrg r6) hhp
  have kb:∀ b o,b≠x->H6 b=some o->upd Ha hp (.lst ([]:List V)) b=some o:=λb o n e=>sb _ _ (ka b o n e)
  generalize upd Ha hp (.lst ([]:List V))=Hb at *
  refine ⟨_,rfl,x,MC,dx,_,rfl,gb.z,MK.cl,MK.hap,(by have:=gb.l; omega),?_⟩
  have gc:=gb.put "happened" (.ref hp)
  have kc:∀ b o,b≠x->Hb b=some o->upd Hb x (.ins MC dx (putF "happened" (.ref hp) (putF "halted" (.bl false) (putF "saved" (.ref u) (putF "kernel" (.bl true) (putF "registers" (.ref rg) (putF "gate" (.int gate) (putF "orders" (.ref po) (putF "ways" (.ref wy) []))))))))) b=some o:=λb o n e=>by rw [Ab0 n]; exact e
  generalize upd Hb x _=Hc at *
  have mf:=Mf.init (wy:=wy) (po:=po) (rg:=rg) (sv:=u) (hp:=hp) (gate:=gate) 0 true false
  refine ⟨_,rfl,x,dx,_,rfl,gc.z,?_,_,rfl,bt,_,_,.int 0,rfl,rfl,SqT.of (kc _ _ nb (kb _ _ nb eb6)),rfl,x,dx,wy,po,rg,u,hp,gate,0,true,false,_,ys,rfl,gc.z,(by have:=gc.l; omega),mf,kc _ _ npo (kb _ _ npo z6),λH' fs' hm mf' k'=>?_⟩
  ·iterate 8 rw [Aa2,if_neg (by decide +kernel)]
   rfl
  rw [decide_eq_false (show ¬ ys.length<=0 by omega)] at mf'
  have K1:∀ b o,b≠x->H6 b=some o->H' b=some o:=λb o n e=>k' b o n (kc b o n (kb b o n e))
  have K0:∀ b o,b≠x->H b=some o->H' b=some o:=λb o n e=>k' b o n (gc.k b o n e)
  refine q po rg u hp H' ⟨⟨⟨dx,fs',hm,mf'⟩,⟨ys,K1 _ _ npo z6,rl.imp λt xs z=>K0 t _ (Ae2 z hx (by intro z; cases z)) z⟩,K1 _ _ nrg r6,⟨[],k' _ _ nhp (kc _ _ nhp zb),.nil⟩,K1 _ _ nu eu6,ok,rfl,nrp,nhrg,nhpo⟩,λ_=>(by show 0<rr.length; omega)⟩ K0 fpo frg fhp
end
end K33
end
section
namespace K33
open PySem L2
def Bc3 (MC:Addr):Sp:=λvs H Q _=>∃ (p pl l:Addr) (ps:Pgs) (n gate:Int) (bs:List Bool) (ys:List V) (rr:List R3),vs=[.ref p,.int n,.ref pl,.int gate,.ref l]/\Pg H p ps/\Good ps/\1<=ps.length/\ps.length<=24/\1<=n/\n<=12/\H l=some (.lst (bs.map V.bl))/\H pl=some (.lst ys)/\Rls H ys rr/\(∀ r ∈ rr,r.Ok)/\1<=rr.length/\rr.length<=60/\0<=gate/\gate<61 /\
 ∀ (mc wy po rg sv hp:Addr) H',Ms MC H' mc wy po rg sv hp gate rr ⟨0,false,[0,0,0,0],[]⟩->Same H H'->H mc=none->H po=none->H rg=none->H hp=none->Q (.ref mc) H'
section
variable {P : Program} {w : World} {K : PySem.W.Frag} {mg : Str → Option Value} {base : Heap} {C NP NL NW NI SC PL WC FA MC : Addr}
theorem scBa:Ab6 ["pages","most","program","entry","words"] ["pages","most","program","entry","words"] (Aa1 Au9):=FSc
theorem Bp8 {f f1 f2:Addr} {fd fd1 fd2:FuncData} (F:Fun K "bare" "bare" Au9 f fd) (MP:Mk K PL f1) (mP:mg "Plain"=some (.ref PL)) (BP:Binds K fd1 ["self","pages","most","words"] []) (GP:FnOk P w K mg base CX0 8 f1 fd1 ["self","pages","most","words"] (At2 C SC PL)) (MM:Mk K MC f2) (mM:mg "Machine"=some (.ref MC)) (BM:Binds K fd2 ["self","ways","program","entry","core","events"] [.none,.none]) (GI:FnOk P w K mg base CX0 5 f2 fd2 ["self","ways","program","entry","core","events"] (At5 MC)):FnOk P w K mg base CX0 10 f fd ["pages","most","program","entry","words"] (Bc3 MC):=by
 refine F.ok scBa (λvs H Q E h'=>?_) (λcdv A outer s H vs Q E hr8 h'=>?_)
 ·obtain ⟨p,pl,l,ps,n,gate,bs,ys,rr,rfl,_⟩:=h'
  rfl
 ·obtain ⟨p,pl,l,ps,n,gate,bs,ys,rr,rfl,gp,hg,l1,l2,n1,n2,hl,hpl,rl,ok,r1,r2,g0,g1,q⟩:=h'
  have hr6:Room 6 _:=hr8.mono (by decide)
  refine ⟨_,(Aa6 (Ac3 (Ap0 MM GI hr6 (by rfl) mM BM (show Vals [V.non,V.non] [Value.none,Value.none] from .cons rfl (.cons rfl .nil)) Ac8 (Aa0 (Ap0 MP GP hr8 (by rfl) mP BP .nil Ac8 (Aa0 (pv 0) (Aa0 (pv 1) (Aa0 (pv 4) Aa4)))) (Aa0 (pv 2) (Aa0 (pv 3) Aa4)))))),?_⟩
  refine ⟨_,rfl,_,rfl,_,rfl,λwy dw hw hdw nw=>?_⟩
  have s0:Same H (upd (upd H dw (.own wy)) wy (.ins PL dw [])):=(Aa7 hdw).trans (Aa7 (by rw [Ab0 nw.symm]; exact hw))
  refine ⟨wy,dw,p,l,ps,n,bs,rfl,upd_same,gp.same s0,hg,l1,l2,n1,n2,s0 _ _ hl,λm h r q' aw H2 qs b2 _ _ _=>⟨rfl,?_⟩⟩
  have s2:Same H H2:=λb o e=>b2 b o (Aa8 e hw) (s0 _ _ e)
  refine ⟨_,rfl,_,rfl,λx dx hx hdx nx=>?_⟩
  have s3:Same H2 (upd (upd H2 dx (.own x)) x (.ins MC dx [])):=(Aa7 hdx).trans (Aa7 (by rw [Ab0 nx.symm]; exact hx))
  have s23:=s2.trans s3
  refine ⟨x,dx,wy,pl,gate,ys,rr,rfl,upd_same,s23 _ _ hpl,rl.imp λt xs z=>s23 _ _ z,ok,r1,r2,g0,g1,λpo rg sv hp H4 M k4 fpo frg fhp=>⟨rfl,?_⟩⟩
  exact q x wy po rg sv hp H4 M (λb o e=>k4 b o (Aa8 e (s2.free hx)) (s23 _ _ e)) (s2.free hx) (s23.free fpo) (s23.free frg) (s23.free fhp)
end
end K33
end
section
namespace K33
open PySem L2
abbrev Au7:Stmt:=top 94
abbrev sMix:Stmt:=top 95
abbrev Ak2:Stmt:=top 96
abbrev sDoL:Stmt:=top 97
abbrev Ak4:Stmt:=top 98
abbrev At9:Stmt:=top 99
abbrev Ag5:Stmt:=top 100
abbrev sIsC:Stmt:=top 101
abbrev Av0:Stmt:=top 102
abbrev sLaw:Stmt:=top 103
def Bc2 (K:PySem.W.Frag):Sp:=λvs H Q _=>∃ (a:Addr) (ns:List Int) (k:Nat),vs=[.ref a,.int k]/\SqL K H a (ns.map V.int)/\Q (.int (ns.getD k 0)) H
def Bm2:Sp:=λvs H Q _=>∃ c b m:Int,vs=[.int c,.int b,.int m]/\0<m/\∀ v:Int,0<=v->v<m->Q (.int v) H
def Ax9:Sp:=λvs H Q _=>∃ (c:Int) (i n:Nat),vs=[.int c,.int (i:Int),.int (n:Int)]/\i<n/\n<=60/\∀ (t:Addr) (r:R3) H',Same H H'->H' t=some (.tup r.v)->r.Ok->Q (.ref t) H'
theorem Rls.same {H H':Hp} {ys:List V} {rr:List R3} (h:Rls H ys rr) (s:Same H H'):Rls H' ys rr:=h.imp λt xs z=>s _ _ z
theorem Rls.append {H:Hp} {ys zs:List V} {rr qq:List R3} (h:Rls H ys rr) (g:Rls H zs qq):Rls H (ys++zs) (rr++qq):=by
 induction h with
 | nil=>exact g
 | cons e _ ih=>exact .cons e ih
section
variable {P : Program} {w : World} {K : PySem.W.Frag} {mg : Str → Option Value} {base : Heap} {C NP NL NW NI SC PL WC FA : Addr}
theorem scCe:Ab6 ["_law_script","_law_k"] ["_law_script","_law_k"] (Aa1 Au7):=FSc
theorem Bp6 {f:Addr} {fd:FuncData} (F:Fun K "_law_cell_at" "_law_cell_at" Au7 f fd) (T:Txt K mg):FnOk P w K mg base CX0 1 f fd ["_law_script","_law_k"] (Bc2 K):=by
 refine F.ok scCe (λvs H Q E h=>?_) (λcdv A outer s H vs Q E hr h=>?_)
 ·obtain ⟨x,ns,k,rfl,_⟩:=h
  rfl
 ·obtain ⟨x,ns,k,rfl,hS,q⟩:=h
  refine ⟨_,(Aa5 (Ae5 (Ac2 Bi0 (pv 1) (Ac0 Ac6 (by rfl) T.len PySem.boot_len (Aa0 (pv 0) Aa4)) (Ac7 _)) (Aa6 (Ac3 (Ab5 Ad4 (pv 0) (pv 1) (λ_ _=>rfl)))) Ac4) (Aa6 (Ac3 Aa3))),?_⟩
  refine ⟨_,rfl,_,rfl,x,_,rfl,.inl hS,_,_,rfl,rfl,_,rfl,ite2 (λz=>?_) (λz=>?_)⟩
  ·have z':=of_decide_eq_true z
   rw [List.length_map] at z'
   exact ⟨_,rfl,_,rfl,x,_,_,_,rfl,rfl,hS,Ad2 (by omega),q⟩
  ·have z':¬ ((k:Int)<((ns.map V.int).length:Int)):=λy=>z (decide_eq_true y)
   rw [List.length_map] at z'
   rw [List.getD_eq_getElem?_getD,List.getElem?_eq_none (by omega)] at q
   exact q
theorem scMi:Ab6 ["_law_cell","_law_by","_law_many"] ["_law_cell","_law_by","_law_many"] (Aa1 sMix):=FSc
theorem Bu6 {f:Addr} {fd:FuncData} (F:Fun K "_law_mix" "_law_mix" sMix f fd):FnOk P w K mg base CX0 1 f fd ["_law_cell","_law_by","_law_many"] Bm2:=by
 refine F.ok scMi (λvs H Q E h=>?_) (λcdv A outer s H vs Q E hr h=>?_)
 ·obtain ⟨c,b,m,rfl,_⟩:=h
  rfl
 ·obtain ⟨c,b,m,rfl,hm,q⟩:=h
  refine ⟨_,(Aa6 (Ac3 (Ad9 Ai2 (Ad9 Bo8 (Ad9 Ai2 (Ad9 Ah3 (Ad9 Bu2 (Ad9 Ai2 (pv 0) Aa3) (pv 1)) (pv 1)) Aa3) Aa3) (pv 2)))),?_⟩
  have e0:=Int.emod_nonneg c (show (1000003:Int)≠0 by decide)
  have e1:=Int.emod_lt_of_pos c (show (0:Int)<1000003 by decide)
  exact ⟨_,rfl,c,1000003,rfl,rfl,(by show (0:Int)<1000003; decide),_,rfl,_,_,rfl,rfl,.inl ⟨by omega,by omega⟩,_,rfl,_,_,rfl,rfl,_,2147483647,rfl,rfl,(by show (0:Int)<2147483647; decide),_,1024,rfl,rfl,⟨by decide,by decide⟩,_,rfl,_,m,rfl,rfl,hm,q _ (Int.emod_nonneg _ (by omega)) (Int.emod_lt_of_pos _ hm)⟩
theorem scLW:Ab6 ["_law_found"] ["_law_found"] (Aa1 Ag5):=FSc
theorem Be1 {f:Addr} {fd:FuncData} (F:Fun K "_law_whole" "_law_whole" Ag5 f fd) (T:Txt K mg):FnOk P w K mg base CX0 1 f fd ["_law_found"] Af9:=by
 refine F.ok scLW (λvs H Q E h=>?_) (λcdv A outer s H vs Q E hr h=>?_)
 ·obtain ⟨x,rfl,_⟩:=h
  rfl
 ·obtain ⟨x,rfl,th,q⟩:=h
  refine ⟨_,(Aa6 (Ac3 (Al5 (Ac0 Ao1 (by rfl) T.isi PyProof.Rows.boot_isinstance (Aa0 (pv 0) (Aa0 (Ae4 (by rfl) T.int PyProof.Rows.boot_int (show RelV (.ty "int") (.type "int") from rfl)) Aa4))) (An6 (Bk9 (Ac0 Ai6 (by rfl) T.isi PyProof.Rows.boot_isinstance (Aa0 (pv 0) (Aa0 (Ae4 (by rfl) T.boo PyProof.Rows.boot_bool (show RelV (.ty "bool") (.type "bool") from rfl)) Aa4)))))))),?_⟩
  refine ⟨x,rfl,x,rfl,th,_,rfl,?_⟩
  cases th with
  | non=>exact iteF q
  | bl b=>exact iteT ⟨_,rfl,_,rfl,.bl b,_,rfl,q⟩
  | int i=>exact iteT ⟨_,rfl,_,rfl,.int i,_,rfl,q⟩
  | str z=>exact iteF q
  | lst e=>exact iteF q
  | frz e=>exact iteF q
  | tup e=>exact iteF q
  | dic e=>exact iteF q
theorem scRL:Ab6 ["_law_cell","_law_at","_law_many","_law_a","_law_b","_law_to","_law_some"] ["_law_cell","_law_at","_law_many"] (Aa1 Ak2):=FSc
theorem Bp1 {f f1:Addr} {fd fd1:FuncData} (F:Fun K "_law_row" "_law_row" Ak2 f fd) (D1:Dn K mg "_law_mix" sMix ["_law_cell","_law_by","_law_many"] f1 fd1) (G1:FnOk P w K mg base CX0 1 f1 fd1 ["_law_cell","_law_by","_law_many"] Bm2):FnOk P w K mg base CX0 2 f fd ["_law_cell","_law_at","_law_many"] Ax9:=by
 refine F.ok scRL (λvs H Q E h'=>?_) (λcdv A outer s H vs Q E hr h'=>?_)
 ·obtain ⟨c,i,n,rfl,_⟩:=h'
  rfl
 ·obtain ⟨c,i,n,rfl,i1,n6,q⟩:=h'
  have e48:(2:Int) ^ (48:Int).toNat=281474976710656:=by decide
  obtain ⟨t4,R4,hR4⟩:∃ tr,PSsq (cxOf CX0 P w K mg base ["_law_cell","_law_at","_law_many","_law_a","_law_b","_law_to","_law_some"] "_law_row" (Aa1 Ak2) f cdv A outer s H E).nox ((Ab1 Ak2).drop 4) tr/\∀ (H1:Hp) (A B T:Nat),Same H H1->A<4->B<4->T<61->tr { nx:=λ_ H'=>Q .non H',rt:=Q } [some (.int c),some (.int (i:Int)),some (.int (n:Int)),some (.int (A:Int)),some (.int (B:Int)),some (.int (T:Int)),none] H1:=by
   refine ⟨_,(Ae1 (Ah7 (i:=6) scRL.nd rfl (Or.inl rfl) (Bd2 (Af2 ⟨(Ae3 (Aa0 Ad7 (Aa0 (pv 3) (Aa0 (Ad9 Ai2 (pv 0) (Ad9 Bd5 Aa3 Aa3)) Aa4))))⟩ (Af2 ⟨(Ae3 (Aa0 Ad7 (Aa0 (pv 3) (Aa0 (Ad9 Ai2 (pv 0) Aa3) Aa4))))⟩ (Af2 ⟨(Ae3 (Aa0 Ad7 (Aa0 (pv 3) (Aa0 (pv 4) Aa4))))⟩ (Af2 ⟨(Ae3 (Aa0 Ad7 (Aa0 (pv 3) (Aa0 (pv 4) Aa4))))⟩ (Af2 ⟨(Ae3 (Aa0 Ad7 (Aa0 (pv 3) (Aa0 (pv 4) Aa4))))⟩ Bd4))))))) (Ae1 (Ah7 (i:=6) scRL.nd rfl (Or.inl rfl) (Bt6 Bu3 ⟨(pv 6)⟩ (Bd2 (Af2 ⟨(Ae3 (Aa0 Ad7 (Aa0 (pv 3) (Aa0 (Ad9 Ay6 (Ad9 Ay6 (Ad9 Bd5 Aa3 Aa3) Aa3) (Ad9 Ai2 (pv 0) Aa3)) Aa4))))⟩ (Af2 ⟨(Ae3 (Aa0 Ad7 (Aa0 (pv 3) Aa4)))⟩ (Af2 ⟨(Ae3 (Aa0 Ad7 (Aa0 (pv 3) (Aa0 (pv 5) Aa4))))⟩ (Af2 ⟨(Ae3 (Aa0 Ad7 (Aa0 (pv 5) Aa4)))⟩ (Af2 ⟨(Ae3 (Aa0 Ad7 (Aa0 (pv 4) Aa4)))⟩ Bd4)))))))) (Ae1 (Al3 ⟨(Ac2 Ag8 (Ab9 G1 hr (by rfl) D1.m D1.F.kp D1.b .nil Ac8 (Aa0 (pv 0) (Aa0 Aa3 (Aa0 Aa3 Aa4)))) Aa3 (Ac7 _))⟩ (Af4 ⟨(Ac3 (Ae3 (Aa0 Ad7 Aa4)))⟩) Ag6) (Af4 ⟨(Ac3 (Ab5 Ad4 (pv 6) (Ab9 G1 hr (by rfl) D1.m D1.F.kp D1.b .nil Ac8 (Aa0 (pv 0) (Aa0 Aa3 (Aa0 Aa3 Aa4)))) (λ_ _=>rfl)))⟩)))),λH1 A B T ss A4 B4 T6=>?_⟩
   refine ⟨_,rfl,_,rfl,2,48,rfl,rfl,⟨by decide,by decide,by decide⟩,c,_,rfl,rfl,(by show (0:Int)<2 ^ (48:Int).toNat; decide),by show 3<=sizeLine; decide,λt1 ht1=>?_⟩
   have s1:=Aa7 (o:=.tup [.str "set",.int (A:Int),.int (c % (2:Int) ^ (48:Int).toNat)]) ht1
   have z1:upd H1 t1 (.tup [.str "set",.int (A:Int),.int (c % (2:Int) ^ (48:Int).toNat)]) t1=some (.tup (R3.v (.set A (c % 281474976710656)))):=by rw [upd_same]; (try rw [e48]); rfl
   generalize upd H1 t1 (.tup [.str "set",.int (A:Int),.int (c % (2:Int) ^ (48:Int).toNat)])=J1 at *
   refine ⟨_,rfl,_,rfl,c,3,rfl,rfl,(by show (0:Int)<3; decide),by show 3<=sizeLine; decide,λt2 ht2=>?_⟩
   have s2:=Aa7 (o:=.tup [.str "set",.int (A:Int),.int (c % 3)]) ht2
   have z2:upd J1 t2 (.tup [.str "set",.int (A:Int),.int (c % 3)]) t2=some (.tup (R3.v (.set A (c % 3)))):=by rw [upd_same]; (try rw [e48]); rfl
   generalize upd J1 t2 (.tup [.str "set",.int (A:Int),.int (c % 3)])=J2 at *
   refine ⟨_,rfl,_,rfl,by show 3<=sizeLine; decide,λt3 ht3=>?_⟩
   have s3:=Aa7 (o:=.tup [.str "add",.int (A:Int),.int (B:Int)]) ht3
   have z3:upd J2 t3 (.tup [.str "add",.int (A:Int),.int (B:Int)]) t3=some (.tup (R3.v (.add A B))):=by rw [upd_same]; (try rw [e48]); rfl
   generalize upd J2 t3 (.tup [.str "add",.int (A:Int),.int (B:Int)])=J3 at *
   refine ⟨_,rfl,_,rfl,by show 3<=sizeLine; decide,λt4 ht4=>?_⟩
   have s4:=Aa7 (o:=.tup [.str "both",.int (A:Int),.int (B:Int)]) ht4
   have z4:upd J3 t4 (.tup [.str "both",.int (A:Int),.int (B:Int)]) t4=some (.tup (R3.v (.both A B))):=by rw [upd_same]; (try rw [e48]); rfl
   generalize upd J3 t4 (.tup [.str "both",.int (A:Int),.int (B:Int)])=J4 at *
   refine ⟨_,rfl,_,rfl,by show 3<=sizeLine; decide,λt5 ht5=>?_⟩
   have s5:=Aa7 (o:=.tup [.str "odd",.int (A:Int),.int (B:Int)]) ht5
   have z5:upd J4 t5 (.tup [.str "odd",.int (A:Int),.int (B:Int)]) t5=some (.tup (R3.v (.odd A B))):=by rw [upd_same]; (try rw [e48]); rfl
   generalize upd J4 t5 (.tup [.str "odd",.int (A:Int),.int (B:Int)])=J5 at *
   refine ⟨by show 5<=sizeLine; decide,λla hla=>?_⟩
   have sa:=Aa7 (o:=.lst [.ref t1,.ref t2,.ref t3,.ref t4,.ref t5]) hla
   have za:upd J5 la (.lst [.ref t1,.ref t2,.ref t3,.ref t4,.ref t5]) la=some (.lst [.ref t1,.ref t2,.ref t3,.ref t4,.ref t5]):=upd_same
   have r5:Rls (upd J5 la (.lst [.ref t1,.ref t2,.ref t3,.ref t4,.ref t5])) [.ref t1,.ref t2,.ref t3,.ref t4,.ref t5] [(.set A (c % 281474976710656)),(.set A (c % 3)),(.add A B),(.both A B),(.odd A B)]:=.cons (sa _ _ (s5 _ _ (s4 _ _ (s3 _ _ (s2 _ _ z1))))) (.cons (sa _ _ (s5 _ _ (s4 _ _ (s3 _ _ z2)))) (.cons (sa _ _ (s5 _ _ (s4 _ _ z3))) (.cons (sa _ _ (s5 _ _ z4)) (.cons (sa _ _ z5) .nil))))
   have sA:Same H (upd J5 la (.lst [.ref t1,.ref t2,.ref t3,.ref t4,.ref t5])):=ss.trans (s1.trans (s2.trans (s3.trans (s4.trans (s5.trans sa)))))
   clear s1 s2 s3 s4 s5 z1 z2 z3 z4 z5 sa
   generalize upd J5 la (.lst [.ref t1,.ref t2,.ref t3,.ref t4,.ref t5])=Ja at *
   refine ⟨_,rfl,?_⟩
   refine ⟨_,rfl,2,48,rfl,rfl,⟨by decide,by decide,by decide⟩,_,1,rfl,rfl,_,rfl,c,7,rfl,rfl,(by show (0:Int)<7; decide),_,_,rfl,rfl,by show 3<=sizeLine; decide,λt6 ht6=>?_⟩
   have s6:=Aa7 (o:=.tup [.str "set",.int (A:Int),.int ((2:Int) ^ (48:Int).toNat - 1 - c % 7)]) ht6
   have z6:upd Ja t6 (.tup [.str "set",.int (A:Int),.int ((2:Int) ^ (48:Int).toNat - 1 - c % 7)]) t6=some (.tup (R3.v (.set A (281474976710656 - 1 - c % 7)))):=by rw [upd_same]; (try rw [e48]); rfl
   generalize upd Ja t6 (.tup [.str "set",.int (A:Int),.int ((2:Int) ^ (48:Int).toNat - 1 - c % 7)])=J6 at *
   refine ⟨_,rfl,by show 2<=sizeLine; decide,λt7 ht7=>?_⟩
   have s7:=Aa7 (o:=.tup [.str "tell",.int (A:Int)]) ht7
   have z7:upd J6 t7 (.tup [.str "tell",.int (A:Int)]) t7=some (.tup (R3.v (.tell A))):=by rw [upd_same]; (try rw [e48]); rfl
   generalize upd J6 t7 (.tup [.str "tell",.int (A:Int)])=J7 at *
   refine ⟨_,rfl,_,rfl,by show 3<=sizeLine; decide,λt8 ht8=>?_⟩
   have s8:=Aa7 (o:=.tup [.str "nought",.int (A:Int),.int (T:Int)]) ht8
   have z8:upd J7 t8 (.tup [.str "nought",.int (A:Int),.int (T:Int)]) t8=some (.tup (R3.v (.nought A T))):=by rw [upd_same]; (try rw [e48]); rfl
   generalize upd J7 t8 (.tup [.str "nought",.int (A:Int),.int (T:Int)])=J8 at *
   refine ⟨_,rfl,by show 2<=sizeLine; decide,λt9 ht9=>?_⟩
   have s9:=Aa7 (o:=.tup [.str "jump",.int (T:Int)]) ht9
   have z9:upd J8 t9 (.tup [.str "jump",.int (T:Int)]) t9=some (.tup (R3.v (.jump T))):=by rw [upd_same]; (try rw [e48]); rfl
   generalize upd J8 t9 (.tup [.str "jump",.int (T:Int)])=J9 at *
   refine ⟨_,rfl,by show 2<=sizeLine; decide,λt10 ht10=>?_⟩
   have s10:=Aa7 (o:=.tup [.str "tell",.int (B:Int)]) ht10
   have z10:upd J9 t10 (.tup [.str "tell",.int (B:Int)]) t10=some (.tup (R3.v (.tell B))):=by rw [upd_same]; (try rw [e48]); rfl
   generalize upd J9 t10 (.tup [.str "tell",.int (B:Int)])=J10 at *
   refine ⟨by show 5<=sizeLine; decide,λlb hlb=>?_⟩
   have sb:=Aa7 (o:=.lst [.ref t6,.ref t7,.ref t8,.ref t9,.ref t10]) hlb
   have zb:upd J10 lb (.lst [.ref t6,.ref t7,.ref t8,.ref t9,.ref t10]) lb=some (.lst [.ref t6,.ref t7,.ref t8,.ref t9,.ref t10]):=upd_same
   have r6:Rls (upd J10 lb (.lst [.ref t6,.ref t7,.ref t8,.ref t9,.ref t10])) [.ref t6,.ref t7,.ref t8,.ref t9,.ref t10] [(.set A (281474976710656 - 1 - c % 7)),(.tell A),(.nought A T),(.jump T),(.tell B)]:=.cons (sb _ _ (s10 _ _ (s9 _ _ (s8 _ _ (s7 _ _ z6))))) (.cons (sb _ _ (s10 _ _ (s9 _ _ (s8 _ _ z7)))) (.cons (sb _ _ (s10 _ _ (s9 _ _ z8))) (.cons (sb _ _ (s10 _ _ z9)) (.cons (sb _ _ z10) .nil))))
   have sB:Same Ja (upd J10 lb (.lst [.ref t6,.ref t7,.ref t8,.ref t9,.ref t10])):=s6.trans (s7.trans (s8.trans (s9.trans (s10.trans sb))))
   clear s6 s7 s8 s9 s10 z6 z7 z8 z9 z10 sb
   generalize upd J10 lb (.lst [.ref t6,.ref t7,.ref t8,.ref t9,.ref t10])=Jb at *
   refine ⟨la,lb,_,_,rfl,rfl,sB _ _ za,zb,by show 10<=sizeLine; decide,λlc hlc=>?_⟩
   have rA:=(r5.same sB).append r6
   have sC:=Aa7 (o:=.lst ([.ref t1,.ref t2,.ref t3,.ref t4,.ref t5]++[.ref t6,.ref t7,.ref t8,.ref t9,.ref t10])) hlc
   have zc:upd Jb lc (.lst ([.ref t1,.ref t2,.ref t3,.ref t4,.ref t5]++[.ref t6,.ref t7,.ref t8,.ref t9,.ref t10])) lc=some (.lst ([.ref t1,.ref t2,.ref t3,.ref t4,.ref t5]++[.ref t6,.ref t7,.ref t8,.ref t9,.ref t10])):=upd_same
   have rB:=rA.same sC
   have sD:=(sA.trans sB).trans sC
   clear r5 r6 rA sA sB sC za zb
   generalize upd Jb lc (.lst ([.ref t1,.ref t2,.ref t3,.ref t4,.ref t5]++[.ref t6,.ref t7,.ref t8,.ref t9,.ref t10]))=Jc at *
   have okA:∀ r ∈ [(.set A (c % 281474976710656)),(.set A (c % 3)),(.add A B),(.both A B),(.odd A B)]++[(.set A (281474976710656 - 1 - c % 7)),(.tell A),(.nought A T),(.jump T),(.tell B)],R3.Ok r:=by
    have c0:0<=c % 281474976710656:=Int.emod_nonneg _ (by decide)
    have c1:c % 281474976710656<281474976710656:=Int.emod_lt_of_pos _ (by decide)
    have d0:0<=c % 3:=Int.emod_nonneg _ (by decide)
    have d1:c % 3<3:=Int.emod_lt_of_pos _ (by decide)
    have f0:0<=c % 7:=Int.emod_nonneg _ (by decide)
    have f1:c % 7<7:=Int.emod_lt_of_pos _ (by decide)
    intro r hr
    simp only [List.cons_append,List.nil_append,List.mem_cons,List.not_mem_nil,or_false] at hr
    rcases hr with rfl | rfl | rfl | rfl | rfl | rfl | rfl | rfl | rfl | rfl <;> simp only [R3.Ok] <;> omega
   refine ⟨_,rfl,c,13499,20,rfl,by decide,λv v0 v1=>⟨rfl,_,rfl,ite2 (λ_=>?_) (λ_=>?_)⟩⟩
   ·exact ⟨by show 1<=sizeLine; decide,λt ht=>q t .halt _ (sD.trans (Aa7 ht)) upd_same trivial⟩
   ·refine ⟨_,rfl,_,rfl,c,39119,10,rfl,by decide,λv v0 v1=>?_⟩
    obtain ⟨k,rfl⟩:∃ k:Nat,v=(k:Int):=⟨v.toNat,by omega⟩
    have hk:k<([(.set A (c % 281474976710656)),(.set A (c % 3)),(.add A B),(.both A B),(.odd A B)]++[(.set A (281474976710656 - 1 - c % 7)),(.tell A),(.nought A T),(.jump T),(.tell B)]:List R3).length:=by show k<10; omega
    obtain ⟨t,et,ez⟩:=rB.get k _ (List.getElem?_eq_getElem hk)
    exact ⟨lc,_,_,.ref t,rfl,rfl,SqL.of zc,Ap6 et,q t _ Jc sD ez (okA _ (List.getElem_mem hk))⟩
  refine PSsq.ex (show PSsq (cxOf CX0 P w K mg base ["_law_cell","_law_at","_law_many","_law_a","_law_b","_law_to","_law_some"] "_law_row" (Aa1 Ak2) f cdv A outer s H E).nox (Ab1 Ak2) _ from Ae1 (Ah7 (i:=3) scRL.nd rfl (Or.inl rfl) ⟨(Ab9 G1 hr (by rfl) D1.m D1.F.kp D1.b .nil Ac8 (Aa0 (pv 0) (Aa0 Aa3 (Aa0 Aa3 Aa4))))⟩) (Ae1 (Ah7 (i:=4) scRL.nd rfl (Or.inl rfl) ⟨(Ab9 G1 hr (by rfl) D1.m D1.F.kp D1.b .nil Ac8 (Aa0 (pv 0) (Aa0 Aa3 (Aa0 Aa3 Aa4))))⟩) (Ae1 (Ah7 (i:=5) scRL.nd rfl (Or.inl rfl) ⟨(Ad9 Ah3 (Ad9 Ah3 (pv 1) Aa3) (Ab9 G1 hr (by rfl) D1.m D1.F.kp D1.b .nil Ac8 (Aa0 (pv 0) (Aa0 Aa3 (Aa0 (Ad9 Ay6 (pv 2) (pv 1)) Aa4)))))⟩) (Ae1 (Al3 ⟨(Ac2 Ag8 (Ab9 G1 hr (by rfl) D1.m D1.F.kp D1.b .nil Ac8 (Aa0 (pv 0) (Aa0 Aa3 (Aa0 Aa3 Aa4)))) Aa3 (Ac7 _))⟩ (Af4 (Ah7 (i:=5) scRL.nd rfl (Or.inl rfl) ⟨(Ab9 G1 hr (by rfl) D1.m D1.F.kp D1.b .nil Ac8 (Aa0 (pv 0) (Aa0 Aa3 (Aa0 (pv 2) Aa4))))⟩)) Ag6) R4)))) ?_
  refine ⟨_,rfl,c,48271,4,rfl,by decide,λv1 a0 a1=>⟨_,rfl,c,69623,4,rfl,by decide,λv2 b0 b1=>?_⟩⟩
  obtain ⟨A,rfl⟩:∃ k:Nat,v1=(k:Int):=⟨v1.toNat,by omega⟩
  obtain ⟨B,rfl⟩:∃ k:Nat,v2=(k:Int):=⟨v2.toNat,by omega⟩
  refine ⟨_,rfl,(i:Int),1,rfl,rfl,_,rfl,_,rfl,_,rfl,(n:Int),(i:Int),rfl,rfl,c,40709,_,rfl,(by show (0:Int)<(n:Int) - (i:Int); omega),λv3 t0 t1=>⟨_,_,rfl,rfl,?_⟩⟩
  refine ⟨_,rfl,c,27437,3,rfl,by decide,λv4 _ _=>⟨rfl,_,rfl,ite2 (λ_=>?_) (λ_=>?_)⟩⟩
  ·refine ⟨_,rfl,_,rfl,c,18149,_,rfl,(by show (0:Int)<(n:Int); omega),λv5 u0 u1=>?_⟩
   obtain ⟨T,rfl⟩:∃ k:Nat,v5=(k:Int):=⟨v5.toNat,by omega⟩
   exact hR4 H A B T (Same.refl _) (by omega) (by omega) (by omega)
  ·obtain ⟨T,hT⟩:∃ k:Nat,(i:Int)+1+v3=(k:Int):=⟨((i:Int)+1+v3).toNat,by omega⟩
   have:=hR4 H A B T (Same.refl _) (by omega) (by omega) (by omega)
   rw [<- hT] at this
   exact this
end
end K33
end
section
namespace K33
open PySem L2
def Bm6:Sp:=λvs H Q _=>∃ (t cl ev:Addr) (r:R3) (rs es:List Int) (ys:List V),vs=[.ref t,.ref cl,.ref ev]/\H t=some (.tup r.v)/\r.Ok/\H cl=some (.lst (rs.map V.int))/\rs.length=4/\H ev=some (.lst ys)/\Evs H ys es/\es.length<=900/\cl≠ev /\
 ∀ H' ys',H' cl=some (.lst ((r.rs rs).map V.int))->H' ev=some (.lst ys')->Evs H' ys' (es++r.es rs)->(∀ b o,b≠cl->b≠ev->H b=some o->H' b=some o)->Q .non H'
def At4:Sp:=λvs H Q _=>∃ (t cl:Addr) (r:R3) (rs:List Int) (c:Nat),vs=[.ref t,.ref cl,.int (c:Int)]/\H t=some (.tup r.v)/\r.Ok/\H cl=some (.lst (rs.map V.int))/\rs.length=4/\Q (.int ((r.at rs c:Nat):Int)) H
section
variable {P : Program} {w : World} {K : PySem.W.Frag} {mg : Str → Option Value} {base : Heap} {C NP NL NW NI SC PL WC FA : Addr}
theorem scDL:Ab6 ["_law_row_here","_law_cells","_law_events"] ["_law_row_here","_law_cells","_law_events"] (Aa1 sDoL):=FSc
theorem Bv1 {f:Addr} {fd:FuncData} (F:Fun K "_law_do" "_law_do" sDoL f fd):FnOk P w K mg base CX0 1 f fd ["_law_row_here","_law_cells","_law_events"] Bm6:=by
 refine F.ok scDL (λvs H Q E h'=>?_) (λcdv A outer s H vs Q E hr h'=>?_)
 ·obtain ⟨t,cl,ev,r,rs,es,ys,rfl,_⟩:=h'
  rfl
 ·obtain ⟨t,cl,ev,r,rs,es,ys,rfl,ht,hok,hc,hl,he,hv,l9,hn,q⟩:=h'
  have e48:(2:Int) ^ (48:Int).toNat=281474976710656:=by decide
  have ly:=hv.len
  refine PSsq.ex (show PSsq (cxOf CX0 P w K mg base ["_law_row_here","_law_cells","_law_events"] "_law_do" (Aa1 sDoL) f cdv A outer s H E).nox (Ab1 sDoL) _ from (Ae1 (Al3 ⟨(Ac2 Ag8 (Ab5 Ab3 (pv 0) Aa3 (λ_ _=>rfl)) Ad7 (Ac7 _))⟩ (Af4 ⟨(Ai1 (Ab5 Ab3 (pv 0) Aa3 (λ_ _=>rfl)) (Aj4 (pv 1) (Ab5 Ab3 (pv 0) Aa3 (λ_ _=>rfl)) Af8))⟩) Ag6) (Ae1 (Al3 ⟨(Ac2 Ag8 (Ab5 Ab3 (pv 0) Aa3 (λ_ _=>rfl)) Ad7 (Ac7 _))⟩ (Af4 ⟨(Ai1 (Ad9 Ai2 (Ad9 Ah3 (Ab5 Ad4 (pv 1) (Ab5 Ab3 (pv 0) Aa3 (λ_ _=>rfl)) (λ_ _=>rfl)) (Ab5 Ad4 (pv 1) (Ab5 Ab3 (pv 0) Aa3 (λ_ _=>rfl)) (λ_ _=>rfl))) (Ad9 Bd5 Aa3 Aa3)) (Aj4 (pv 1) (Ab5 Ab3 (pv 0) Aa3 (λ_ _=>rfl)) Af8))⟩) Ag6) (Ae1 (Al3 ⟨(Ac2 Ag8 (Ab5 Ab3 (pv 0) Aa3 (λ_ _=>rfl)) Ad7 (Ac7 _))⟩ (Af4 ⟨(Ai1 (Ad9 Bl3 (Ab5 Ad4 (pv 1) (Ab5 Ab3 (pv 0) Aa3 (λ_ _=>rfl)) (λ_ _=>rfl)) (Ab5 Ad4 (pv 1) (Ab5 Ab3 (pv 0) Aa3 (λ_ _=>rfl)) (λ_ _=>rfl))) (Aj4 (pv 1) (Ab5 Ab3 (pv 0) Aa3 (λ_ _=>rfl)) Af8))⟩) Ag6) (Ae1 (Al3 ⟨(Ac2 Ag8 (Ab5 Ab3 (pv 0) Aa3 (λ_ _=>rfl)) Ad7 (Ac7 _))⟩ (Af4 ⟨(Ai1 (Ad9 Bl0 (Ab5 Ad4 (pv 1) (Ab5 Ab3 (pv 0) Aa3 (λ_ _=>rfl)) (λ_ _=>rfl)) (Ab5 Ad4 (pv 1) (Ab5 Ab3 (pv 0) Aa3 (λ_ _=>rfl)) (λ_ _=>rfl))) (Aj4 (pv 1) (Ab5 Ab3 (pv 0) Aa3 (λ_ _=>rfl)) Af8))⟩) Ag6) (Af4 (Al3 ⟨(Ac2 Ag8 (Ab5 Ab3 (pv 0) Aa3 (λ_ _=>rfl)) Ad7 (Ac7 _))⟩ (Af4 ⟨(Af3 (Bo4 PySem.F.plainAttrs_list PySem.F.slot_list_append PySem.F.type_list_append Ah4 (pv 2) (Aa0 (Ae3 (Aa0 Ad7 (Aa0 (Ab5 Ad4 (pv 1) (Ab5 Ab3 (pv 0) Aa3 (λ_ _=>rfl)) (λ_ _=>rfl)) Aa4))) Aa4)))⟩) Ag6))))))) ?_
  cases r with
  | set a v =>
   refine ⟨_,rfl,t,_,_,_,rfl,rfl,SqT.of ht,rfl,rfl,_,rfl,Ag3 (by decide +kernel) ?_⟩
   refine ⟨_,rfl,t,_,_,.int v,rfl,rfl,SqT.of ht,rfl,_,rfl,_,rfl,t,_,_,.int (a:Int),rfl,rfl,SqT.of ht,rfl,cl,_,_,a,rfl,rfl,hc,Ah5 (by rw [List.length_map,hl]; exact hok.1),?_⟩
   have ht2:upd H cl (.lst ((rs.map V.int).set a (.int v))) t=some (.tup (R3.v (.set a v))):=by rw [Ab0 (Ae2 ht hc (by intro z; cases z))]; exact ht
   refine ⟨_,rfl,t,_,_,_,rfl,rfl,SqT.of (by first | exact ht2 | exact nt _ _ (su _ _ ht)),rfl,rfl,_,rfl,Ab7 (by decide +kernel) ?_⟩
   refine ⟨_,rfl,t,_,_,_,rfl,rfl,SqT.of (by first | exact ht2 | exact nt _ _ (su _ _ ht)),rfl,rfl,_,rfl,Ab7 (by decide +kernel) ?_⟩
   refine ⟨_,rfl,t,_,_,_,rfl,rfl,SqT.of (by first | exact ht2 | exact nt _ _ (su _ _ ht)),rfl,rfl,_,rfl,Ab7 (by decide +kernel) ?_⟩
   refine ⟨_,rfl,t,_,_,_,rfl,rfl,SqT.of (by first | exact ht2 | exact nt _ _ (su _ _ ht)),rfl,rfl,_,rfl,Ab7 (by decide +kernel) ?_⟩
   refine q _ ys (upd_same.trans (by simp only [R3.rs,List.map_set])) (by rw [Ab0 hn.symm]; exact he) ?_ (λb o n1 _ e=>by rw [Ab0 n1]; exact e)
   show Evs _ ys (es++[])
   rw [List.append_nil]
   exact hv.imp λt xs z=>by rw [Ab0 (Ae2 z hc (by intro z; cases z))]; exact z
  | add a b =>
   refine ⟨_,rfl,t,_,_,_,rfl,rfl,SqT.of ht,rfl,rfl,_,rfl,Ab7 (by decide +kernel) ?_⟩
   refine ⟨_,rfl,t,_,_,_,rfl,rfl,SqT.of ht,rfl,rfl,_,rfl,Ag3 (by decide +kernel) ?_⟩
   refine ⟨_,rfl,_,rfl,t,_,_,.int (a:Int),rfl,rfl,SqT.of ht,rfl,cl,_,_,_,rfl,rfl,SqL.of hc,Ad2 (by rw [hl]; exact hok.1),_,rfl,_,rfl,t,_,_,.int (b:Int),rfl,rfl,SqT.of ht,rfl,cl,_,_,_,rfl,rfl,SqL.of hc,Ad2 (by rw [hl]; exact hok.2),_,_,rfl,rfl,2,48,rfl,rfl,⟨by decide,by decide,by decide⟩,_,_,rfl,rfl,(by show (0:Int)<2 ^ (48:Int).toNat; decide),_,rfl,_,rfl,t,_,_,.int (a:Int),rfl,rfl,SqT.of ht,rfl,cl,_,_,a,rfl,rfl,hc,Ah5 (by rw [List.length_map,hl]; exact hok.1),?_⟩
   dsimp only
   rw [e48]
   have ht2:upd H cl (.lst ((rs.map V.int).set a (.int ((rs.getD a 0+rs.getD b 0) % 281474976710656)))) t=some (.tup (R3.v (.add a b))):=by rw [Ab0 (Ae2 ht hc (by intro z; cases z))]; exact ht
   refine ⟨_,rfl,t,_,_,_,rfl,rfl,SqT.of (by first | exact ht2 | exact nt _ _ (su _ _ ht)),rfl,rfl,_,rfl,Ab7 (by decide +kernel) ?_⟩
   refine ⟨_,rfl,t,_,_,_,rfl,rfl,SqT.of (by first | exact ht2 | exact nt _ _ (su _ _ ht)),rfl,rfl,_,rfl,Ab7 (by decide +kernel) ?_⟩
   refine ⟨_,rfl,t,_,_,_,rfl,rfl,SqT.of (by first | exact ht2 | exact nt _ _ (su _ _ ht)),rfl,rfl,_,rfl,Ab7 (by decide +kernel) ?_⟩
   refine q _ ys (upd_same.trans (by simp only [R3.rs,List.map_set])) (by rw [Ab0 hn.symm]; exact he) ?_ (λb o n1 _ e=>by rw [Ab0 n1]; exact e)
   show Evs _ ys (es++[])
   rw [List.append_nil]
   exact hv.imp λt xs z=>by rw [Ab0 (Ae2 z hc (by intro z; cases z))]; exact z
  | both a b =>
   refine ⟨_,rfl,t,_,_,_,rfl,rfl,SqT.of ht,rfl,rfl,_,rfl,Ab7 (by decide +kernel) ?_⟩
   refine ⟨_,rfl,t,_,_,_,rfl,rfl,SqT.of ht,rfl,rfl,_,rfl,Ab7 (by decide +kernel) ?_⟩
   refine ⟨_,rfl,t,_,_,_,rfl,rfl,SqT.of ht,rfl,rfl,_,rfl,Ag3 (by decide +kernel) ?_⟩
   refine ⟨_,rfl,_,rfl,t,_,_,.int (a:Int),rfl,rfl,SqT.of ht,rfl,cl,_,_,_,rfl,rfl,SqL.of hc,Ad2 (by rw [hl]; exact hok.1),_,rfl,_,rfl,t,_,_,.int (b:Int),rfl,rfl,SqT.of ht,rfl,cl,_,_,_,rfl,rfl,SqL.of hc,Ad2 (by rw [hl]; exact hok.2),_,_,rfl,rfl,_,rfl,_,rfl,t,_,_,.int (a:Int),rfl,rfl,SqT.of ht,rfl,cl,_,_,a,rfl,rfl,hc,Ah5 (by rw [List.length_map,hl]; exact hok.1),?_⟩
   have ht2:upd H cl (.lst ((rs.map V.int).set a (.int (Builtin.bitAnd (rs.getD a 0) (rs.getD b 0))))) t=some (.tup (R3.v (.both a b))):=by rw [Ab0 (Ae2 ht hc (by intro z; cases z))]; exact ht
   refine ⟨_,rfl,t,_,_,_,rfl,rfl,SqT.of (by first | exact ht2 | exact nt _ _ (su _ _ ht)),rfl,rfl,_,rfl,Ab7 (by decide +kernel) ?_⟩
   refine ⟨_,rfl,t,_,_,_,rfl,rfl,SqT.of (by first | exact ht2 | exact nt _ _ (su _ _ ht)),rfl,rfl,_,rfl,Ab7 (by decide +kernel) ?_⟩
   refine q _ ys (upd_same.trans (by simp only [R3.rs,List.map_set])) (by rw [Ab0 hn.symm]; exact he) ?_ (λb o n1 _ e=>by rw [Ab0 n1]; exact e)
   show Evs _ ys (es++[])
   rw [List.append_nil]
   exact hv.imp λt xs z=>by rw [Ab0 (Ae2 z hc (by intro z; cases z))]; exact z
  | odd a b =>
   refine ⟨_,rfl,t,_,_,_,rfl,rfl,SqT.of ht,rfl,rfl,_,rfl,Ab7 (by decide +kernel) ?_⟩
   refine ⟨_,rfl,t,_,_,_,rfl,rfl,SqT.of ht,rfl,rfl,_,rfl,Ab7 (by decide +kernel) ?_⟩
   refine ⟨_,rfl,t,_,_,_,rfl,rfl,SqT.of ht,rfl,rfl,_,rfl,Ab7 (by decide +kernel) ?_⟩
   refine ⟨_,rfl,t,_,_,_,rfl,rfl,SqT.of ht,rfl,rfl,_,rfl,Ag3 (by decide +kernel) ?_⟩
   refine ⟨_,rfl,_,rfl,t,_,_,.int (a:Int),rfl,rfl,SqT.of ht,rfl,cl,_,_,_,rfl,rfl,SqL.of hc,Ad2 (by rw [hl]; exact hok.1),_,rfl,_,rfl,t,_,_,.int (b:Int),rfl,rfl,SqT.of ht,rfl,cl,_,_,_,rfl,rfl,SqL.of hc,Ad2 (by rw [hl]; exact hok.2),_,_,rfl,rfl,_,rfl,_,rfl,t,_,_,.int (a:Int),rfl,rfl,SqT.of ht,rfl,cl,_,_,a,rfl,rfl,hc,Ah5 (by rw [List.length_map,hl]; exact hok.1),?_⟩
   have ht2:upd H cl (.lst ((rs.map V.int).set a (.int (Builtin.bitXor (rs.getD a 0) (rs.getD b 0))))) t=some (.tup (R3.v (.odd a b))):=by rw [Ab0 (Ae2 ht hc (by intro z; cases z))]; exact ht
   refine ⟨_,rfl,t,_,_,_,rfl,rfl,SqT.of (by first | exact ht2 | exact nt _ _ (su _ _ ht)),rfl,rfl,_,rfl,Ab7 (by decide +kernel) ?_⟩
   refine q _ ys (upd_same.trans (by simp only [R3.rs,List.map_set])) (by rw [Ab0 hn.symm]; exact he) ?_ (λb o n1 _ e=>by rw [Ab0 n1]; exact e)
   show Evs _ ys (es++[])
   rw [List.append_nil]
   exact hv.imp λt xs z=>by rw [Ab0 (Ae2 z hc (by intro z; cases z))]; exact z
  | tell a =>
   refine ⟨_,rfl,t,_,_,_,rfl,rfl,SqT.of ht,rfl,rfl,_,rfl,Ab7 (by decide +kernel) ?_⟩
   refine ⟨_,rfl,t,_,_,_,rfl,rfl,SqT.of ht,rfl,rfl,_,rfl,Ab7 (by decide +kernel) ?_⟩
   refine ⟨_,rfl,t,_,_,_,rfl,rfl,SqT.of ht,rfl,rfl,_,rfl,Ab7 (by decide +kernel) ?_⟩
   refine ⟨_,rfl,t,_,_,_,rfl,rfl,SqT.of ht,rfl,rfl,_,rfl,Ab7 (by decide +kernel) ?_⟩
   refine ⟨_,rfl,t,_,_,_,rfl,rfl,SqT.of ht,rfl,rfl,_,rfl,Ag3 (by decide +kernel) ?_⟩
   refine ⟨_,rfl,.inl ⟨rfl,_,SqL.of he⟩,_,rfl,_,rfl,t,_,_,.int (a:Int),rfl,rfl,SqT.of ht,rfl,cl,_,_,_,rfl,rfl,SqL.of hc,Ad2 (by rw [hl]; exact hok),by show 2<=sizeLine; decide,λu hu=>?_⟩
   have su:=Aa7 (o:=.tup [.str "told",.int (rs.getD a 0)]) hu
   have zu:upd H u (.tup [.str "told",.int (rs.getD a 0)]) u=some (.tup [.str "told",.int (rs.getD a 0)]):=upd_same
   generalize upd H u (.tup [.str "told",.int (rs.getD a 0)])=H1 at *
   refine ⟨ev,_,_,rfl,rfl,su _ _ he,Nat.lt_of_lt_of_le (show ys.length<1001 by omega) (by decide),?_⟩
   have nt:∀ t xs,H1 t=some (.tup xs)->upd H1 ev (.lst (ys++[.ref u])) t=some (.tup xs):=λt xs z=>by rw [Ab0 (Ae2 z (su _ _ he) (by intro z; cases z))]; exact z
   exact q _ _ (by rw [Ab0 hn]; exact su _ _ hc) upd_same ((hv.imp λt xs z=>nt _ _ (su _ _ z)).app (nt _ _ zu)) (λb o _ n2 e=>by rw [Ab0 n2]; exact su _ _ e)
  | nought a x =>
   refine ⟨_,rfl,t,_,_,_,rfl,rfl,SqT.of ht,rfl,rfl,_,rfl,Ab7 (by decide +kernel) ?_⟩
   refine ⟨_,rfl,t,_,_,_,rfl,rfl,SqT.of ht,rfl,rfl,_,rfl,Ab7 (by decide +kernel) ?_⟩
   refine ⟨_,rfl,t,_,_,_,rfl,rfl,SqT.of ht,rfl,rfl,_,rfl,Ab7 (by decide +kernel) ?_⟩
   refine ⟨_,rfl,t,_,_,_,rfl,rfl,SqT.of ht,rfl,rfl,_,rfl,Ab7 (by decide +kernel) ?_⟩
   refine ⟨_,rfl,t,_,_,_,rfl,rfl,SqT.of ht,rfl,rfl,_,rfl,Ab7 (by decide +kernel) ?_⟩
   exact q H ys hc he (by show Evs H ys (es++[]); rw [List.append_nil]; exact hv) (λb o _ _ e=>e)
  | jump x =>
   refine ⟨_,rfl,t,_,_,_,rfl,rfl,SqT.of ht,rfl,rfl,_,rfl,Ab7 (by decide +kernel) ?_⟩
   refine ⟨_,rfl,t,_,_,_,rfl,rfl,SqT.of ht,rfl,rfl,_,rfl,Ab7 (by decide +kernel) ?_⟩
   refine ⟨_,rfl,t,_,_,_,rfl,rfl,SqT.of ht,rfl,rfl,_,rfl,Ab7 (by decide +kernel) ?_⟩
   refine ⟨_,rfl,t,_,_,_,rfl,rfl,SqT.of ht,rfl,rfl,_,rfl,Ab7 (by decide +kernel) ?_⟩
   refine ⟨_,rfl,t,_,_,_,rfl,rfl,SqT.of ht,rfl,rfl,_,rfl,Ab7 (by decide +kernel) ?_⟩
   exact q H ys hc he (by show Evs H ys (es++[]); rw [List.append_nil]; exact hv) (λb o _ _ e=>e)
  | halt  =>
   refine ⟨_,rfl,t,_,_,_,rfl,rfl,SqT.of ht,rfl,rfl,_,rfl,Ab7 (by decide +kernel) ?_⟩
   refine ⟨_,rfl,t,_,_,_,rfl,rfl,SqT.of ht,rfl,rfl,_,rfl,Ab7 (by decide +kernel) ?_⟩
   refine ⟨_,rfl,t,_,_,_,rfl,rfl,SqT.of ht,rfl,rfl,_,rfl,Ab7 (by decide +kernel) ?_⟩
   refine ⟨_,rfl,t,_,_,_,rfl,rfl,SqT.of ht,rfl,rfl,_,rfl,Ab7 (by decide +kernel) ?_⟩
   refine ⟨_,rfl,t,_,_,_,rfl,rfl,SqT.of ht,rfl,rfl,_,rfl,Ab7 (by decide +kernel) ?_⟩
   exact q H ys hc he (by show Evs H ys (es++[]); rw [List.append_nil]; exact hv) (λb o _ _ e=>e)
theorem scNL:Ab6 ["_law_row_here","_law_cells","_law_at"] ["_law_row_here","_law_cells","_law_at"] (Aa1 Ak4):=FSc
theorem Bi7 {f:Addr} {fd:FuncData} (F:Fun K "_law_next" "_law_next" Ak4 f fd):FnOk P w K mg base CX0 1 f fd ["_law_row_here","_law_cells","_law_at"] At4:=by
 refine F.ok scNL (λvs H Q E h'=>?_) (λcdv A outer s H vs Q E hr h'=>?_)
 ·obtain ⟨t,cl,r,rs,c,rfl,_⟩:=h'
  rfl
 ·obtain ⟨t,cl,r,rs,c,rfl,ht,hok,hc,hl,q⟩:=h'
  refine ⟨_,(Aa5 (Ae5 (Ac2 Ag8 (Ab5 Ab3 (pv 0) Aa3 (λ_ _=>rfl)) Ad7 (Ac7 _)) (Aa6 (Ac3 (Ab5 Ab3 (pv 0) Aa3 (λ_ _=>rfl)))) Ac4) (Aa5 (Ae5 (PW.pt (Aq1 (Ac2 Ag8 (Ab5 Ab3 (pv 0) Aa3 (λ_ _=>rfl)) Ad7 (Ac7 _)) (Al2 (Ac2 Ag8 (Ab5 Ad4 (pv 1) (Ab5 Ab3 (pv 0) Aa3 (λ_ _=>rfl)) (λ_ _=>rfl)) Aa3 (Ac7 _))))) (Aa6 (Ac3 (Ab5 Ab3 (pv 0) Aa3 (λ_ _=>rfl)))) Ac4) (Aa5 (Ae5 (Ac2 Ag8 (Ab5 Ab3 (pv 0) Aa3 (λ_ _=>rfl)) Ad7 (Ac7 _)) (Aa6 (Ac3 (pv 2))) Ac4) (Aa6 (Ac3 (Ad9 Ah3 (pv 2) Aa3)))))),?_⟩
  cases r with
  | set a v =>
   refine ⟨_,rfl,t,_,_,_,rfl,rfl,SqT.of ht,rfl,rfl,_,rfl,Ab7 (by decide +kernel) ?_⟩
   refine ⟨_,rfl,t,_,_,_,rfl,rfl,SqT.of ht,rfl,rfl,_,rfl,Ab7 (by decide +kernel) (iteF ⟨_,rfl,t,_,_,_,rfl,rfl,SqT.of ht,rfl,rfl,_,rfl,Ab7 (by decide +kernel) ?_⟩)⟩
   exact ⟨_,rfl,(c:Int),1,rfl,rfl,q⟩
  | add a b =>
   refine ⟨_,rfl,t,_,_,_,rfl,rfl,SqT.of ht,rfl,rfl,_,rfl,Ab7 (by decide +kernel) ?_⟩
   refine ⟨_,rfl,t,_,_,_,rfl,rfl,SqT.of ht,rfl,rfl,_,rfl,Ab7 (by decide +kernel) (iteF ⟨_,rfl,t,_,_,_,rfl,rfl,SqT.of ht,rfl,rfl,_,rfl,Ab7 (by decide +kernel) ?_⟩)⟩
   exact ⟨_,rfl,(c:Int),1,rfl,rfl,q⟩
  | both a b =>
   refine ⟨_,rfl,t,_,_,_,rfl,rfl,SqT.of ht,rfl,rfl,_,rfl,Ab7 (by decide +kernel) ?_⟩
   refine ⟨_,rfl,t,_,_,_,rfl,rfl,SqT.of ht,rfl,rfl,_,rfl,Ab7 (by decide +kernel) (iteF ⟨_,rfl,t,_,_,_,rfl,rfl,SqT.of ht,rfl,rfl,_,rfl,Ab7 (by decide +kernel) ?_⟩)⟩
   exact ⟨_,rfl,(c:Int),1,rfl,rfl,q⟩
  | odd a b =>
   refine ⟨_,rfl,t,_,_,_,rfl,rfl,SqT.of ht,rfl,rfl,_,rfl,Ab7 (by decide +kernel) ?_⟩
   refine ⟨_,rfl,t,_,_,_,rfl,rfl,SqT.of ht,rfl,rfl,_,rfl,Ab7 (by decide +kernel) (iteF ⟨_,rfl,t,_,_,_,rfl,rfl,SqT.of ht,rfl,rfl,_,rfl,Ab7 (by decide +kernel) ?_⟩)⟩
   exact ⟨_,rfl,(c:Int),1,rfl,rfl,q⟩
  | tell a =>
   refine ⟨_,rfl,t,_,_,_,rfl,rfl,SqT.of ht,rfl,rfl,_,rfl,Ab7 (by decide +kernel) ?_⟩
   refine ⟨_,rfl,t,_,_,_,rfl,rfl,SqT.of ht,rfl,rfl,_,rfl,Ab7 (by decide +kernel) (iteF ⟨_,rfl,t,_,_,_,rfl,rfl,SqT.of ht,rfl,rfl,_,rfl,Ab7 (by decide +kernel) ?_⟩)⟩
   exact ⟨_,rfl,(c:Int),1,rfl,rfl,q⟩
  | nought a x =>
   refine ⟨_,rfl,t,_,_,_,rfl,rfl,SqT.of ht,rfl,rfl,_,rfl,Ab7 (by decide +kernel) ?_⟩
   refine ⟨_,rfl,t,_,_,_,rfl,rfl,SqT.of ht,rfl,rfl,_,rfl,Ag3 (by decide +kernel) ⟨_,rfl,_,rfl,t,_,_,.int (a:Int),rfl,rfl,SqT.of ht,rfl,cl,_,_,_,rfl,rfl,SqL.of hc,Ad2 (by rw [hl]; exact hok.1),rfl,_,rfl,ite2 (λz=>?_) (λz=>?_)⟩⟩
   ·rw [show R3.at rs c (.nought a x)=x from if_pos (V.int.inj (of_decide_eq_true z))] at q
    exact ⟨_,rfl,t,_,_,.int (x:Int),rfl,rfl,SqT.of ht,rfl,q⟩
   ·rw [show R3.at rs c (.nought a x)=c+1 from if_neg (λh=>z (decide_eq_true (congrArg V.int h)))] at q
    exact ⟨_,rfl,t,_,_,_,rfl,rfl,SqT.of ht,rfl,rfl,_,rfl,Ab7 (by decide +kernel) ⟨_,rfl,(c:Int),1,rfl,rfl,q⟩⟩
  | jump x =>
   exact ⟨_,rfl,t,_,_,_,rfl,rfl,SqT.of ht,rfl,rfl,_,rfl,Ag3 (by decide +kernel) ⟨_,rfl,t,_,_,.int (x:Int),rfl,rfl,SqT.of ht,rfl,q⟩⟩
  | halt  =>
   refine ⟨_,rfl,t,_,_,_,rfl,rfl,SqT.of ht,rfl,rfl,_,rfl,Ab7 (by decide +kernel) ?_⟩
   refine ⟨_,rfl,t,_,_,_,rfl,rfl,SqT.of ht,rfl,rfl,_,rfl,Ab7 (by decide +kernel) (iteF ⟨_,rfl,t,_,_,_,rfl,rfl,SqT.of ht,rfl,rfl,_,rfl,Ag3 (by decide +kernel) ?_⟩)⟩
   exact ⟨_,rfl,q⟩
end
end K33
end
section
namespace K33
open PySem L2
mutual
theorem Ah8 {K:PySem.W.Frag} {H:Hp}:∀ {v:V} {d:PyData},DatR K H v d->PyData.eqv d d=true
 | _,_,.non=>rfl
 | _,_,.bl b=>by simp [PyData.eqv]
 | _,_,.int i=>by simp [PyData.eqv]
 | _,_,.str x=>by simp [PyData.eqv]
 | _,_,.lst _ h=>by simp only [PyData.eqv]; exact Am4 h
 | _,_,.tup _ h=>by simp only [PyData.eqv]; exact Am4 h
theorem Am4 {K:PySem.W.Frag} {H:Hp}:∀ {vs:List V} {ds:List PyData},DatsR K H vs ds->PyData.eqvAll ds ds=true
 | _,_,.nil=>rfl
 | _,_,.cons h1 h2=>by simp only [PyData.eqvAll,Ah8 h1,Am4 h2,Bool.and_self]
end
theorem at0 {x:V} {r:List V}:atI (x::r) 0=some x:=by
 unfold atI ixN
 rw [if_pos (by decide),if_pos (by rw [List.length_cons]; omega)]
 rfl
theorem Ap3 {H:Hp} {p:Addr} {xs:List V} (h:H p=some (.tup xs)):Ag4 H (.ref p)=true:=by simp [Ag4,h]
theorem R3.at_rs (rs:List Int) (r:R3) (c:Nat):r.at (r.rs rs) c=r.at rs c:=by cases r <;> rfl
theorem R3.hd (r:R3):∃ tl,r.v=.str r.w::tl:=by cases r <;> exact ⟨_,rfl⟩
theorem R3.hl_eq (r:R3):decide (V.str r.w=V.str "halt")=r.hl:=by
 cases r <;> first | exact decide_eq_true rfl | exact decide_eq_false (λh=>absurd (V.str.inj h) (by simp only [R3.w]; decide +kernel))
def dEv (i:Int):PyData:=.tuple [.str "told",.int i]
theorem laE:∀ es:List Int,PyData.canLayAll0 (es.map dEv)=true/\PyData.depthAll (es.map dEv)<=1
 | []=>⟨rfl,by decide⟩
 | i::r=>by
  obtain ⟨h1,h2⟩:=laE r
  have z:PyData.strOk ("told":Str)=true:=by decide +kernel
  refine ⟨?_,?_⟩
  ·simp [dEv,PyData.canLayAll0,PyData.canLay0,h1,z]
  ·simp [dEv,PyData.depthAll,PyData.depth]
   omega
theorem Ao7 (es:List Int):SeqAt.shaped (.list (es.map dEv))=true:=by
 obtain ⟨h1,h2⟩:=laE es
 simp only [SeqAt.shaped,PyData.canLay0,PyData.depth,h1,Bool.true_and]
 exact decide_eq_true (by omega)
theorem Evs.dats {K:PySem.W.Frag} {H:Hp} {ys:List V} {es:List Int} (h:Evs H ys es):DatsR K H ys (es.map dEv):=by
 induction h with
 | nil=>exact .nil
 | cons e _ ih=>exact .cons (.tup (SqT.of e) (.cons (.str _) (.cons (.int _) .nil))) ih
theorem Evs.get {H:Hp} {ys:List V} {es:List Int} (h:Evs H ys es):∀ (i:Nat) (y:V),ys[i]?=some y->∃ t n,y=.ref t/\H t=some (.tup [.str "told",.int n]):=by
 induction h with
 | nil=>intro i x e; simp at e
 | @cons t n ys es e _ ih =>
  intro i x he
  cases i with
  | zero =>
   have he':some (V.ref t)=some x:=he
   cases he'
   exact ⟨t,n,rfl,e⟩
  | succ i=>exact ih i x he
structure Ls3 (H:Hp) (cl ev:Addr) (s:S3):Prop where
 hc:H cl=some (.lst (s.rs.map V.int))
 hl:s.rs.length=4
 he:∃ zs,H ev=some (.lst zs)/\Evs H zs s.es
 hn:cl≠ev
theorem Ls3.same {H H':Hp} {cl ev:Addr} {s:S3} (l:Ls3 H cl ev s) (e:Same H H'):Ls3 H' cl ev s:=by
 obtain ⟨zs,h,v⟩:=l.he
 exact ⟨e _ _ l.hc,l.hl,⟨zs,e _ _ h,v.imp λt xs z=>e _ _ z⟩,l.hn⟩
def stV (cl ev:Addr) (s:S3):List V:=[.ref cl,.int (s.c:Int),.bl s.hl,.ref ev]
def Bb8:Sp:=λvs H Q _=>∃ (pl st cl ev:Addr) (ys:List V) (rr:List R3) (s:S3) (n:Nat),vs=[.ref pl,.ref st,.int (n:Int)]/\H pl=some (.lst ys)/\Rls H ys rr/\(∀ r ∈ rr,r.Ok)/\H st=some (.tup (stV cl ev s))/\Ls3 H cl ev s/\(s.hl=false->s.c<rr.length)/\s.es.length+n<=900/\cl≠pl/\ev≠pl /\
 ∀ t u H',H' t=some (.tup [.int (((rnM rr n s).1:Nat):Int),.ref u])->H' u=some (.tup (stV cl ev (rnM rr n s).2))->Ls3 H' cl ev (rnM rr n s).2->((rnM rr n s).2.hl=false->(rnM rr n s).2.c<rr.length)->(rnM rr n s).2.es.length<=s.es.length+n->(∀ b o,b≠cl->b≠ev->H b=some o->H' b=some o)->Q (.ref t) H'
def Bm3:Sp:=λvs H Q _=>∃ (t l sv u cl ev:Addr) (s:S3),vs=[.ref t,.ref u]/\H t=some (.tup [.ref l,.int (s.c:Int),.bl true,.ref sv,.bl s.hl])/\H l=some (.lst (s.rs.map V.int))/\H sv=some (.tup [.int 0,.int 0,.int 0,.bl true])/\H u=some (.tup (stV cl ev s))/\Ls3 H cl ev s/\∀ H',Same H H'->Q (.bl true) H'
def Bc5:Sp:=λvs H Q _=>∃ (l ev:Addr) (ys zs:List V) (es:List Int),vs=[.ref l,.ref ev]/\H l=some (.lst ys)/\Evs H ys es/\H ev=some (.lst zs)/\Evs H zs es/\Q (.bl true) H
section
variable {P : Program} {w : World} {K : PySem.W.Frag} {mg : Str → Option Value} {base : Heap} {C NP NL NW NI SC PL WC FA : Addr}
theorem scRu:Ab6 ["_law_program","_law_state","_law_steps","_law_cells","_law_at","_law_halted","_law_events","_law_done","_law_row_here"] ["_law_program","_law_state","_law_steps"] (Aa1 At9):=FSc
theorem Bp0 {f f1 f2:Addr} {fd fd1 fd2:FuncData} (F:Fun K "_law_run" "_law_run" At9 f fd) (D1:Dn K mg "_law_do" sDoL ["_law_row_here","_law_cells","_law_events"] f1 fd1) (G1:FnOk P w K mg base CX0 1 f1 fd1 ["_law_row_here","_law_cells","_law_events"] Bm6) (D2:Dn K mg "_law_next" Ak4 ["_law_row_here","_law_cells","_law_at"] f2 fd2) (G2:FnOk P w K mg base CX0 1 f2 fd2 ["_law_row_here","_law_cells","_law_at"] At4) (T:Txt K mg):FnOk P w K mg base CX0 2 f fd ["_law_program","_law_state","_law_steps"] Bb8:=by
 refine F.ok scRu (λvs H Q E h'=>?_) (λcdv A outer s H vs Q E hr h'=>?_)
 ·obtain ⟨pl,st,cl,ev,ys,rr,s,n,rfl,_⟩:=h'
  rfl
 ·obtain ⟨pl,st,cl,ev,ys,rr,s0,n,rfl,hp,rl,ok,hst,L,hi,n9,np1,np2,q⟩:=h'
  have ly:=rl.len
  refine ⟨_,(Aa5 (Ai1 (pv 1) (Ay3 rfl (Af1 (Ae7 (i:=3) scRu.nd rfl (Or.inl rfl)) (Af1 (Ae7 (i:=4) scRu.nd rfl (Or.inl rfl)) (Af1 (Ae7 (i:=5) scRu.nd rfl (Or.inl rfl)) (Af1 (Ae7 (i:=6) scRu.nd rfl (Or.inl rfl)) Ao9)))))) (Aa5 (Ae8 (i:=7) scRu.nd rfl (Or.inl rfl) Aa3) (Aa5 (Ay1 PassesOwn.never (PW.pt (Aq1 (Ac2 Bi0 (pv 7) (pv 2) (Ac7 _)) (Al2 (Ad0 (Ad3 (pv 5)))))) (Aa5 (Ae8 (i:=8) scRu.nd rfl (Or.inl rfl) (Ab5 Ad4 (pv 0) (pv 4) (λ_ _=>rfl))) (Aa5 (Af3 (Ab9 G1 hr (by rfl) D1.m D1.F.kp D1.b .nil Ac8 (Aa0 (pv 8) (Aa0 (pv 3) (Aa0 (pv 6) Aa4))))) (Aa5 (Ae8 (i:=4) scRu.nd rfl (Or.inl rfl) (Ab9 G2 hr (by rfl) D2.m D2.F.kp D2.b .nil Ac8 (Aa0 (pv 8) (Aa0 (pv 3) (Aa0 (pv 4) Aa4))))) (Aa5 (Ae8 (i:=5) scRu.nd rfl (Or.inl rfl) (By2 (Aj1 Ag8 (Ab5 Ab3 (pv 8) Aa3 (λ_ _=>rfl)) Ad7 (Ac7 _)) (An6 (Aj1 Bo7 (pv 4) (Ac0 Ac6 (by rfl) T.len PySem.boot_len (Aa0 (pv 0) Aa4)) (Ac7 _))))) (Aa6 (Ae8 (i:=7) scRu.nd rfl (Or.inl rfl) (Ad9 Ah3 (pv 7) Aa3)))))))) (Aa6 (Ac3 (Ae3 (Aa0 (pv 7) (Aa0 (Ae3 (Ab8 (pv 3) (Ab8 (pv 4) (Ab8 (pv 5) (Ab8 (pv 6) Aa4))))) Aa4)))))))),?_⟩
  refine ⟨_,rfl,st,_,rfl,SqT.of hst,rfl,_,_,rfl,_,_,rfl,_,_,rfl,_,_,rfl,rfl,?_⟩
  refine ⟨λk σ H'=>∃ (j:Nat) (s:S3) (v8:Option V),σ=[some (.ref pl),some (.ref st),some (.int (n:Int)),some (.ref cl),some (.int (s.c:Int)),some (.bl s.hl),some (.ref ev),some (.int (j:Int)),v8]/\j+k=n/\Ls3 H' cl ev s/\(s.hl=false->s.c<rr.length)/\s.es.length+k<=s0.es.length+n/\(rnM rr n s0).1=j+(rnM rr k s).1/\(rnM rr n s0).2=(rnM rr k s).2/\(∀ b o,b≠cl->b≠ev->H b=some o->H' b=some o),⟨n,0,s0,_,rfl,by omega,L,hi,by omega,by omega,rfl,λb o _ _ e=>e⟩,?_⟩
  have fin:∀ (j k:Nat) (s:S3) H',s.es.length<=s0.es.length+n->Ls3 H' cl ev s->(s.hl=false->s.c<rr.length)->(rnM rr n s0).1=j->(rnM rr n s0).2=s->(∀ b o,b≠cl->b≠ev->H b=some o->H' b=some o)->∀ (u t:Addr),H' u=none->(upd H' u (.tup (stV cl ev s))) t=none->Q (.ref t) (upd (upd H' u (.tup (stV cl ev s))) t (.tup [.int (j:Int),.ref u])):=by
   intro j k s H' le L1 hi1 e1 e2 kp u t hu ht
   have su:=Aa7 (o:=.tup (stV cl ev s)) hu
   have sT:=Aa7 (o:=.tup [.int (j:Int),.ref u]) ht
   rw [e1,e2] at q
   exact q t u _ upd_same (sT _ _ upd_same) ((L1.same su).same sT) hi1 le (λb o n1 n2 e=>sT _ _ (su _ _ (kp b o n1 n2 e)))
  rintro k σ H' ⟨j,s,v8,rfl,jk,L1,hi1,l9,e1,e2,kp⟩
  have hp1:=kp pl _ np1.symm np2.symm hp
  have rl1:Rls H' ys rr:=rl.imp λt xs z=>kp t _ (Ae2 z L.hc (by intro z; cases z)) (λy=>by obtain ⟨zs,hz,_⟩:=L.he; rw [y,hz] at z; cases z) z
  refine ⟨_,rfl,_,rfl,(j:Int),(n:Int),rfl,rfl,_,rfl,ite2 (λc1=>?_) (λc1=>?_)⟩
  ·have c1':(j:Int)<(n:Int):=of_decide_eq_true c1
   obtain ⟨k',rfl⟩:∃ k',k=k'+1:=⟨k - 1,by omega⟩
   refine ⟨_,rfl,_,rfl,?_⟩
   cases hh:s.hl with
   | true =>
    refine iteF ⟨_,rfl,_,rfl,_,rfl,_,rfl,_,rfl,by show 4<=sizeLine; decide,λu hu=>⟨by show 2<=sizeLine; decide,λt ht=>?_⟩⟩
    rw [Ay0 hh] at e1 e2
    have:=fin j 0 s H' (by omega) L1 hi1 e1 e2 kp u t
    rw [show stV cl ev s=[.ref cl,.int (s.c:Int),.bl true,.ref ev] by unfold stV; rw [hh]] at this
    exact this hu ht
   | false =>
    have hc:=hi1 hh
    have hr0:rr[s.c]?=some rr[s.c]:=List.getElem?_eq_getElem hc
    have es:=Bk8 hr0
    have un:rnM rr (k'+1) s=((rnM rr k' (stM rr s)).1+1,(rnM rr k' (stM rr s)).2):=by
     show (if s.hl=true then _ else _)=_
     rw [hh]
     rfl
    rw [un] at e1 e2
    obtain ⟨t,et,ht⟩:=rl1.get _ _ hr0
    have hok:=ok _ (List.getElem_mem hc)
    generalize rr[s.c]=r at *
    obtain ⟨zs,hz,vz⟩:=L1.he
    refine iteT ⟨_,λσ' H2 w=>⟨k',Nat.lt_succ_self _,w⟩,?_⟩
    refine ⟨_,rfl,_,rfl,pl,_,_,.ref t,rfl,rfl,SqL.of hp1,Ap6 et,?_⟩
    refine ⟨_,rfl,_,rfl,_,rfl,t,cl,ev,r,s.rs,s.es,zs,rfl,ht,hok,L1.hc,L1.hl,hz,vz,by omega,L1.hn,λH2 ws h1 h2 h3 k2=>?_⟩
    have ht2:=k2 t _ (Ae2 ht L1.hc (by intro z; cases z)) (Ae2 ht hz (by intro z; cases z)) ht
    refine ⟨_,rfl,_,rfl,_,rfl,t,cl,r,r.rs s.rs,s.c,rfl,ht2,hok,h1,by rw [R3.rs_len]; exact L1.hl,?_⟩
    obtain ⟨tl,hv⟩:=r.hd
    rw [hv] at ht2
    have hp2:=k2 pl _ np1.symm np2.symm hp1
    have z1:=R3.hl_eq r
    rw [R3.at_rs]
    have L2:Ls3 H2 cl ev (stM rr s):=by
     rw [es]
     exact ⟨h1,by show (r.rs s.rs).length=4; rw [R3.rs_len]; exact L1.hl,⟨ws,h2,h3⟩,L1.hn⟩
    have hi2:(stM rr s).hl=false->(stM rr s).c<rr.length:=by
     rw [es]
     intro hf
     have hf':(r.hl || decide (rr.length<=r.at s.rs s.c))=false:=hf
     rw [Bool.or_eq_false_iff] at hf'
     show r.at s.rs s.c<rr.length
     have:=of_decide_eq_false hf'.2
     omega
    have l2:(stM rr s).es.length+k'<=s0.es.length+n:=by have:=Bb7 (rr:=rr) (s:=s); omega
    have kp2:∀ b o,b≠cl->b≠ev->H b=some o->H2 b=some o:=λb o n1 n2 e=>k2 b o n1 n2 (kp b o n1 n2 e)
    refine ⟨_,rfl,t,_,_,_,rfl,rfl,SqT.of ht2,at0,rfl,_,rfl,?_⟩
    rw [z1]
    cases hrh:r.hl with
    | true =>
     refine iteT ⟨_,rfl,(j:Int),1,rfl,rfl,j+1,stM rr s,some (.ref t),?_,by omega,L2,hi2,l2,by rw [e1]; omega,e2,kp2⟩
     rw [es,hrh]
     rfl
    | false =>
     refine iteF ⟨_,rfl,_,rfl,pl,_,rfl,.inl (SqL.of hp2),_,_,rfl,rfl,_,rfl,(j:Int),1,rfl,rfl,j+1,stM rr s,some (.ref t),?_,by omega,L2,hi2,l2,by rw [e1]; omega,e2,kp2⟩
     rw [es,hrh]
     show _=[some (V.ref pl),some (.ref st),some (.int (n:Int)),some (.ref cl),some (.int ((r.at s.rs s.c:Nat):Int)),some (.bl (false || decide (rr.length<=r.at s.rs s.c))),some (.ref ev),some (.int ((j+1:Nat):Int)),some (.ref t)]
     rw [Bool.false_or,show decide (rr.length<=r.at s.rs s.c)=decide (((ys.length:Nat):Int)<=((r.at s.rs s.c:Nat):Int)) from by rw [ly]; exact decide_eq_decide.mpr (by omega)]
     rfl
  ·have c1':¬ (j:Int)<(n:Int):=λz=>c1 (decide_eq_true z)
   obtain rfl:k=0:=by omega
   refine iteF ⟨_,rfl,_,rfl,_,rfl,_,rfl,_,rfl,by show 4<=sizeLine; decide,λu hu=>⟨by show 2<=sizeLine; decide,λt ht=>?_⟩⟩
   exact fin j 0 s H' (by omega) L1 hi1 e1 e2 kp u t hu ht
theorem scIC:Ab6 ["_law_found","_law_state","_law_word","_law_saved"] ["_law_found","_law_state"] (Aa1 sIsC):=FSc
theorem Bu8 {f f1:Addr} {fd fd1:FuncData} (F:Fun K "_law_is_core" "_law_is_core" sIsC f fd) (D1:Dn K mg "_law_whole" Ag5 ["_law_found"] f1 fd1) (G1:FnOk P w K mg base CX0 1 f1 fd1 ["_law_found"] Af9) (T:Txt K mg) (T2:Tx2 K mg):FnOk P w K mg base CX0 2 f fd ["_law_found","_law_state"] Bm3:=by
 refine F.ok scIC (λvs H Q E h'=>?_) (λcdv A outer s H vs Q E hr h'=>?_)
 ·obtain ⟨t,l,sv,u,cl,ev,s0,rfl,_⟩:=h'
  rfl
 ·obtain ⟨t,l,sv,u,cl,ev,s0,rfl,ht,hl,hs,hu,L,q⟩:=h'
  refine ⟨_,(Aa5 (Ae5 (PW.pt (Ag2 (Ad0 (Ad3 (Ac0 Ag9 (by rfl) T.isi PyProof.Rows.boot_isinstance (Aa0 (pv 0) (Aa0 (Ae4 (by rfl) T2.tup PyProof.Rows.boot_tuple (show RelV (.ty "tuple") (.type "tuple") from rfl)) Aa4))))) (Ag2 (Ac2 Bo6 (Ac0 Ac6 (by rfl) T.len PySem.boot_len (Aa0 (pv 0) Aa4)) Aa3 (Ac7 _)) (Ag1 (Ad0 (Ad3 (Ac0 Af7 (by rfl) T.isi PyProof.Rows.boot_isinstance (Aa0 (Ab5 Ab3 (pv 0) Aa3 (λ_ _=>rfl)) (Aa0 (Ae4 (by rfl) T.lst PyProof.Rows.boot_list (show RelV (.ty "list") (.type "list") from rfl)) Aa4))))))))) (Aa6 (Ac3 Af5)) Ac4) (Aa5 (Aq2 PassesOwn.never rfl (Aj0 (Ab5 Ab3 (pv 0) Aa3 (λ_ _=>rfl))) (Ae7 (i:=2) scIC.nd rfl (Or.inl rfl)) (Aa6 (Ae5 (Ad0 (Ad3 (Ab9 G1 hr (by rfl) D1.m D1.F.kp D1.b .nil Ac8 (Aa0 (pv 2) Aa4)))) (Aa6 (Ac3 Af5)) Ac4))) (Aa5 (Ae5 (PW.pt (Ag2 (Ad0 (Ad3 (Ab9 G1 hr (by rfl) D1.m D1.F.kp D1.b .nil Ac8 (Aa0 (Ab5 Ab3 (pv 0) Aa3 (λ_ _=>rfl)) Aa4)))) (Ag2 (Ac2 Bd7 (Ab5 Ab3 (pv 0) Aa3 (λ_ _=>rfl)) Af5 (Ac7 _)) (Ag1 (Ad0 (Ad3 (Ac0 Ai6 (by rfl) T.isi PyProof.Rows.boot_isinstance (Aa0 (Ab5 Ab3 (pv 0) Aa3 (λ_ _=>rfl)) (Aa0 (Ae4 (by rfl) T.boo PyProof.Rows.boot_bool (show RelV (.ty "bool") (.type "bool") from rfl)) Aa4))))))))) (Aa6 (Ac3 Af5)) Ac4) (Aa5 (Ae8 (i:=3) scIC.nd rfl (Or.inl rfl) (Ab5 Ab3 (pv 0) Aa3 (λ_ _=>rfl))) (Aa5 (Ae5 (PW.pt (Ag2 (Ad0 (Ad3 (Ac0 Ag9 (by rfl) T.isi PyProof.Rows.boot_isinstance (Aa0 (pv 3) (Aa0 (Ae4 (by rfl) T2.tup PyProof.Rows.boot_tuple (show RelV (.ty "tuple") (.type "tuple") from rfl)) Aa4))))) (Ag2 (Ac2 (Ay7 hr.units) (pv 3) (Ae3 (Ab8 Aa3 (Ab8 Aa3 (Ab8 Aa3 (Ab8 Af5 Aa4))))) (Ac7 _)) (Ag2 (Ac2 Bd7 (Ab5 Ab3 (pv 3) Aa3 (λ_ _=>rfl)) Af5 (Ac7 _)) (Ag1 (Ad0 (Ad3 (Ab9 G1 hr (by rfl) D1.m D1.F.kp D1.b .nil Ac8 (Aa0 (Ab5 Ab3 (pv 3) Aa3 (λ_ _=>rfl)) Aa4))))))))) (Aa6 (Ac3 Af5)) Ac4) (Aa5 (Ae5 (PW.pt (Ag2 (Ad0 (Ad3 (Ab9 G1 hr (by rfl) D1.m D1.F.kp D1.b .nil Ac8 (Aa0 (Ab5 Ab3 (pv 3) Aa3 (λ_ _=>rfl)) Aa4)))) (Ag1 (Ad0 (Ad3 (Ab9 G1 hr (by rfl) D1.m D1.F.kp D1.b .nil Ac8 (Aa0 (Ab5 Ab3 (pv 3) Aa3 (λ_ _=>rfl)) Aa4))))))) (Aa6 (Ac3 Af5)) Ac4) (Aa6 (Ac3 (Al5 (Aj1 (Bl2 hr.units) (Ab5 Ab3 (pv 0) Aa3 (λ_ _=>rfl)) (Ab5 Ab3 (pv 1) Aa3 (λ_ _=>rfl)) (Ac7 _)) (Al5 (Aj1 Ag8 (Ab5 Ab3 (pv 0) Aa3 (λ_ _=>rfl)) (Ab5 Ab3 (pv 1) Aa3 (λ_ _=>rfl)) (Ac7 _)) (An6 (Aj1 Ag8 (Ab5 Ab3 (pv 0) Aa3 (λ_ _=>rfl)) (Ab5 Ab3 (pv 1) Aa3 (λ_ _=>rfl)) (Ac7 _))))))))))))),?_⟩
  refine ⟨_,rfl,_,rfl,.tup ht,_,rfl,Ab7 (by show (!Ag4 H (.ref t))=false; rw [Ap3 ht]; rfl) ?_⟩
  refine ⟨_,rfl,t,_,rfl,.inr (SqT.of ht),rfl,_,rfl,Ab7 rfl ?_⟩
  refine ⟨_,rfl,t,_,_,.ref l,rfl,rfl,SqT.of ht,rfl,_,rfl,.lst hl,_,rfl,Ab7 (by show (!Am2 H (.ref l))=false; rw [Ai9 hl]; rfl) ?_⟩
  refine ⟨_,rfl,t,_,_,.ref l,rfl,rfl,SqT.of ht,rfl,l,rfl,⟨_,SqL.of hl⟩,Aj9 (K:=K) (a:=l) (xs:=s0.rs.map V.int) (λi σ H'=>H'=H/\∃ v2,σ=[some (.ref t),some (.ref u),v2,none]) ⟨rfl,_,rfl⟩ ?_ ?_ ?_⟩
  ·rintro i σ H' _ ⟨rfl,_⟩
   exact SqL.of hl
  ·rintro i x σ H' hi ⟨rfl,v2,rfl⟩
   rw [List.getElem?_map] at hi
   cases eo:s0.rs[i]? with
   | none=>rw [eo] at hi; cases hi
   | some z =>
    rw [eo] at hi
    have hi':V.int z=x:=Option.some.inj hi
    subst hi'
    exact ⟨_,rfl,_,rfl,.int z,_,rfl,iteF ⟨rfl,_,rfl⟩⟩
  ·rintro σ H' ⟨rfl,v2,rfl⟩
   refine ⟨_,rfl,t,_,_,.int (s0.c:Int),rfl,rfl,SqT.of ht,rfl,_,rfl,.int _,_,rfl,iteF ?_⟩
   refine ⟨_,rfl,t,_,_,.bl true,rfl,rfl,SqT.of ht,rfl,true,true,rfl,rfl,_,rfl,iteF ?_⟩
   refine ⟨_,rfl,t,_,_,.bl s0.hl,rfl,rfl,SqT.of ht,rfl,_,rfl,.bl _,_,rfl,iteF ?_⟩
   refine ⟨_,rfl,t,_,_,.ref sv,rfl,rfl,SqT.of ht,rfl,?_⟩
   refine ⟨_,rfl,_,rfl,.tup hs,_,rfl,Ab7 (by show (!Ag4 H' (.ref sv))=false; rw [Ap3 hs]; rfl) ?_⟩
   refine ⟨_,rfl,by show 4<=sizeLine; decide,λn hn=>?_⟩
   have s1:=Aa7 (o:=.tup [.int 0,.int 0,.int 0,.bl true]) hn
   have z1:upd H' n (.tup [.int 0,.int 0,.int 0,.bl true]) n=some (.tup [.int 0,.int 0,.int 0,.bl true]):=upd_same
   generalize upd H' n (.tup [.int 0,.int 0,.int 0,.bl true])=H1 at *
   have hs1:=s1 _ _ hs
   have ht1:=s1 _ _ ht
   have hu1:=s1 _ _ hu
   have L1:=L.same s1
   have d1:DatR K H1 (.ref sv) (.tuple [.int 0,.int 0,.int 0,.bool true]):=.tup (SqT.of hs1) (.cons (.int 0) (.cons (.int 0) (.cons (.int 0) (.cons (.bl true) .nil))))
   have d2:DatR K H1 (.ref n) (.tuple [.int 0,.int 0,.int 0,.bool true]):=.tup (SqT.of z1) (.cons (.int 0) (.cons (.int 0) (.cons (.int 0) (.cons (.bl true) .nil))))
   refine ⟨_,_,d1,d2,by decide +kernel,by decide +kernel,_,rfl,Ab7 (by rw [Ah8 d1]; rfl) ?_⟩
   refine ⟨_,rfl,sv,_,_,.bl true,rfl,rfl,SqT.of hs1,rfl,true,true,rfl,rfl,_,rfl,iteF ?_⟩
   refine ⟨_,rfl,sv,_,_,.int 0,rfl,rfl,SqT.of hs1,rfl,_,rfl,.int 0,_,rfl,iteF ?_⟩
   refine ⟨_,rfl,sv,_,_,.int 0,rfl,rfl,SqT.of hs1,rfl,_,rfl,.int 0,_,rfl,iteF ?_⟩
   refine ⟨_,rfl,sv,_,_,.int 0,rfl,rfl,SqT.of hs1,rfl,_,rfl,.int 0,_,rfl,iteF ?_⟩
   have d3:DatR K H1 (.ref l) (.list (s0.rs.map PyData.int)):=.lst (SqL.of (s1 _ _ hl)) (Bg0 _)
   have d4:DatR K H1 (.ref cl) (.list (s0.rs.map PyData.int)):=.lst (SqL.of L1.hc) (Bg0 _)
   refine ⟨_,rfl,t,_,_,.ref l,rfl,rfl,SqT.of ht1,rfl,_,rfl,u,_,_,.ref cl,rfl,rfl,SqT.of hu1,rfl,_,_,d3,d4,Ao6 _,Ao6 _,_,rfl,Ag3 (Ah8 d3) ?_⟩
   refine ⟨_,rfl,t,_,_,.int (s0.c:Int),rfl,rfl,SqT.of ht1,rfl,_,rfl,u,_,_,.int (s0.c:Int),rfl,rfl,SqT.of hu1,rfl,rfl,_,rfl,Ag3 (decide_eq_true rfl) ?_⟩
   refine ⟨_,rfl,t,_,_,.bl s0.hl,rfl,rfl,SqT.of ht1,rfl,_,rfl,u,_,_,.bl s0.hl,rfl,rfl,SqT.of hu1,rfl,rfl,?_⟩
   rw [decide_eq_true rfl]
   exact q H1 s1
theorem scAE:Ab6 ["_law_found","_law_due","_law_event"] ["_law_found","_law_due"] (Aa1 Av0):=FSc
theorem Bq0 {f f1:Addr} {fd fd1:FuncData} (F:Fun K "_law_are_events" "_law_are_events" Av0 f fd) (D1:Dn K mg "_law_whole" Ag5 ["_law_found"] f1 fd1) (G1:FnOk P w K mg base CX0 1 f1 fd1 ["_law_found"] Af9) (T:Txt K mg) (T2:Tx2 K mg):FnOk P w K mg base CX0 2 f fd ["_law_found","_law_due"] Bc5:=by
 refine F.ok scAE (λvs H Q E h'=>?_) (λcdv A outer s H vs Q E hr h'=>?_)
 ·obtain ⟨l,ev,ys,zs,es,rfl,_⟩:=h'
  rfl
 ·obtain ⟨l,ev,ys,zs,es,rfl,hl,v1,he,v2,q⟩:=h'
  refine ⟨_,(Aa5 (Ae5 (PW.pt (Ag2 (Ad0 (Ad3 (Ac0 Af7 (by rfl) T.isi PyProof.Rows.boot_isinstance (Aa0 (pv 0) (Aa0 (Ae4 (by rfl) T.lst PyProof.Rows.boot_list (show RelV (.ty "list") (.type "list") from rfl)) Aa4))))) (Ag1 (Ac2 (Ay7 hr.units) (pv 0) (pv 1) (Ac7 _))))) (Aa6 (Ac3 Af5)) Ac4) (Aa5 (Aq2 PassesOwn.never rfl (Aj0 (pv 0)) (Ae7 (i:=2) scAE.nd rfl (Or.inl rfl)) (Aa6 (Ae5 (PW.pt (Ag2 (Ad0 (Ad3 (Ac0 Ag9 (by rfl) T.isi PyProof.Rows.boot_isinstance (Aa0 (pv 2) (Aa0 (Ae4 (by rfl) T2.tup PyProof.Rows.boot_tuple (show RelV (.ty "tuple") (.type "tuple") from rfl)) Aa4))))) (Ag2 (Ad0 (Ad3 (Ac0 Ao0 (by rfl) T.isi PyProof.Rows.boot_isinstance (Aa0 (Ab5 Ab3 (pv 2) Aa3 (λ_ _=>rfl)) (Aa0 (Ae4 (by rfl) T2.str PyProof.Rows.boot_str (show RelV (.ty "str") (.type "str") from rfl)) Aa4))))) (Ag1 (Ad0 (Ad3 (Ab9 G1 hr (by rfl) D1.m D1.F.kp D1.b .nil Ac8 (Aa0 (Ab5 Ab3 (pv 2) Aa3 (λ_ _=>rfl)) Aa4)))))))) (Aa6 (Ac3 Af5)) Ac4))) (Aa6 (Ac3 Af5)))),?_⟩
  have d1:DatR K H (.ref l) (.list (es.map dEv)):=.lst (SqL.of hl) v1.dats
  have d2:DatR K H (.ref ev) (.list (es.map dEv)):=.lst (SqL.of he) v2.dats
  refine ⟨_,rfl,_,rfl,.lst hl,_,rfl,Ab7 (by show (!Am2 H (.ref l))=false; rw [Ai9 hl]; rfl) ?_⟩
  refine ⟨_,rfl,_,rfl,_,_,d1,d2,Ao7 _,Ao7 _,_,rfl,Ab7 (by rw [Ah8 d1]; rfl) ?_⟩
  refine ⟨_,rfl,l,rfl,⟨_,SqL.of hl⟩,Aj9 (K:=K) (a:=l) (xs:=ys) (λi σ H'=>H'=H/\∃ v2,σ=[some (.ref l),some (.ref ev),v2]) ⟨rfl,_,rfl⟩ ?_ ?_ ?_⟩
  ·rintro i σ H' _ ⟨rfl,_⟩
   exact SqL.of hl
  ·rintro i x σ H' hi ⟨rfl,v2,rfl⟩
   obtain ⟨t,n,rfl,ht⟩:=v1.get i x hi
   refine ⟨_,rfl,_,rfl,.tup ht,_,rfl,Ab7 (by show (!Ag4 H' (.ref t))=false; rw [Ap3 ht]; rfl) ?_⟩
   refine ⟨_,rfl,t,_,_,.str "told",rfl,rfl,SqT.of ht,rfl,_,rfl,.str _,_,rfl,iteF ?_⟩
   exact ⟨_,rfl,t,_,_,.int n,rfl,rfl,SqT.of ht,rfl,_,rfl,.int n,_,rfl,iteF ⟨rfl,_,rfl⟩⟩
  ·rintro σ H' ⟨rfl,v2,rfl⟩
   exact q
end
end K33
end
section
namespace K33
open PySem L2
def Bh0 (K:PySem.W.Frag):Sp:=λvs H Q _=>∃ (a:Addr) (ns:List Int),vs=[.ref a]/\SqL K H a (ns.map V.int)/\ns.length<=63/\∀ H',Q (.bl true) H'
theorem Bw5 (ns:List Int):∃ ms:List Int,cutV (ns.map V.int) (some 2) (some 62)=ms.map V.int/\ms.length<=60:=by
 refine ⟨(ns.drop (HT.sIx (ns.map V.int).length 0 (some 2))).take (HT.sIx (ns.map V.int).length (ns.map V.int).length (some 62) - HT.sIx (ns.map V.int).length 0 (some 2)),?_,?_⟩
 ·unfold cutV
  rw [List.map_take,List.map_drop]
 ·rw [show (some (2:Int))=some ((2:Nat):Int) from rfl,show (some (62:Int))=some ((62:Nat):Int) from rfl,HT.sIx_nat,HT.sIx_nat,List.length_take,List.length_drop]
  omega
theorem Mc.keepX {MC:Addr} {H H':Hp} {X:Addr->Prop} {mc wy po rg sv hp:Addr} {gate:Int} {ctr:Nat} {kn hl:Bool} {rr:List R3} {rs es:List Int} (m:Mc MC H mc wy po rg sv hp gate ctr kn hl rr rs es) (kp:∀ b o,¬ X b->H b=some o->H' b=some o) (h1:¬ X mc) (h2:¬ X po) (h3:¬ X rg) (h4:¬ X hp) (ht:∀ t xs,H t=some (.tup xs)->¬ X t):Mc MC H' mc wy po rg sv hp gate ctr kn hl rr rs es:=by
 obtain ⟨dx,fs,e,f⟩:=m.ob
 obtain ⟨ys,e1,r1⟩:=m.opo
 obtain ⟨zs,e2,r2⟩:=m.ohp
 have nt:∀ t xs,H t=some (.tup xs)->H' t=some (.tup xs):=λt xs z=>kp _ _ (ht t xs z) z
 exact ⟨⟨dx,fs,kp _ _ h1 e,f⟩,⟨ys,kp _ _ h2 e1,r1.imp nt⟩,kp _ _ h3 m.org,⟨zs,kp _ _ h4 e2,r2.imp nt⟩,nt _ _ m.osv,m.ok,m.ln,m.n1,m.n2,m.n3⟩
theorem Ls3.keepX {H H':Hp} {X:Addr->Prop} {cl ev:Addr} {s:S3} (l:Ls3 H cl ev s) (kp:∀ b o,¬ X b->H b=some o->H' b=some o) (h1:¬ X cl) (h2:¬ X ev) (ht:∀ t xs,H t=some (.tup xs)->¬ X t):Ls3 H' cl ev s:=by
 obtain ⟨zs,h,v⟩:=l.he
 exact ⟨kp _ _ h1 l.hc,l.hl,⟨zs,kp _ _ h2 h,v.imp λt xs z=>kp _ _ (ht t xs z) z⟩,l.hn⟩
structure LI (MC:Addr) (H:Hp) (mc wy po rg sv hp:Addr) (rr:List R3) (cl ev st pl l4:Addr) (ys xs4:List V) (s:S3):Prop where
 M:Ms MC H mc wy po rg sv hp 0 rr s
 L:Ls3 H cl ev s
 st:H st=some (.tup (stV cl ev s))
 pl:H pl=some (.lst ys)
 rl:Rls H ys rr
 l4:H l4=some (.lst xs4)
theorem LI.same {MC:Addr} {H H':Hp} {mc wy po rg sv hp:Addr} {rr:List R3} {cl ev st pl l4:Addr} {ys xs4:List V} {s:S3} (i:LI MC H mc wy po rg sv hp rr cl ev st pl l4 ys xs4 s) (e:Same H H'):LI MC H' mc wy po rg sv hp rr cl ev st pl l4 ys xs4 s :=
 ⟨i.M.same e,i.L.same e,e _ _ i.st,e _ _ i.pl,i.rl.same e,e _ _ i.l4⟩
theorem LI.keepX {MC:Addr} {H H':Hp} {X:Addr->Prop} {mc wy po rg sv hp:Addr} {rr:List R3} {cl ev st pl l4:Addr} {ys xs4:List V} {s:S3} (i:LI MC H mc wy po rg sv hp rr cl ev st pl l4 ys xs4 s) (kp:∀ b o,¬ X b->H b=some o->H' b=some o)
  (h1:¬ X mc) (h2:¬ X po) (h3:¬ X rg) (h4:¬ X hp) (h5:¬ X cl) (h6:¬ X ev) (h7:¬ X pl) (h8:¬ X l4) (ht:∀ t xs,H t=some (.tup xs)->¬ X t):LI MC H' mc wy po rg sv hp rr cl ev st pl l4 ys xs4 s :=
 ⟨⟨i.M.m.keepX kp h1 h2 h3 h4 ht,i.M.i⟩,i.L.keepX kp h5 h6 ht,kp _ _ (ht _ _ i.st) i.st,kp _ _ h7 i.pl,i.rl.imp λt xs z=>kp _ _ (ht t xs z) z,kp _ _ h8 i.l4⟩
theorem LI.upd {MC:Addr} {H0 H:Hp} {mc wy po rg sv hp b:Addr} {o:HO} {rr:List R3} {cl ev st pl l4:Addr} {ys xs4 zs:List V} {st':Addr} {s s':S3} (i:LI MC H mc wy po rg sv hp rr cl ev st pl l4 ys xs4 s) (i0:LI MC H0 mc wy po rg sv hp rr cl ev st' pl l4 ys xs4 s') (f:H0 b=none) (hb:H b=some (.lst zs)):LI MC (upd H b o) mc wy po rg sv hp rr cl ev st pl l4 ys xs4 s:=by
 obtain ⟨dx,fs,e,_⟩:=i0.M.m.ob
 obtain ⟨us,e1,_⟩:=i0.M.m.opo
 obtain ⟨vs,e2,_⟩:=i0.M.m.ohp
 obtain ⟨ws,e3,_⟩:=i0.L.he
 exact i.keepX (X:=λa=>a=b) (λa u n z=>by rw [Ab0 n]; exact z) (Aa8 e f) (Aa8 e1 f) (Aa8 i0.M.m.org f) (Aa8 e2 f) (Aa8 i0.L.hc f) (Aa8 e3 f) (Aa8 i0.pl f) (Aa8 i0.l4 f) (λt xs z=>Ae2 z hb (by intro z; cases z))
theorem Bg9 {ks:List Nat} {i k:Nat} (h:ks[i]?=some k):(ks.drop i).sum=k+(ks.drop (i+1)).sum:=by
 have hi:=(List.getElem?_eq_some_iff.mp h).1
 rw [List.drop_eq_getElem_cons hi,List.sum_cons,(List.getElem?_eq_some_iff.mp h).2]
def R3.d:R3->List PyData
 | .set a v=>[.str "set",.int (a:Int),.int v]
 | .add a b=>[.str "add",.int (a:Int),.int (b:Int)]
 | .both a b=>[.str "both",.int (a:Int),.int (b:Int)]
 | .odd a b=>[.str "odd",.int (a:Int),.int (b:Int)]
 | .tell a=>[.str "tell",.int (a:Int)]
 | .nought a t=>[.str "nought",.int (a:Int),.int (t:Int)]
 | .jump t=>[.str "jump",.int (t:Int)]
 | .halt=>[.str "halt"]
theorem R3.dats {K:PySem.W.Frag} {H:Hp} (r:R3):DatsR K H r.v r.d:=by
 cases r <;> simp only [R3.v,R3.d] <;> (first | exact .cons (.str _) (.cons (.int _) (.cons (.int _) .nil)) | exact .cons (.str _) (.cons (.int _) .nil) | exact .cons (.str _) .nil)
theorem R3.lay (r:R3):PyData.canLayAll0 r.d=true/\PyData.depthAll r.d=0:=by
 have z:PyData.strOk r.w=true:=by cases r <;> simp only [R3.w] <;> decide +kernel
 cases r <;> simp only [R3.w] at z <;> simp [R3.d,PyData.canLayAll0,PyData.canLay0,PyData.depthAll,PyData.depth,z]
theorem laR:∀ rr:List R3,PyData.canLayAll0 (rr.map λr=>PyData.tuple r.d)=true/\PyData.depthAll (rr.map λr=>PyData.tuple r.d)<=1
 | []=>⟨rfl,by decide⟩
 | r::rr=>by
  obtain ⟨h1,h2⟩:=laR rr
  obtain ⟨g1,g2⟩:=r.lay
  refine ⟨?_,?_⟩
  ·simp [PyData.canLayAll0,PyData.canLay0,h1,g1]
  ·simp [PyData.depthAll,PyData.depth,g2]
   omega
theorem Bn0 (rr:List R3):SeqAt.shaped (.list (rr.map λr=>PyData.tuple r.d))=true:=by
 obtain ⟨h1,h2⟩:=laR rr
 simp only [SeqAt.shaped,PyData.canLay0,PyData.depth,h1,Bool.true_and]
 exact decide_eq_true (by omega)
theorem Rls.dats {K:PySem.W.Frag} {H:Hp} {ys:List V} {rr:List R3} (h:Rls H ys rr):DatsR K H ys (rr.map λr=>PyData.tuple r.d):=by
 induction h with
 | nil=>exact .nil
 | cons e _ ih=>exact .cons (.tup (SqT.of e) (R3.dats _)) ih
section
variable {P : Program} {w : World} {K : PySem.W.Frag} {mg : Str → Option Value} {base : Heap} {C NP NL NW NI SC PL WC FA MC : Addr}
theorem scLa:Ab6 ["_law_script","_law_cells","_law_program","_law_machine","_law_state","_law_steps","_law_first","_law_many","_law_core","_law_events","_law_kept","_law_done","_law_found"] ["_law_script"] (Aa1 sLaw):=FSc
theorem ndLa:(Ap5 "_law_k" ["_law_script","_law_cells","_law_program","_law_machine","_law_state","_law_steps","_law_first","_law_many","_law_core","_law_events","_law_kept","_law_done","_law_found"]).Nodup:=by decide +kernel
theorem By9:(".0":Str) ∉ (["_law_script","_law_cells","_law_program","_law_machine","_law_state","_law_steps","_law_first","_law_many","_law_core","_law_events","_law_kept","_law_done","_law_found"]:List Str):=by decide +kernel
theorem Bu7 {f f1 f2 f3 f4 f5 f6 f7 f8 f9 f10:Addr} {fd fd1 fd2 fd3 fd4 fd5 fd6 fd7 fd8 fd9 fd10:FuncData} (F:Fun K "law" "law" sLaw f fd) (D1:Dn K mg "_law_cell_at" Au7 ["_law_script","_law_k"] f1 fd1) (G1:FnOk P w K mg base CX0 1 f1 fd1 ["_law_script","_law_k"] (Bc2 K)) (D2:Dn K mg "_law_row" Ak2 ["_law_cell","_law_at","_law_many"] f2 fd2) (G2:FnOk P w K mg base CX0 2 f2 fd2 ["_law_cell","_law_at","_law_many"] Ax9) (D3:Dn K mg "bare" Au9 ["pages","most","program","entry","words"] f3 fd3) (G3:FnOk P w K mg base CX0 10 f3 fd3 ["pages","most","program","entry","words"] (Bc3 MC)) (D4:Dn K mg "_law_run" At9 ["_law_program","_law_state","_law_steps"] f4 fd4) (G4:FnOk P w K mg base CX0 2 f4 fd4 ["_law_program","_law_state","_law_steps"] Bb8) (D5:Dn K mg "_law_whole" Ag5 ["_law_found"] f5 fd5) (G5:FnOk P w K mg base CX0 1 f5 fd5 ["_law_found"] Af9) (D6:Dn K mg "_law_is_core" sIsC ["_law_found","_law_state"] f6 fd6) (G6:FnOk P w K mg base CX0 2 f6 fd6 ["_law_found","_law_state"] Bm3) (D7:Dn K mg "_law_are_events" Av0 ["_law_found","_law_due"] f7 fd7) (G7:FnOk P w K mg base CX0 2 f7 fd7 ["_law_found","_law_due"] Bc5) (M1:Me K MC "core" "Machine.core" Au6 ["self"] f8 fd8) (GM1:FnOk P w K mg base CX0 1 f8 fd8 ["self"] (Bc1 MC)) (M2:Me K MC "events" "Machine.events" sEvs ["self"] f9 fd9) (GM2:FnOk P w K mg base CX0 1 f9 fd9 ["self"] (Bm5 MC)) (M3:Me K MC "turn" "Machine.turn" Ak0 ["self","steps"] f10 fd10) (GM3:FnOk P w K mg base CX0 7 f10 fd10 ["self","steps"] (As9 MC)) (MK:Mcc K MC) (T:Txt K mg) (T2:Tx2 K mg):FnOk P w K mg base CX0 11 f fd ["_law_script"] (Bh0 K):=by
 refine F.ok scLa (λvs H Q E h=>?_) (λcdv A1 outer s H vs Q E hr h=>?_)
 ·obtain ⟨x,ns,rfl,_⟩:=h
  rfl
 ·obtain ⟨x,ns,rfl,hS,hns,q0⟩:=h
  have hr7:Room 7 _:=hr.mono (by decide)
  have hr2:Room 2 _:=hr.mono (by decide)
  have hr1:Room 1 _:=hr.mono (by decide)
  obtain ⟨t7,R7,hR7⟩:∃ tr,PSs (cxOf CX0 P w K mg base ["_law_script","_law_cells","_law_program","_law_machine","_law_state","_law_steps","_law_first","_law_many","_law_core","_law_events","_law_kept","_law_done","_law_found"] "law" (Aa1 sLaw) f cdv A1 outer s H E).nox ((Ab1 sLaw).drop 7) tr/\∀ (H9:Hp) (v1:Option V) (pl mc wy po rg sv hp cl ev st:Addr) (ys:List V) (rr:List R3) (n k:Nat),(∀ r ∈ rr,r.Ok)->Ms MC H9 mc wy po rg sv hp 0 rr ⟨0,false,[0,0,0,0],[]⟩->Ls3 H9 cl ev ⟨0,false,[0,0,0,0],[]⟩->H9 st=some (.tup (stV cl ev ⟨0,false,[0,0,0,0],[]⟩))->H9 pl=some (.lst ys)->Rls H9 ys rr->rg≠pl->hp≠pl->(po≠cl/\rg≠cl/\hp≠cl/\pl≠cl)->(po≠ev/\rg≠ev/\hp≠ev/\pl≠ev)->k<=n->n<=500->tr { nx:=λ_ H'=>Q .non H',rt:=Q } [some (.ref x),v1,some (.ref pl),some (.ref mc),some (.ref st),some (.int (n:Int)),some (.int (k:Int)),none,none,none,none,none,none] H9:=by
   refine ⟨_,(Aa5 (Aq2 PassesOwn.never rfl (Aj0 (Ah2 (Ab8 Aa3 (Ab8 (pv 6) (Ab8 (Ad9 Ay6 (pv 5) (pv 6)) (Ab8 Aa3 Aa4)))))) (Ae7 (i:=7) scLa.nd rfl (Or.inl rfl)) (Aa5 (Ae8 (i:=8) scLa.nd rfl (Or.inl rfl) (Ai8 (pv 3) MK.cl M1.m GM1 hr1 M1.b .nil Ac8)) (Aa5 (Ae8 (i:=9) scLa.nd rfl (Or.inl rfl) (Ai8 (pv 3) MK.cl M2.m GM2 hr1 M2.b .nil Ac8)) (Aa5 (Ae8 (i:=10) scLa.nd rfl (Or.inl rfl) (Ae3 (Aa0 (Ae6 Ad1 (by rfl) T.lst PyProof.Rows.boot_list (Aa0 (Ab5 Ab3 (pv 8) Aa3 (λ_ _=>rfl)) Aa4)) (Aa0 (Ae6 Ad1 (by rfl) T.lst PyProof.Rows.boot_list (Aa0 (pv 9) Aa4)) Aa4)))) (Aa5 (Ai1 (Ab9 G4 hr2 (by rfl) D4.m D4.F.kp D4.b .nil Ac8 (Aa0 (pv 2) (Aa0 (pv 4) (Aa0 (pv 7) Aa4)))) (Ay3 rfl (Af1 (Ae7 (i:=11) scLa.nd rfl (Or.inl rfl)) (Af1 (Ae7 (i:=4) scLa.nd rfl (Or.inl rfl)) Ao9)))) (Aa5 (Ae8 (i:=12) scLa.nd rfl (Or.inl rfl) (Av2 (pv 3) MK.cl M3.m GM3 hr7 M3.b .nil Ac8 (Aa0 (pv 7) Aa4))) (Aa5 (Ae5 (PW.pt (Ag2 (Ad0 (Ad3 (Ab9 G5 hr1 (by rfl) D5.m D5.F.kp D5.b .nil Ac8 (Aa0 (pv 12) Aa4)))) (Ag2 (Ac2 Bo6 (pv 12) (pv 11) (Ac7 _)) (Ag2 (Ac2 (Ay7 hr.units) (Ab5 Ab3 (pv 8) Aa3 (λ_ _=>rfl)) (Ab5 Ab3 (pv 10) Aa3 (λ_ _=>rfl)) (Ac7 _)) (Ag1 (Ac2 (Ay7 hr.units) (pv 9) (Ab5 Ab3 (pv 10) Aa3 (λ_ _=>rfl)) (Ac7 _))))))) (Aa6 (Ac3 Af5)) Ac4) (Aa5 (Af3 (Bt8 PySem.F.plainAttrs_list PySem.F.slot_list_clear PySem.F.type_list_clear Bj4 (Ab5 Ab3 (pv 8) Aa3 (λ_ _=>rfl)))) (Aa5 (Af3 (Bo4 PySem.F.plainAttrs_list PySem.F.slot_list_append PySem.F.type_list_append Ah4 (pv 9) (Aa0 Aa3 Aa4))) (Aa6 (Ae5 (PW.pt (Ag2 (Ad0 (Ad3 (Ab9 G6 hr2 (by rfl) D6.m D6.F.kp D6.b .nil Ac8 (Aa0 (Ai8 (pv 3) MK.cl M1.m GM1 hr1 M1.b .nil Ac8) (Aa0 (pv 4) Aa4))))) (Ag1 (Ad0 (Ad3 (Ab9 G7 hr2 (by rfl) D7.m D7.F.kp D7.b .nil Ac8 (Aa0 (Ai8 (pv 3) MK.cl M2.m GM2 hr1 M2.b .nil Ac8) (Aa0 (Ab5 Ab3 (pv 4) Aa3 (λ_ _=>rfl)) Aa4)))))))) (Aa6 (Ac3 Af5)) Ac4))))))))))) (Aa6 (Ac3 Af5))),λH9 v1 pl mc wy po rg sv hp cl ev st ys rr n k ok M9 L9 zs hp9 rl9 nrp nhp ⟨c1,c2,c3,c4⟩ ⟨d1,d2,d3,d4⟩ kn n5=>?_⟩
   refine ⟨_,rfl,_,rfl,_,rfl,(n:Int),(k:Int),rfl,rfl,by show 4<=sizeLine; decide,λl4 hl4=>?_⟩
   have ek:(n:Int) - (k:Int)=((n - k:Nat):Int):=by omega
   have w4:=Aa7 (o:=.lst [.int 0,.int (k:Int),.int ((n:Int) - (k:Int)),.int 0]) hl4
   have z4:upd H9 l4 (.lst [.int 0,.int (k:Int),.int ((n:Int) - (k:Int)),.int 0]) l4=some (.lst (([0,k,n - k,0]:List Nat).map λi:Nat=>V.int (i:Int))):=by rw [upd_same,ek]; rfl
   have rs4:rg≠l4:=Aa8 M9.m.org hl4
   have hp4:hp≠l4:=by obtain ⟨z,e,_⟩:=M9.m.ohp; exact Aa8 e hl4
   have cl4:cl≠l4:=Aa8 L9.hc hl4
   have ev4:ev≠l4:=by obtain ⟨z,e,_⟩:=L9.he; exact Aa8 e hl4
   have I0:LI MC (upd H9 l4 (.lst [.int 0,.int (k:Int),.int ((n:Int) - (k:Int)),.int 0])) mc wy po rg sv hp rr cl ev st pl l4 ys (([0,k,n - k,0]:List Nat).map λi:Nat=>V.int (i:Int)) ⟨0,false,[0,0,0,0],[]⟩:=⟨M9.same w4,L9.same w4,w4 _ _ zs,w4 _ _ hp9,rl9.same w4,z4⟩
   have hsum:([0,k,n - k,0]:List Nat).sum<=500:=by simp only [List.sum_cons,List.sum_nil]; omega
   generalize upd H9 l4 (.lst [.int 0,.int (k:Int),.int ((n:Int) - (k:Int)),.int 0])=Ha at *
   generalize ([0,k,n - k,0]:List Nat)=ks at *
   refine ⟨l4,rfl,⟨_,SqL.of z4⟩,Aj9 (K:=K) (a:=l4) (xs:=ks.map λi:Nat=>V.int (i:Int)) (λi σ H'=>∃ (s:S3) (st':Addr) (v7 v8 v9 v10 v11 v12:Option V),σ=[some (.ref x),v1,some (.ref pl),some (.ref mc),some (.ref st'),some (.int (n:Int)),some (.int (k:Int)),v7,v8,v9,v10,v11,v12]/\LI MC H' mc wy po rg sv hp rr cl ev st' pl l4 ys (ks.map λi:Nat=>V.int (i:Int)) s/\s.es.length+(ks.drop i).sum<=500) ?_ ?_ ?_ ?_⟩
   ·exact ⟨_,st,_,_,_,_,_,_,rfl,I0,by show 0+ks.sum<=500; omega⟩
   ·rintro i σ H' _ ⟨_,_,_,_,_,_,_,_,_,I,_⟩
    exact SqL.of I.l4
   ·rintro i y σ H' hi ⟨s,st1,v7,v8,v9,v10,v11,v12,rfl,I,hs⟩
    rw [List.getElem?_map] at hi
    cases eo:ks[i]? with
    | none=>rw [eo] at hi; cases hi
    | some m =>
    rw [eo] at hi
    have hi':V.int (m:Int)=y:=Option.some.inj hi
    subst hi'
    rw [Bg9 eo] at hs
    obtain ⟨dx,fs,hm,mf⟩:=I.M.m.ob
    refine ⟨_,rfl,mc,dx,fs,rfl,hm,mf.no _ (by decide +kernel) (by decide +kernel) (by decide +kernel) (by decide +kernel) (by decide +kernel) (by decide +kernel) (by decide +kernel) (by decide +kernel) (by decide +kernel),mc,wy,po,rg,sv,hp,0,rr,s,rfl,I.M,λct lc B1 b1 fl _ zt zl=>?_⟩
    have I1:=I.same b1
    obtain ⟨dx1,fs1,hm1,mf1⟩:=I1.M.m.ob
    refine ⟨_,rfl,mc,dx1,fs1,rfl,hm1,mf1.no _ (by decide +kernel) (by decide +kernel) (by decide +kernel) (by decide +kernel) (by decide +kernel) (by decide +kernel) (by decide +kernel) (by decide +kernel) (by decide +kernel),mc,wy,po,rg,sv,hp,0,rr,s,rfl,I1.M,λle es1 B2 b2 fe ze ve=>?_⟩
    have I2:=I1.same b2
    have lel:=ve.len
    have zt2:=b2 _ _ zt
    have zl2:=b2 _ _ zl
    refine ⟨_,rfl,ct,_,_,.ref lc,rfl,rfl,SqT.of zt2,rfl,lc,_,rfl,.inl (SqL.of zl2),λk1 hk1=>?_⟩
    have b3:=Aa7 (o:=.lst (s.rs.map V.int)) hk1
    have zk1:upd B2 k1 (.lst (s.rs.map V.int)) k1=some (.lst (s.rs.map V.int)):=upd_same
    generalize upd B2 k1 (.lst (s.rs.map V.int))=B3 at *
    refine ⟨_,rfl,le,_,rfl,.inl (SqL.of (b3 _ _ ze)),λk2 hk2=>⟨by show 2<=sizeLine; decide,λkt hkt=>?_⟩⟩
    have b4:=Aa7 (o:=.lst es1) hk2
    have zk2:upd B3 k2 (.lst es1) k2=some (.lst es1):=upd_same
    generalize upd B3 k2 (.lst es1)=B4 at *
    have b5:=Aa7 (o:=.tup [.ref k1,.ref k2]) hkt
    have zkt:upd B4 kt (.tup [.ref k1,.ref k2]) kt=some (.tup [.ref k1,.ref k2]):=upd_same
    generalize upd B4 kt (.tup [.ref k1,.ref k2])=B5 at *
    have b35:=b3.trans (b4.trans b5)
    have I5:=I2.same b35
    have zt5:=b35 _ _ zt2
    have zl5:=b35 _ _ zl2
    have ze5:=b35 _ _ ze
    have ve5:Evs B5 es1 s.es:=ve.imp λt xs z=>b35 _ _ z
    have zk15:=b5 _ _ (b4 _ _ zk1)
    have zk25:=b5 _ _ zk2
    have flc:H' lc=none:=fl
    have fle:H' le=none:=b1.free fe
    have fk1:H' k1=none:=b1.free (b2.free hk1)
    have fk2:H' k2=none:=b1.free (b2.free (b3.free hk2))
    obtain ⟨zev,hev5,_⟩:=I5.L.he
    obtain ⟨zh',hhp0,_⟩:=I.M.m.ohp
    obtain ⟨zv',hev0,_⟩:=I.L.he
    refine ⟨_,rfl,_,rfl,_,rfl,pl,st1,cl,ev,ys,rr,s,m,rfl,I5.pl,I5.rl,ok,I5.st,I5.L,I5.M.i,by omega,c4.symm,d4.symm,λt2 u B6 zt2' zu L6 i6 le6 k6=>?_⟩
    refine ⟨t2,_,rfl,SqT.of zt2',rfl,_,_,rfl,_,_,rfl,rfl,?_⟩
    have nt6:∀ t xs,B5 t=some (.tup xs)->t≠cl/\t≠ev:=λt xs z=>⟨Ae2 z I5.L.hc (by intro z; cases z),Ae2 z hev5 (by intro z; cases z)⟩
    have M6:Ms MC B6 mc wy po rg sv hp 0 rr s:=⟨I5.M.m.keepX (X:=λb=>b=cl\/b=ev) (λb o nx e=>k6 b o (λz=>nx (.inl z)) (λz=>nx (.inr z)) e) (λz=>by obtain ⟨_,_,em,_⟩:=I5.M.m.ob; rcases z with z | z; exact Ae2 em I5.L.hc (by intro z; cases z) z; exact Ae2 em hev5 (by intro z; cases z) z) (λz=>z.elim c1 d1) (λz=>z.elim c2 d2) (λz=>z.elim c3 d3) (λt xs z y=>y.elim (nt6 t xs z).1 (nt6 t xs z).2),I5.M.i⟩
    have zt6:=k6 _ _ (nt6 _ _ zt5).1 (nt6 _ _ zt5).2 zt5
    have zkt6:=k6 _ _ (nt6 _ _ zkt).1 (nt6 _ _ zkt).2 zkt
    have ve6:Evs B6 es1 s.es:=ve5.imp λt xs z=>k6 _ _ (nt6 _ _ z).1 (nt6 _ _ z).2 z
    have zl6:=k6 lc _ (λz=>by rw [z,I.L.hc] at flc; cases flc) (λz=>by rw [z,hev0] at flc; cases flc) zl5
    have ze6:=k6 le _ (λz=>by rw [z,I.L.hc] at fle; cases fle) (λz=>by rw [z,hev0] at fle; cases fle) ze5
    have zk16:=k6 k1 _ (λz=>by rw [z,I.L.hc] at fk1; cases fk1) (λz=>by rw [z,hev0] at fk1; cases fk1) zk15
    have zk26:=k6 k2 _ (λz=>by rw [z,I.L.hc] at fk2; cases fk2) (λz=>by rw [z,hev0] at fk2; cases fk2) zk25
    have hp6:=k6 pl _ c4 d4 I5.pl
    have rl6:Rls B6 ys rr:=I5.rl.imp λt xs z=>k6 _ _ (nt6 _ _ z).1 (nt6 _ _ z).2 z
    have h46:=k6 l4 _ cl4.symm ev4.symm I5.l4
    obtain ⟨dx6,fs6,hm6,mf6⟩:=M6.m.ob
    obtain ⟨yh6,hh6,_⟩:=M6.m.ohp
    refine ⟨_,rfl,mc,dx6,fs6,rfl,hm6,mf6.no _ (by decide +kernel) (by decide +kernel) (by decide +kernel) (by decide +kernel) (by decide +kernel) (by decide +kernel) (by decide +kernel) (by decide +kernel) (by decide +kernel),_,rfl,mc,wy,po,rg,sv,hp,0,rr,s,m,rfl,M6,by omega,by omega,λB7 M7 k7=>?_⟩
    have nt7:∀ t xs,B6 t=some (.tup xs)->B7 t=some (.tup xs):=λt xs z=>k7 _ _ (Ae2 z hm6 (by intro z; cases z)) (Ae2 z M6.m.org (by intro z; cases z)) (Ae2 z hh6 (by intro z; cases z)) z
    have kl7:∀ b xs,b≠rg->b≠hp->B6 b=some (.lst xs)->B7 b=some (.lst xs):=λb xs n1 n2 z=>k7 _ _ (Ae2 z hm6 (by intro z; cases z)) n1 n2 z
    have fr7:∀ b xs,H' b=none->B6 b=some (.lst xs)->B7 b=some (.lst xs):=λb xs f z=>kl7 b xs (λy=>by rw [y,I.M.m.org] at f; cases f) (λy=>by rw [y,hhp0] at f; cases f) z
    have zl7:=fr7 _ _ flc zl6
    have ze7:=fr7 _ _ fle ze6
    have zk17:=fr7 _ _ fk1 zk16
    have zk27:=fr7 _ _ fk2 zk26
    have zt7:=nt7 _ _ zt6
    have zkt7:=nt7 _ _ zkt6
    have ve7:Evs B7 es1 s.es:=ve6.imp nt7
    obtain ⟨zs6,hz6,vz6⟩:=L6.he
    have L7:Ls3 B7 cl ev (rnM rr m s).2:=⟨kl7 _ _ c2.symm c3.symm L6.hc,L6.hl,⟨zs6,kl7 _ _ d2.symm d3.symm hz6,vz6.imp nt7⟩,L6.hn⟩
    have I7:LI MC B7 mc wy po rg sv hp rr cl ev u pl l4 ys (ks.map λi:Nat=>V.int (i:Int)) (rnM rr m s).2:=⟨M7,L7,nt7 _ _ zu,kl7 _ _ nrp.symm nhp.symm hp6,rl6.imp nt7,kl7 _ _ rs4.symm hp4.symm h46⟩
    have hs7:(rnM rr m s).2.es.length+(ks.drop (i+1)).sum<=500:=by omega
    generalize (rnM rr m s).2=s7 at *
    generalize (rnM rr m s).1=dn at *
    refine ⟨_,rfl,_,rfl,.int _,_,rfl,iteF ⟨_,rfl,_,rfl,rfl,_,rfl,Ab7 (by rw [decide_eq_true rfl]; rfl) ?_⟩⟩
    have e1:DatR K B7 (.ref lc) (.list (s.rs.map PyData.int)):=.lst (SqL.of zl7) (Bg0 _)
    have e2:DatR K B7 (.ref k1) (.list (s.rs.map PyData.int)):=.lst (SqL.of zk17) (Bg0 _)
    have e3:DatR K B7 (.ref le) (.list (s.es.map dEv)):=.lst (SqL.of ze7) ve7.dats
    have e4:DatR K B7 (.ref k2) (.list (s.es.map dEv)):=.lst (SqL.of zk27) ve7.dats
    refine ⟨_,rfl,ct,_,_,.ref lc,rfl,rfl,SqT.of zt7,rfl,_,rfl,kt,_,_,.ref k1,rfl,rfl,SqT.of zkt7,rfl,_,_,e1,e2,Ao6 _,Ao6 _,_,rfl,Ab7 (by rw [Ah8 e1]; rfl) ?_⟩
    refine ⟨_,rfl,_,rfl,kt,_,_,.ref k2,rfl,rfl,SqT.of zkt7,rfl,_,_,e3,e4,Ao7 _,Ao7 _,_,rfl,Ab7 (by rw [Ah8 e3]; rfl) ?_⟩
    refine ⟨_,rfl,ct,_,_,.ref lc,rfl,rfl,SqT.of zt7,rfl,.inl ⟨rfl,_,SqL.of zl7⟩,lc,_,rfl,rfl,zl7,?_⟩
    have nle:le≠lc:=λz=>by rw [z,zl] at fe; cases fe
    have I8:=I7.upd (o:=.lst []) I flc zl7
    have ze8:upd B7 lc (.lst []) le=some (.lst es1):=by rw [Ab0 nle]; exact ze7
    generalize upd B7 lc (.lst [])=B8 at *
    refine ⟨_,rfl,.inl ⟨rfl,_,SqL.of ze8⟩,le,_,_,rfl,rfl,ze8,Nat.lt_of_lt_of_le (show es1.length<1001 by omega) (by decide),?_⟩
    have I9:=I8.upd (o:=.lst (es1++[.int 0])) I fle ze8
    generalize upd B8 le (.lst (es1++[.int 0]))=B9 at *
    obtain ⟨dx9,fs9,hm9,mf9⟩:=I9.M.m.ob
    refine ⟨_,rfl,mc,dx9,fs9,rfl,hm9,mf9.no _ (by decide +kernel) (by decide +kernel) (by decide +kernel) (by decide +kernel) (by decide +kernel) (by decide +kernel) (by decide +kernel) (by decide +kernel) (by decide +kernel),mc,wy,po,rg,sv,hp,0,rr,s7,rfl,I9.M,λct9 lc9 Ba ba _ _ zt9 zl9=>?_⟩
    have Ia:=I9.same ba
    refine ⟨_,rfl,ct9,lc9,sv,u,cl,ev,s7,rfl,zt9,zl9,Ia.M.m.osv,Ia.st,Ia.L,λBb bb=>⟨_,rfl,iteF ?_⟩⟩
    have Ib:=Ia.same bb
    obtain ⟨dxb,fsb,hmb,mfb⟩:=Ib.M.m.ob
    refine ⟨_,rfl,mc,dxb,fsb,rfl,hmb,mfb.no _ (by decide +kernel) (by decide +kernel) (by decide +kernel) (by decide +kernel) (by decide +kernel) (by decide +kernel) (by decide +kernel) (by decide +kernel) (by decide +kernel),mc,wy,po,rg,sv,hp,0,rr,s7,rfl,Ib.M,λle9 es9 Bc bc _ ze9 ve9=>?_⟩
    have Ic:=Ib.same bc
    obtain ⟨zsc,hzc,vzc⟩:=Ic.L.he
    exact ⟨_,rfl,u,_,_,.ref ev,rfl,rfl,SqT.of Ic.st,rfl,le9,ev,es9,zsc,s7.es,rfl,ze9,ve9,hzc,vzc,_,rfl,iteF ⟨s7,u,_,_,_,_,_,_,rfl,Ic,hs7⟩⟩
   ·rintro σ H' ⟨_,_,_,_,_,_,_,_,rfl,_,_⟩
    exact q0 H'
  obtain ⟨t3,R9,hR9⟩:∃ tr,PSs (cxOf CX0 P w K mg base ["_law_script","_law_cells","_law_program","_law_machine","_law_state","_law_steps","_law_first","_law_many","_law_core","_law_events","_law_kept","_law_done","_law_found"] "law" (Aa1 sLaw) f cdv A1 outer s H E).nox ((Ab1 sLaw).drop 3) tr/\∀ (H1:Hp) (v1:Option V) (pl:Addr) (ys:List V) (rr:List R3),Same H H1->H1 pl=some (.lst ys)->Rls H1 ys rr->(∀ r ∈ rr,r.Ok)->1<=rr.length->rr.length<=60->tr { nx:=λ_ H'=>Q .non H',rt:=Q } [some (.ref x),v1,some (.ref pl),none,none,none,none,none,none,none,none,none,none] H1:=by
   refine ⟨_,(Aa5 (Ae8 (i:=3) scLa.nd rfl (Or.inl rfl) (Ab9 G3 hr (by rfl) D3.m D3.F.kp D3.b .nil Ac8 (Aa0 (Ah2 (Aa0 (Ad9 Bl1 (Ah2 (Aa0 Aa3 Aa4)) Aa3) Aa4)) (Aa0 Aa3 (Aa0 (Ae6 Ad1 (by rfl) T.lst PyProof.Rows.boot_list (Aa0 (pv 2) Aa4)) (Aa0 Aa3 (Aa0 (Ah2 Aa4) Aa4))))))) (Aa5 (Ae8 (i:=4) scLa.nd rfl (Or.inl rfl) (Ae3 (Ab8 (Ah2 (Ab8 Aa3 (Ab8 Aa3 (Ab8 Aa3 (Ab8 Aa3 Aa4))))) (Ab8 Aa3 (Ab8 Af5 (Ab8 (Ah2 Aa4) Aa4)))))) (Aa5 (Ae8 (i:=5) scLa.nd rfl (Or.inl rfl) (Ad9 Ai2 (Ab9 G1 hr1 (by rfl) D1.m D1.F.kp D1.b .nil Ac8 (Aa0 (pv 0) (Aa0 Aa3 Aa4))) Aa3)) (Aa5 (Ae8 (i:=6) scLa.nd rfl (Or.inl rfl) (Ad9 Ai2 (Ab9 G1 hr1 (by rfl) D1.m D1.F.kp D1.b .nil Ac8 (Aa0 (pv 0) (Aa0 Aa3 Aa4))) (Ad9 Ah3 (pv 5) Aa3))) R7)))),λH1 v1 pl ys rr ss hpl rl ok l1 l2=>?_⟩
   refine ⟨by show 1<=sizeLine; decide,λl0 hl0=>⟨l0,8,_,rfl,rfl,upd_same,by decide,by decide,(by show 1 * (8:Nat)<=sizeLine; decide),λp hp0=>⟨by show 1<=sizeLine; decide,λpg hpg=>?_⟩⟩⟩
   have u1:=Aa7 (o:=.lst [V.int 0]) hl0
   have u2:=Aa7 (o:=.lst (List.replicate (8:Int).toNat [V.int 0]).flatten) hp0
   have zp:upd (upd H1 l0 (.lst [V.int 0])) p (.lst (List.replicate (8:Int).toNat [V.int 0]).flatten) p=some (.lst (([0,0,0,0,0,0,0,0]:List Int).map V.int)):=upd_same.trans rfl
   have us:=u1.trans u2
   generalize upd (upd H1 l0 (.lst [V.int 0])) p (.lst (List.replicate (8:Int).toNat [V.int 0]).flatten)=H2 at *
   have u3:=Aa7 (o:=.lst [V.ref p]) hpg
   have gp:Pg (upd H2 pg (.lst [V.ref p])) pg [some (p,[0,0,0,0,0,0,0,0])]:=by
    refine ⟨upd_same,λi p' ws e=>?_,λi j p' ws ws' e e'=>?_⟩
    ·cases i with
     | zero=>cases e; exact ⟨u3 _ _ zp,Aa8 zp hpg⟩
     | succ i=>simp at e
    ·cases i with
     | zero=>cases j with
      | zero=>rfl
      | succ j=>simp at e'
     | succ i=>simp at e
   have us3:=us.trans u3
   generalize upd H2 pg (.lst [V.ref p])=H3 at *
   refine ⟨_,rfl,pl,_,rfl,.inl (SqL.of (us3 _ _ hpl)),λpl2 hpl2=>?_⟩
   have u4:=Aa7 (o:=.lst ys) hpl2
   have zpl2:upd H3 pl2 (.lst ys) pl2=some (.lst ys):=upd_same
   generalize upd H3 pl2 (.lst ys)=H4 at *
   refine ⟨by show 0<=sizeLine; decide,λla hla=>?_⟩
   have u5:=Aa7 (o:=.lst ([]:List V)) hla
   have zla:upd H4 la (.lst ([]:List V)) la=some (.lst (([]:List Bool).map V.bl)):=upd_same
   have us5:=(us3.trans u4).trans u5
   have gp5:=(gp.same u4).same u5
   have zpl5:=u5 _ _ zpl2
   generalize upd H4 la (.lst ([]:List V))=H5 at *
   refine ⟨pg,pl2,la,_,1,0,[],ys,rr,rfl,gp5,?_,Nat.le_refl _,(by show 1<=24; decide),by decide,by decide,zla,zpl5,rl.same us5,ok,l1,l2,by decide,by decide,λmc wy po rg sv hp H6 M6 s6 fmc fpo frg fhp=>?_⟩
   ·intro i p' ws e
    cases i with
    | zero =>
     cases e
     refine ⟨rfl,λw hw=>?_⟩
     simp only [List.mem_cons,List.not_mem_nil,or_false,or_self] at hw
     subst hw
     decide
    | succ i=>simp at e
   have us6:=us5.trans s6
   have hp6:=us6 _ _ hpl
   have nrp:rg≠pl:=(Aa8 (us5 _ _ hpl) frg).symm
   have nhp:hp≠pl:=(Aa8 (us5 _ _ hpl) fhp).symm
   have npp:po≠pl:=(Aa8 (us5 _ _ hpl) fpo).symm
   have sx6:=ss.trans us6
   have rl6:=rl.same us6
   clear u1 u2 u3 u4 u5 us us3 us5 zp zpl2 zla gp gp5 zpl5 s6 us6
   refine ⟨by show 4<=sizeLine; decide,λcl hcl=>⟨by show 0<=sizeLine; decide,λev hev=>⟨by show 4<=sizeLine; decide,λst hst=>?_⟩⟩⟩
   have w1:=Aa7 (o:=.lst ([V.int 0,.int 0,.int 0,.int 0])) hcl
   have zc:upd H6 cl (.lst ([V.int 0,.int 0,.int 0,.int 0])) cl=some (.lst (([0,0,0,0]:List Int).map V.int)):=upd_same
   generalize upd H6 cl (.lst ([V.int 0,.int 0,.int 0,.int 0]))=H7 at *
   have w2:=Aa7 (o:=.lst ([]:List V)) hev
   have ze:upd H7 ev (.lst ([]:List V)) ev=some (.lst []):=upd_same
   have nce:cl≠ev:=Aa8 zc hev
   generalize upd H7 ev (.lst ([]:List V))=H8 at *
   have w3:=Aa7 (o:=.tup [.ref cl,.int 0,.bl false,.ref ev]) hst
   have zs:upd H8 st (.tup [.ref cl,.int 0,.bl false,.ref ev]) st=some (.tup (stV cl ev ⟨0,false,[0,0,0,0],[]⟩)):=upd_same
   have w12:=w1.trans w2
   have w123:=w12.trans w3
   have M9:=M6.same w123
   have L9:Ls3 (upd H8 st (.tup [.ref cl,.int 0,.bl false,.ref ev])) cl ev ⟨0,false,[0,0,0,0],[]⟩:=⟨w3 _ _ (w2 _ _ zc),rfl,⟨[],w3 _ _ ze,.nil⟩,nce⟩
   have hp9:=w123 _ _ hp6
   have rl9:=rl6.same w123
   have sx9:=sx6.trans w123
   obtain ⟨xpo,epo,_⟩:=M6.m.opo
   obtain ⟨xhp,ehp,_⟩:=M6.m.ohp
   have c1:po≠cl:=Aa8 epo hcl
   have c2:rg≠cl:=Aa8 M6.m.org hcl
   have c3:hp≠cl:=Aa8 ehp hcl
   have c4:pl≠cl:=Aa8 hp6 hcl
   have d1:po≠ev:=Aa8 (w1 _ _ epo) hev
   have d2:rg≠ev:=Aa8 (w1 _ _ M6.m.org) hev
   have d3:hp≠ev:=Aa8 (w1 _ _ ehp) hev
   have d4:pl≠ev:=Aa8 (w1 _ _ hp6) hev
   generalize upd H8 st (.tup [.ref cl,.int 0,.bl false,.ref ev])=H9 at *
   clear w1 w2 w3 w12 w123 zc ze M6 hp6 rl6 sx6 epo ehp
   refine ⟨_,rfl,x,ns,0,rfl,sx9.seq hS,_,501,rfl,rfl,(by show (0:Int)<501; decide),?_⟩
   have t0:0<=ns.getD 0 0 % 501:=Int.emod_nonneg _ (by decide)
   have t1:ns.getD 0 0 % 501<501:=Int.emod_lt_of_pos _ (by decide)
   obtain ⟨n,hn⟩:∃ n:Nat,ns.getD 0 0 % 501=(n:Int):=⟨(ns.getD 0 0 % 501).toNat,by omega⟩
   refine ⟨_,rfl,x,ns,1,rfl,sx9.seq hS,_,rfl,_,1,rfl,rfl,_,_,rfl,rfl,(by show (0:Int)<ns.getD 0 0 % 501+1; omega),?_⟩
   have f0:0<=ns.getD 1 0 % ((n:Int)+1):=Int.emod_nonneg _ (by omega)
   have f1:ns.getD 1 0 % ((n:Int)+1)<(n:Int)+1:=Int.emod_lt_of_pos _ (by omega)
   obtain ⟨k,hk⟩:∃ k:Nat,ns.getD 1 0 % (ns.getD 0 0 % 501+1)=(k:Int):=⟨(ns.getD 1 0 % (ns.getD 0 0 % 501+1)).toNat,by rw [hn]; omega⟩
   have:=hR7 H9 v1 pl mc wy po rg sv hp cl ev st ys rr n k ok M9 L9 zs hp9 rl9 nrp nhp ⟨c1,c2,c3,c4⟩ ⟨d1,d2,d3,d4⟩ (by rw [hn] at hk; omega) (by omega)
   rw [<- hk,<- hn] at this
   exact this
  refine ⟨_,(Aa5 (Ae8 (i:=1) scLa.nd rfl (Or.inr rfl) (Ay4 Bm9 (pv 0) (Av1 Aa3) (Av1 Aa3))) (Aa5 (Bo1 (i:=2) scLa.nd rfl rfl rfl (cl:=[("_law_cells",s.heap.objs.size+1)]) (tc:=tYes) (te:=As7 Ax9 [] E0 (Aj6 (tOp (rIxL K) (tVar 2) (tVar 0)) (Aj6 (tVar 0) (Aj6 (tCB (λxs H Q=>∃ p ys,xs=[.ref p]/\(SqL K H p ys\/SqT K H p ys)/\Q (.int ys.length) H) (Aj6 (tVar 2) tNil)) tNil)))) rfl (Bd1 (by rfl) T.rng (Aa0 (Ac0 Ac6 (by rfl) T.len PySem.boot_len (Aa0 (pv 1) Aa4)) Aa4)) rfl (by repeat' (first | exact trivial | refine ⟨.inl ⟨.inr rfl,rfl⟩,?_⟩ | refine ⟨.inl ⟨.inl rfl,rfl⟩,?_⟩ | refine ⟨.inr (.inl ⟨by decide,by decide,by decide⟩),?_⟩ | refine ⟨.inr (.inr ⟨rfl,by decide +kernel,by decide +kernel,rfl,rfl⟩),?_⟩)) (show ClOk _ _ from ⟨rfl,trivial⟩) (λC s₂ H₂ fp=>.nil) (λC s₂ H₂ fp=>(Ab9 G2 hr2 (by rfl) D2.m D2.F.kp D2.b .nil Ac8 (Aa0 (Ab5 Ad4 (pv 2) (pv 0) (λ_ _=>rfl)) (Aa0 (pv 0) (Aa0 (Ac0 Ac6 (by rfl) T.len PySem.boot_len (Aa0 (pv 2) Aa4)) Aa4))))) ndLa (hdot:=By9)) (Aa5 (Ae5 (Ac2 (Bl2 hr.units) (pv 2) (Ah2 Aa4) (Ac7 _)) (Aa6 (Ae8 (i:=2) scLa.nd rfl (Or.inl rfl) (Ah2 (Aa0 (Ae3 (Aa0 Ad7 Aa4)) Aa4)))) Ac4) R9))),?_⟩
  refine ⟨_,rfl,2,rfl,62,rfl,x,_,rfl,hS,λsl hsl=>?_⟩
  obtain ⟨ms,hms,hml⟩:=Bw5 ns
  rw [hms]
  have s1:=Aa7 (o:=.lst (ms.map V.int)) hsl
  have z1:upd H sl (.lst (ms.map V.int)) sl=some (.lst (ms.map V.int)):=upd_same
  generalize upd H sl (.lst (ms.map V.int))=H1 at *
  refine ⟨_,rfl,sl,_,rfl,.inl (SqL.of z1),((ms.map V.int).length:Int),rfl,(by omega),(by rw [List.length_map]; omega),?_⟩
  rw [show ((((ms.map V.int).length:Nat):Int)).toNat=ms.length by rw [Int.toNat_natCast,List.length_map]]
  refine Bb1 (lo:=0) (n:=ms.length) (λD k ys H'=>∃ rr:List R3,H1 D=none/\Same H1 H'/\H' D=some (.lst ys)/\Rls H' ys rr/\(∀ r ∈ rr,r.Ok)/\rr.length=k) ?_ ?_ ?_ ?_
  ·exact λD hD=>⟨[],hD,Aa7 hD,upd_same,.nil,λr hr=>absurd hr (by simp),rfl⟩
  ·rintro D k ys H' _ ⟨rr,_,_,h,_⟩
   exact h
  ·rintro D k ys H' hk ⟨rr,hD,ss,hd,rl,ok,hl⟩
   rw [Int.zero_add]
   have ly:=rl.len
   have z1':=ss _ _ z1
   refine iteT ⟨_,rfl,_,rfl,sl,_,_,_,rfl,rfl,SqL.of z1',Ad2 hk,_,rfl,_,rfl,sl,_,rfl,.inl (SqL.of z1'),_,k,(ms.map V.int).length,rfl,by rw [List.length_map]; exact hk,by rw [List.length_map]; exact hml,λt r H3 s3 zt hok=>?_⟩
   refine ⟨s3 _ _ hd,Nat.lt_of_lt_of_le (show ys.length<1001 by omega) (by decide),rr++[r],hD,Same.set (ss.trans s3) hD,upd_same,?_,?_,by rw [List.length_append,hl]; rfl⟩
   ·have nD:∀ u xs,H3 u=some (.tup xs)->upd H3 D (.lst (ys++[V.ref t])) u=some (.tup xs):=λu xs z=>by rw [Ab0 (Ae2 z (s3 _ _ hd) (by intro z; cases z))]; exact z
    exact ((rl.same s3).imp nD).append (.cons (nD _ _ zt) .nil)
   ·intro r' hr'
    rcases List.mem_append.mp hr' with z | z
    ·exact ok r' z
    ·rw [List.mem_singleton.mp z]; exact hok
  rintro D ys H2 ⟨rr,hD,s2,hd,rl,ok,hl⟩
  have s12:=s1.trans s2
  have ly:=rl.len
  refine ⟨_,rfl,by show 0<=sizeLine; decide,λe he=>?_⟩
  have s3:=Aa7 (o:=.lst ([]:List V)) he
  have d1:DatR K (upd H2 e (.lst ([]:List V))) (.ref e) (.list []):=.lst (SqL.of upd_same) .nil
  have d2:DatR K (upd H2 e (.lst ([]:List V))) (.ref D) (.list (rr.map λr=>PyData.tuple r.d)):=.lst (SqL.of (s3 _ _ hd)) (rl.same s3).dats
  refine ⟨_,_,d2,d1,Bn0 _,by decide +kernel,_,rfl,?_⟩
  cases rr with
  | nil =>
   refine iteT ⟨by show 1<=sizeLine; decide,λt ht=>⟨by show 1<=sizeLine; decide,λp hp=>?_⟩⟩
   have s4:=Aa7 (o:=.tup [.str "halt"]) ht
   have s5:=Aa7 (o:=.lst [.ref t]) hp
   exact hR9 _ _ p [.ref t] [.halt] (s12.trans (s3.trans (s4.trans s5))) upd_same (.cons (s5 _ _ upd_same) .nil) (λr hr=>by rw [List.mem_singleton.mp hr]; trivial) (by decide) (by decide)
  | cons r0 rr0 =>
   refine iteF ?_
   exact hR9 _ _ D ys (r0::rr0) (s12.trans s3) (s3 _ _ hd) (rl.same s3) ok (by rw [List.length_cons]; omega) (by omega)
end
end K33
end
section
open PySem PySem.W PyProof.Rows
namespace K33
open PySem L2
theorem ba1 {fd:FuncData} {p1:Str} (h:∀ a1:Value,bindArgs fd ⟨[a1],[]⟩=pure ([p1].zip [a1])):∀ us:List Value,us.length=[p1].length->bindArgs fd ⟨us,[]⟩=pure ([p1].zip us)
 | [_],_=>h _
theorem ba2 {fd:FuncData} {p1 p2:Str} (h:∀ a1 a2:Value,bindArgs fd ⟨[a1,a2],[]⟩=pure ([p1,p2].zip [a1,a2])):∀ us:List Value,us.length=[p1,p2].length->bindArgs fd ⟨us,[]⟩=pure ([p1,p2].zip us)
 | [_,_],_=>h _ _
theorem ba3 {fd:FuncData} {p1 p2 p3:Str} (h:∀ a1 a2 a3:Value,bindArgs fd ⟨[a1,a2,a3],[]⟩=pure ([p1,p2,p3].zip [a1,a2,a3])):∀ us:List Value,us.length=[p1,p2,p3].length->bindArgs fd ⟨us,[]⟩=pure ([p1,p2,p3].zip us)
 | [_,_,_],_=>h _ _ _
theorem ba4 {fd:FuncData} {p1 p2 p3 p4:Str} (h:∀ a1 a2 a3 a4:Value,bindArgs fd ⟨[a1,a2,a3,a4],[]⟩=pure ([p1,p2,p3,p4].zip [a1,a2,a3,a4])):∀ us:List Value,us.length=[p1,p2,p3,p4].length->bindArgs fd ⟨us,[]⟩=pure ([p1,p2,p3,p4].zip us)
 | [_,_,_,_],_=>h _ _ _ _
theorem ba5 {fd:FuncData} {p1 p2 p3 p4 p5:Str} (h:∀ a1 a2 a3 a4 a5:Value,bindArgs fd ⟨[a1,a2,a3,a4,a5],[]⟩=pure ([p1,p2,p3,p4,p5].zip [a1,a2,a3,a4,a5])):∀ us:List Value,us.length=[p1,p2,p3,p4,p5].length->bindArgs fd ⟨us,[]⟩=pure ([p1,p2,p3,p4,p5].zip us)
 | [_,_,_,_,_],_=>h _ _ _ _ _
theorem ba6 {fd:FuncData} {p1 p2 p3 p4 p5 p6:Str} (h:∀ a1 a2 a3 a4 a5 a6:Value,bindArgs fd ⟨[a1,a2,a3,a4,a5,a6],[]⟩=pure ([p1,p2,p3,p4,p5,p6].zip [a1,a2,a3,a4,a5,a6])):∀ us:List Value,us.length=[p1,p2,p3,p4,p5,p6].length->bindArgs fd ⟨us,[]⟩=pure ([p1,p2,p3,p4,p5,p6].zip us)
 | [_,_,_,_,_,_],_=>h _ _ _ _ _ _
theorem all_mk {l:OpenLaw} {w:World} {K:Frag} {h:Heap} {mg:Str->Option Value} {fa f0 f1 f2 f3 f4 f5 f6 f7 f8 f9 f10 f11 f12 f13 f14 f15 f16 f17 f18 f19 f20 f21 f22 f23 f24 f25 f26 f27 f28 f29 f30 f31 f32 f33 f34 f35 f36 f37 f38 f39 f40 f41 f42 xC xSC xPL xWC xNP xNL xNW xNI xFA xMC xFF:Addr} {hF0 hF1 hF2 hF3 hF4 hF5 hF6 hF7 hF8 hF9 hF10 hF11 hF12 hF13 hF14 hF15 hF16 hF17 hF18 hF19 hF20:Int} {uF0 uF1 uF2 uF3 uF4 uF5 uF6 uF7 uF8 uF9 uF10 uF11 uF12 uF13 uF14 uF15 uF16 uF17 uF18 uF19 uF20 wF0 wF1 wF2 wF3 wF4 wF5 wF6 wF7 wF8 wF9 wF10 wF11 wF12 wF13 wF14 wF15 wF16 wF17 wF18 wF19 wF20 wF21 wF22 wF23 wF24 wF25 wF26:Tok} {epF nF0 nF1 nF2 nF3 nF4 nF5 nF6 nF7 nF8 nF9 nF10 nF11 nF12 nF13 nF14 nF15 nF16 nF17 nF18 nF19 nF20:Nat} {yF0 yF1 yF2 yF3 yF4 yF5 yF6 yF7 yF8 yF9 yF10 yF11 yF12 yF13 yF14 yF15 yF16 yF17 yF18 yF19 yF20:Addr} {enK:Nat} {wK0 wK1 wK2 wK3 wK4 wK5 wK6 wK7 wK8 wK9:Tok} {xKW:Addr} {hLE0 hLE1 hLE2 hLE3 hLE4 hLE5:Int} {uLE0 uLE1 uLE2 uLE3 uLE4 uLE5:Tok} {epLE:Nat} {xLE yLE3 yLE4 yLE5:Addr} {hDE0 hDE1 hDE2 hDE3 hDE4 hDE5 hDE6 hDE7 hDE8 hDE9 hDE10 hDE11 hDE12 hDE13 hDE14:Int} {uDE0 uDE1 uDE2 uDE3 uDE4 uDE5 uDE6 uDE7 uDE8 uDE9 uDE10 uDE11 uDE12 uDE13 uDE14:Tok} {epDE:Nat} {xDE yDE4 yDE5 yDE7 yDE8 yDE9 yDE10 yDE11 yDE12 yDE13 yDE14:Addr} {nd31:Nat} {xd31:Addr} (X:K.In h) (G:h.Ns mainGlobals mg) (hfa:mg "law"=some (.ref fa))
  {od0 an0 od1 an1 od2 an2 od3 an3 od4 an4 od5 an5 od6 an6 od7 an7 od8 an8 od9 an9 od10 an10 od11 an11 od12 an12 od13 an13 od14 an14 od15 an15 od16 an16 od17 an17 od18 an18 od19 an19 od20 an20 od21 an21 od22 an22 od23 an23 od24 an24 od25 an25 od26 an26 od27 an27 od28 an28 od29 an29 od30 an30 od31 an31 od32 an32 od33 an33 od34 an34 od35 an35 od36 an36 od37 an37 od38 an38 od39 an39 od40 an40 od41 an41 od42 an42:Option Addr} {sl0 sl1 sl2 sl3 sl4 sl5 sl6 sl7 sl8 sl9 sl10 sl11 sl12 sl13 sl14 sl15 sl16 sl17 sl18 sl19 sl20 sl21 sl22 sl23 sl24 sl25 sl26 sl27 sl28 sl29 sl30 sl31 sl32 sl33 sl34 sl35 sl36 sl37 sl38 sl39 sl40 sl41 sl42:Array (Option Value)} {oc0 kV0 dc0 pm0 cd0 ct0 oc1 kV1 dc1 pm1 cd1 ct1 oc2 kV2 dc2 pm2 cd2 ct2 oc3 kV3 dc3 pm3 cd3 ct3 oc4 kV4 dc4 pm4 cd4 ct4 oc5 kV5 dc5 pm5 cd5 ct5 oc6 kV6 dc6 pm6 cd6 ct6 oc7 kV7 dc7 pm7 cd7 ct7 oc8 kV8 dc8 pm8 cd8 ct8 oc9 kV9 dc9 pm9 cd9 ct9 oc10 kV10 dc10 pm10 cd10 ct10 oc11 kV11 dc11 pm11 cd11 ct11 oc12 kV12 dc12 pm12 cd12 ct12 oc13 kV13 dc13 pm13 cd13 ct13 oc14 kV14 dc14 pm14 cd14 ct14 oc15 kV15 dc15 pm15 cd15 ct15 oc16 kV16 dc16 pm16 cd16 ct16 oc17 kV17 dc17 pm17 cd17 ct17 oc18 kV18 dc18 pm18 cd18 ct18 oc19 kV19 dc19 pm19 cd19 ct19 oc20 kV20 dc20 pm20 cd20 ct20 oc21 kV21 dc21 pm21 cd21 ct21 oc22 kV22 dc22 pm22 cd22 ct22 oc23 kV23 dc23 pm23 cd23 ct23 oc24 kV24 dc24 pm24 cd24 ct24 oc25 kV25 dc25 pm25 cd25 ct25 oc26 kV26 dc26 pm26 cd26 ct26 oc27 kV27 dc27 pm27 cd27 ct27 oc28 kV28 dc28 pm28 cd28 ct28 oc29 kV29 dc29 pm29 cd29 ct29 oc30 kV30 dc30 pm30 cd30 ct30 oc31 kV31 dc31 pm31 cd31 ct31 oc32 kV32 dc32 pm32 cd32 ct32 oc33 kV33 dc33 pm33 cd33 ct33 oc34 kV34 dc34 pm34 cd34 ct34 oc35 kV35 dc35 pm35 cd35 ct35 oc36 kV36 dc36 pm36 cd36 ct36 oc37 kV37 dc37 pm37 cd37 ct37 oc38 kV38 dc38 pm38 cd38 ct38 oc39 kV39 dc39 pm39 cd39 ct39 oc40 kV40 dc40 pm40 cd40 ct40 oc41 kV41 dc41 pm41 cd41 ct41 oc42 kV42 dc42 pm42 cd42 ct42:Value} {tk0 tk1 tk2 tk3 tk4 tk5 tk6 tk7:Tok}
  (n_C:nsIn K mainGlobals "Memory"=some (some (.ref xC)))
  (n_SC:nsIn K mainGlobals "Shelf"=some (some (.ref xSC)))
  (n_PL:nsIn K mainGlobals "Plain"=some (some (.ref xPL)))
  (n_WC:nsIn K mainGlobals "Ways"=some (some (.ref xWC)))
  (n_NP:nsIn K mainGlobals "NoPage"=some (some (.ref xNP)))
  (n_NL:nsIn K mainGlobals "NoPlace"=some (some (.ref xNL)))
  (n_NW:nsIn K mainGlobals "NoWord"=some (some (.ref xNW)))
  (n_NI:nsIn K mainGlobals "NoImage"=some (some (.ref xNI)))
  (n_FA:nsIn K mainGlobals "Fault"=some (some (.ref xFA)))
  (n_MC:nsIn K mainGlobals "Machine"=some (some (.ref xMC)))
  (a0:nsIn K mainGlobals "is_whole"=some (some (.ref f0)))
  (l0:K.lookup f0=some ⟨oc0,od0,.func (fnOf "is_whole" "is_whole" (Ab4 Ai7) (Ab1 Ai7) (Aa1 Ai7) .none kV0 dc0 pm0 an0 cd0 ct0),sl0⟩)
  (c0:codeIn K cd0 "is_whole"=true)
  (k0:keepIn K (.ref f0)=true)
  (a1:nsIn K mainGlobals "is_below"=some (some (.ref f1)))
  (l1:K.lookup f1=some ⟨oc1,od1,.func (fnOf "is_below" "is_below" (Ab4 Ai0) (Ab1 Ai0) (Aa1 Ai0) .none kV1 dc1 pm1 an1 cd1 ct1),sl1⟩)
  (c1:codeIn K cd1 "is_below"=true)
  (k1:keepIn K (.ref f1)=true)
  (a2:nsIn K mainGlobals "is_word"=some (some (.ref f2)))
  (l2:K.lookup f2=some ⟨oc2,od2,.func (fnOf "is_word" "is_word" (Ab4 At8) (Ab1 At8) (Aa1 At8) .none kV2 dc2 pm2 an2 cd2 ct2),sl2⟩)
  (c2:codeIn K cd2 "is_word"=true)
  (k2:keepIn K (.ref f2)=true)
  (a3:nsIn K mainGlobals "is_eight_words"=some (some (.ref f3)))
  (l3:K.lookup f3=some ⟨oc3,od3,.func (fnOf "is_eight_words" "is_eight_words" (Ab4 Ak8) (Ab1 Ak8) (Aa1 Ak8) .none kV3 dc3 pm3 an3 cd3 ct3),sl3⟩)
  (c3:codeIn K cd3 "is_eight_words"=true)
  (k3:keepIn K (.ref f3)=true)
  (a4:nsIn K mainGlobals "check_image"=some (some (.ref f4)))
  (l4:K.lookup f4=some ⟨oc4,od4,.func (fnOf "check_image" "check_image" (Ab4 Ak7) (Ab1 Ak7) (Aa1 Ak7) .none kV4 dc4 pm4 an4 cd4 ct4),sl4⟩)
  (c4:codeIn K cd4 "check_image"=true)
  (k4:keepIn K (.ref f4)=true)
  (a5:findIn K (.ref xC) "__init__"=some (some (.ref f5)))
  (l5:K.lookup f5=some ⟨oc5,od5,.func (fnOf "__init__" "Memory.__init__" (Ab4 Az5) (Ab1 Az5) (Aa1 Az5) .none kV5 dc5 pm5 an5 cd5 ct5),sl5⟩)
  (c5:codeIn K cd5 "Memory.__init__"=true)
  (k5:keepIn K (.ref f5)=true)
  (a6:findIn K (.ref xSC) "__init__"=some (some (.ref f6)))
  (l6:K.lookup f6=some ⟨oc6,od6,.func (fnOf "__init__" "Shelf.__init__" (Ab4 An2) (Ab1 An2) (Aa1 An2) .none kV6 dc6 pm6 an6 cd6 ct6),sl6⟩)
  (c6:codeIn K cd6 "Shelf.__init__"=true)
  (k6:keepIn K (.ref f6)=true)
  (a7:findCls K (.ref xWC) (.type "type") "__init__"=some (.val (.ref f7)))
  (l7:K.lookup f7=some ⟨oc7,od7,.func (fnOf "__init__" "Ways.__init__" (Ab4 An1) (Ab1 An1) (Aa1 An1) .none kV7 dc7 pm7 an7 cd7 ct7),sl7⟩)
  (c7:codeIn K cd7 "Ways.__init__"=true)
  (k7:keepIn K (.ref f7)=true)
  (a8:findIn K (.ref xPL) "__init__"=some (some (.ref f8)))
  (l8:K.lookup f8=some ⟨oc8,od8,.func (fnOf "__init__" "Plain.__init__" (Ab4 An3) (Ab1 An3) (Aa1 An3) .none kV8 dc8 pm8 an8 cd8 ct8),sl8⟩)
  (c8:codeIn K cd8 "Plain.__init__"=true)
  (k8:keepIn K (.ref f8)=true)
  (a9:nsIn K mainGlobals "bound_of"=some (some (.ref f9)))
  (l9:K.lookup f9=some ⟨oc9,od9,.func (fnOf "bound_of" "bound_of" (Ab4 Al1) (Ab1 Al1) (Aa1 Al1) .none kV9 dc9 pm9 an9 cd9 ct9),sl9⟩)
  (c9:codeIn K cd9 "bound_of"=true)
  (k9:keepIn K (.ref f9)=true)
  (a10:nsIn K mainGlobals "is_order"=some (some (.ref f10)))
  (l10:K.lookup f10=some ⟨oc10,od10,.func (fnOf "is_order" "is_order" (Ab4 Ak3) (Ab1 Ak3) (Aa1 Ak3) .none kV10 dc10 pm10 an10 cd10 ct10),sl10⟩)
  (c10:codeIn K cd10 "is_order"=true)
  (k10:keepIn K (.ref f10)=true)
  (a11:nsIn K mainGlobals "checked"=some (some (.ref f11)))
  (l11:K.lookup f11=some ⟨oc11,od11,.func (fnOf "checked" "checked" (Ab4 sChk) (Ab1 sChk) (Aa1 sChk) .none kV11 dc11 pm11 an11 cd11 ct11),sl11⟩)
  (c11:codeIn K cd11 "checked"=true)
  (k11:keepIn K (.ref f11)=true)
  (a12:nsIn K mainGlobals "word_of"=some (some (.ref f12)))
  (l12:K.lookup f12=some ⟨oc12,od12,.func (fnOf "word_of" "word_of" (Ab4 sWOf) (Ab1 sWOf) (Aa1 sWOf) .none kV12 dc12 pm12 an12 cd12 ct12),sl12⟩)
  (c12:codeIn K cd12 "word_of"=true)
  (k12:keepIn K (.ref f12)=true)
  (a13:nsIn K mainGlobals "plus"=some (some (.ref f13)))
  (l13:K.lookup f13=some ⟨oc13,od13,.func (fnOf "plus" "plus" (Ab4 Au0) (Ab1 Au0) (Aa1 Au0) .none kV13 dc13 pm13 an13 cd13 ct13),sl13⟩)
  (c13:codeIn K cd13 "plus"=true)
  (k13:keepIn K (.ref f13)=true)
  (a14:nsIn K mainGlobals "both"=some (some (.ref f14)))
  (l14:K.lookup f14=some ⟨oc14,od14,.func (fnOf "both" "both" (Ab4 Au8) (Ab1 Au8) (Aa1 Au8) .none kV14 dc14 pm14 an14 cd14 ct14),sl14⟩)
  (c14:codeIn K cd14 "both"=true)
  (k14:keepIn K (.ref f14)=true)
  (a15:nsIn K mainGlobals "odd"=some (some (.ref f15)))
  (l15:K.lookup f15=some ⟨oc15,od15,.func (fnOf "odd" "odd" (Ab4 sOdd) (Ab1 sOdd) (Aa1 sOdd) .none kV15 dc15 pm15 an15 cd15 ct15),sl15⟩)
  (c15:codeIn K cd15 "odd"=true)
  (k15:keepIn K (.ref f15)=true)
  (a16:nsIn K mainGlobals "do_set"=some (some (.ref f16)))
  (l16:K.lookup f16=some ⟨oc16,od16,.func (fnOf "do_set" "do_set" (Ab4 Au3) (Ab1 Au3) (Aa1 Au3) .none kV16 dc16 pm16 an16 cd16 ct16),sl16⟩)
  (c16:codeIn K cd16 "do_set"=true)
  (k16:keepIn K (.ref f16)=true)
  (a17:nsIn K mainGlobals "do_add"=some (some (.ref f17)))
  (l17:K.lookup f17=some ⟨oc17,od17,.func (fnOf "do_add" "do_add" (Ab4 Au5) (Ab1 Au5) (Aa1 Au5) .none kV17 dc17 pm17 an17 cd17 ct17),sl17⟩)
  (c17:codeIn K cd17 "do_add"=true)
  (k17:keepIn K (.ref f17)=true)
  (a18:nsIn K mainGlobals "do_both"=some (some (.ref f18)))
  (l18:K.lookup f18=some ⟨oc18,od18,.func (fnOf "do_both" "do_both" (Ab4 Al0) (Ab1 Al0) (Aa1 Al0) .none kV18 dc18 pm18 an18 cd18 ct18),sl18⟩)
  (c18:codeIn K cd18 "do_both"=true)
  (k18:keepIn K (.ref f18)=true)
  (a19:nsIn K mainGlobals "do_odd"=some (some (.ref f19)))
  (l19:K.lookup f19=some ⟨oc19,od19,.func (fnOf "do_odd" "do_odd" (Ab4 Au4) (Ab1 Au4) (Aa1 Au4) .none kV19 dc19 pm19 an19 cd19 ct19),sl19⟩)
  (c19:codeIn K cd19 "do_odd"=true)
  (k19:keepIn K (.ref f19)=true)
  (a20:nsIn K mainGlobals "do_tell"=some (some (.ref f20)))
  (l20:K.lookup f20=some ⟨oc20,od20,.func (fnOf "do_tell" "do_tell" (Ab4 Ak9) (Ab1 Ak9) (Aa1 Ak9) .none kV20 dc20 pm20 an20 cd20 ct20),sl20⟩)
  (c20:codeIn K cd20 "do_tell"=true)
  (k20:keepIn K (.ref f20)=true)
  (a21:nsIn K mainGlobals "lead_jump"=some (some (.ref f21)))
  (l21:K.lookup f21=some ⟨oc21,od21,.func (fnOf "lead_jump" "lead_jump" (Ab4 Ak5) (Ab1 Ak5) (Aa1 Ak5) .none kV21 dc21 pm21 an21 cd21 ct21),sl21⟩)
  (c21:codeIn K cd21 "lead_jump"=true)
  (k21:keepIn K (.ref f21)=true)
  (a22:nsIn K mainGlobals "lead_nought"=some (some (.ref f22)))
  (l22:K.lookup f22=some ⟨oc22,od22,.func (fnOf "lead_nought" "lead_nought" (Ab4 Au2) (Ab1 Au2) (Aa1 Au2) .none kV22 dc22 pm22 an22 cd22 ct22),sl22⟩)
  (c22:codeIn K cd22 "lead_nought"=true)
  (k22:keepIn K (.ref f22)=true)
  (a23:nsIn K mainGlobals "lead_halt"=some (some (.ref f23)))
  (l23:K.lookup f23=some ⟨oc23,od23,.func (fnOf "lead_halt" "lead_halt" (Ab4 Ak6) (Ab1 Ak6) (Aa1 Ak6) .none kV23 dc23 pm23 an23 cd23 ct23),sl23⟩)
  (c23:codeIn K cd23 "lead_halt"=true)
  (k23:keepIn K (.ref f23)=true)
  (a24:findIn K (.ref xMC) "arrive"=some (some (.ref f24)))
  (l24:K.lookup f24=some ⟨oc24,od24,.func (fnOf "arrive" "Machine.arrive" (Ab4 sArr) (Ab1 sArr) (Aa1 sArr) .none kV24 dc24 pm24 an24 cd24 ct24),sl24⟩)
  (c24:codeIn K cd24 "Machine.arrive"=true)
  (k24:keepIn K (.ref f24)=true)
  (a25:findIn K (.ref xMC) "obey"=some (some (.ref f25)))
  (l25:K.lookup f25=some ⟨oc25,od25,.func (fnOf "obey" "Machine.obey" (Ab4 Au1) (Ab1 Au1) (Aa1 Au1) .none kV25 dc25 pm25 an25 cd25 ct25),sl25⟩)
  (c25:codeIn K cd25 "Machine.obey"=true)
  (k25:keepIn K (.ref f25)=true)
  (a26:findIn K (.ref xMC) "step"=some (some (.ref f26)))
  (l26:K.lookup f26=some ⟨oc26,od26,.func (fnOf "step" "Machine.step" (Ab4 Ak1) (Ab1 Ak1) (Aa1 Ak1) .none kV26 dc26 pm26 an26 cd26 ct26),sl26⟩)
  (c26:codeIn K cd26 "Machine.step"=true)
  (k26:keepIn K (.ref f26)=true)
  (a27:findIn K (.ref xMC) "turn"=some (some (.ref f27)))
  (l27:K.lookup f27=some ⟨oc27,od27,.func (fnOf "turn" "Machine.turn" (Ab4 Ak0) (Ab1 Ak0) (Aa1 Ak0) .none kV27 dc27 pm27 an27 cd27 ct27),sl27⟩)
  (c27:codeIn K cd27 "Machine.turn"=true)
  (k27:keepIn K (.ref f27)=true)
  (a28:findIn K (.ref xMC) "core"=some (some (.ref f28)))
  (l28:K.lookup f28=some ⟨oc28,od28,.func (fnOf "core" "Machine.core" (Ab4 Au6) (Ab1 Au6) (Aa1 Au6) .none kV28 dc28 pm28 an28 cd28 ct28),sl28⟩)
  (c28:codeIn K cd28 "Machine.core"=true)
  (k28:keepIn K (.ref f28)=true)
  (a29:findIn K (.ref xMC) "events"=some (some (.ref f29)))
  (l29:K.lookup f29=some ⟨oc29,od29,.func (fnOf "events" "Machine.events" (Ab4 sEvs) (Ab1 sEvs) (Aa1 sEvs) .none kV29 dc29 pm29 an29 cd29 ct29),sl29⟩)
  (c29:codeIn K cd29 "Machine.events"=true)
  (k29:keepIn K (.ref f29)=true)
  (a30:nsIn K mainGlobals "first_core"=some (some (.ref f30)))
  (l30:K.lookup f30=some ⟨oc30,od30,.func (fnOf "first_core" "first_core" (Ab4 sFst) (Ab1 sFst) (Aa1 sFst) .none kV30 dc30 pm30 an30 cd30 ct30),sl30⟩)
  (c30:codeIn K cd30 "first_core"=true)
  (k30:keepIn K (.ref f30)=true)
  (a31:findIn K (.ref xMC) "__init__"=some (some (.ref f31)))
  (l31:K.lookup f31=some ⟨oc31,od31,.func (fnOf "__init__" "Machine.__init__" (Ab4 An4) (Ab1 An4) (Aa1 An4) (.ref xd31) kV31 dc31 pm31 an31 cd31 ct31),sl31⟩)
  (c31:codeIn K cd31 "Machine.__init__"=true)
  (k31:keepIn K (.ref f31)=true)
  (ld31:K.lookup xd31=some { cls:=.type "tuple",data:=.seq #[.none,.none] nd31 })
  (a32:nsIn K mainGlobals "bare"=some (some (.ref f32)))
  (l32:K.lookup f32=some ⟨oc32,od32,.func (fnOf "bare" "bare" (Ab4 Au9) (Ab1 Au9) (Aa1 Au9) .none kV32 dc32 pm32 an32 cd32 ct32),sl32⟩)
  (c32:codeIn K cd32 "bare"=true)
  (k32:keepIn K (.ref f32)=true)
  (a33:nsIn K mainGlobals "_law_cell_at"=some (some (.ref f33)))
  (l33:K.lookup f33=some ⟨oc33,od33,.func (fnOf "_law_cell_at" "_law_cell_at" (Ab4 Au7) (Ab1 Au7) (Aa1 Au7) .none kV33 dc33 pm33 an33 cd33 ct33),sl33⟩)
  (c33:codeIn K cd33 "_law_cell_at"=true)
  (k33:keepIn K (.ref f33)=true)
  (a34:nsIn K mainGlobals "_law_mix"=some (some (.ref f34)))
  (l34:K.lookup f34=some ⟨oc34,od34,.func (fnOf "_law_mix" "_law_mix" (Ab4 sMix) (Ab1 sMix) (Aa1 sMix) .none kV34 dc34 pm34 an34 cd34 ct34),sl34⟩)
  (c34:codeIn K cd34 "_law_mix"=true)
  (k34:keepIn K (.ref f34)=true)
  (a35:nsIn K mainGlobals "_law_whole"=some (some (.ref f35)))
  (l35:K.lookup f35=some ⟨oc35,od35,.func (fnOf "_law_whole" "_law_whole" (Ab4 Ag5) (Ab1 Ag5) (Aa1 Ag5) .none kV35 dc35 pm35 an35 cd35 ct35),sl35⟩)
  (c35:codeIn K cd35 "_law_whole"=true)
  (k35:keepIn K (.ref f35)=true)
  (a36:nsIn K mainGlobals "_law_row"=some (some (.ref f36)))
  (l36:K.lookup f36=some ⟨oc36,od36,.func (fnOf "_law_row" "_law_row" (Ab4 Ak2) (Ab1 Ak2) (Aa1 Ak2) .none kV36 dc36 pm36 an36 cd36 ct36),sl36⟩)
  (c36:codeIn K cd36 "_law_row"=true)
  (k36:keepIn K (.ref f36)=true)
  (a37:nsIn K mainGlobals "_law_do"=some (some (.ref f37)))
  (l37:K.lookup f37=some ⟨oc37,od37,.func (fnOf "_law_do" "_law_do" (Ab4 sDoL) (Ab1 sDoL) (Aa1 sDoL) .none kV37 dc37 pm37 an37 cd37 ct37),sl37⟩)
  (c37:codeIn K cd37 "_law_do"=true)
  (k37:keepIn K (.ref f37)=true)
  (a38:nsIn K mainGlobals "_law_next"=some (some (.ref f38)))
  (l38:K.lookup f38=some ⟨oc38,od38,.func (fnOf "_law_next" "_law_next" (Ab4 Ak4) (Ab1 Ak4) (Aa1 Ak4) .none kV38 dc38 pm38 an38 cd38 ct38),sl38⟩)
  (c38:codeIn K cd38 "_law_next"=true)
  (k38:keepIn K (.ref f38)=true)
  (a39:nsIn K mainGlobals "_law_run"=some (some (.ref f39)))
  (l39:K.lookup f39=some ⟨oc39,od39,.func (fnOf "_law_run" "_law_run" (Ab4 At9) (Ab1 At9) (Aa1 At9) .none kV39 dc39 pm39 an39 cd39 ct39),sl39⟩)
  (c39:codeIn K cd39 "_law_run"=true)
  (k39:keepIn K (.ref f39)=true)
  (a40:nsIn K mainGlobals "_law_is_core"=some (some (.ref f40)))
  (l40:K.lookup f40=some ⟨oc40,od40,.func (fnOf "_law_is_core" "_law_is_core" (Ab4 sIsC) (Ab1 sIsC) (Aa1 sIsC) .none kV40 dc40 pm40 an40 cd40 ct40),sl40⟩)
  (c40:codeIn K cd40 "_law_is_core"=true)
  (k40:keepIn K (.ref f40)=true)
  (a41:nsIn K mainGlobals "_law_are_events"=some (some (.ref f41)))
  (l41:K.lookup f41=some ⟨oc41,od41,.func (fnOf "_law_are_events" "_law_are_events" (Ab4 Av0) (Ab1 Av0) (Aa1 Av0) .none kV41 dc41 pm41 an41 cd41 ct41),sl41⟩)
  (c41:codeIn K cd41 "_law_are_events"=true)
  (k41:keepIn K (.ref f41)=true)
  (a42:nsIn K mainGlobals "law"=some (some (.ref f42)))
  (l42:K.lookup f42=some ⟨oc42,od42,.func (fnOf "law" "law" (Ab4 sLaw) (Ab1 sLaw) (Aa1 sLaw) .none kV42 dc42 pm42 an42 cd42 ct42),sl42⟩)
  (c42:codeIn K cd42 "law"=true)
  (k42:keepIn K (.ref f42)=true)
  (v0:nsIn K mainGlobals "WORDS"=some (some (.int 281474976710656 tk0)))
  (v1:nsIn K mainGlobals "CELLS"=some (some (.int 8 tk1)))
  (v2:nsIn K mainGlobals "MOST_PAGES"=some (some (.int 24 tk2)))
  (v3:nsIn K mainGlobals "SEATS"=some (some (.int 12 tk3)))
  (v4:nsIn K mainGlobals "REGISTERS"=some (some (.int 4 tk4)))
  (v5:nsIn K mainGlobals "ENTRIES"=some (some (.int 61 tk5)))
  (v6:nsIn K mainGlobals "ORDERS"=some (some (.int 60 tk6)))
  (v7:nsIn K mainGlobals "STEPS"=some (some (.int 501 tk7)))
  (z_isinstance:nsIn K mainGlobals "isinstance"=some none)
  (z_int:nsIn K mainGlobals "int"=some none)
  (z_bool:nsIn K mainGlobals "bool"=some none)
  (z_list:nsIn K mainGlobals "list"=some none)
  (z_len:nsIn K mainGlobals "len"=some none)
  (z_all:nsIn K mainGlobals "all"=some none)
  (z_range:nsIn K mainGlobals "range"=some none)
  (z_str:nsIn K mainGlobals "str"=some none)
  (z_tuple:nsIn K mainGlobals "tuple"=some none)
  (z_zip:nsIn K mainGlobals "zip"=some none)
  (z_enumerate:nsIn K mainGlobals "enumerate"=some none)
  (xi_NP:L2.excIn K xNP=true)
  (xi_NL:L2.excIn K xNL=true)
  (xi_NW:L2.excIn K xNW=true)
  (xi_NI:L2.excIn K xNI=true)
  (nh:findIn K (.ref xC) "held"=some none)
  (nmo:findIn K (.ref xSC) "most"=some none)
  (nse:findIn K (.ref xSC) "seats"=some none)
  (nme:findIn K (.ref xPL) "memory"=some none)
  (nba:findIn K (.ref xPL) "base"=some none)
  (nra:findIn K (.ref xPL) "rack"=some none)
  (nan:findIn K (.ref xPL) "answers"=some none)
  (nwys:findIn K (.ref xMC) "ways"=some none)
  (nord:findIn K (.ref xMC) "orders"=some none)
  (ngat:findIn K (.ref xMC) "gate"=some none)
  (nreg:findIn K (.ref xMC) "registers"=some none)
  (nker:findIn K (.ref xMC) "kernel"=some none)
  (nsav:findIn K (.ref xMC) "saved"=some none)
  (nhal:findIn K (.ref xMC) "halted"=some none)
  (nhap:findIn K (.ref xMC) "happened"=some none)
  (nctr:findIn K (.ref xMC) "counter"=some none)
  (nF:nsIn K mainGlobals "FORMS"=some (some (.ref xFF)))
  (lF:K.lookup xFF=some { cls:=.type "dict",data:=.dict #[⟨hF0,.str "set" uF0,.ref yF0⟩,⟨hF1,.str "add" uF1,.ref yF1⟩,⟨hF2,.str "both" uF2,.ref yF2⟩,⟨hF3,.str "odd" uF3,.ref yF3⟩,⟨hF4,.str "load" uF4,.ref yF4⟩,⟨hF5,.str "save" uF5,.ref yF5⟩,⟨hF6,.str "jump" uF6,.ref yF6⟩,⟨hF7,.str "nought" uF7,.ref yF7⟩,⟨hF8,.str "tell" uF8,.ref yF8⟩,⟨hF9,.str "call" uF9,.ref yF9⟩,⟨hF10,.str "halt" uF10,.ref yF10⟩,⟨hF11,.str "peek" uF11,.ref yF11⟩,⟨hF12,.str "poke" uF12,.ref yF12⟩,⟨hF13,.str "root" uF13,.ref yF13⟩,⟨hF14,.str "drop" uF14,.ref yF14⟩,⟨hF15,.str "give" uF15,.ref yF15⟩,⟨hF16,.str "want" uF16,.ref yF16⟩,⟨hF17,.str "why" uF17,.ref yF17⟩,⟨hF18,.str "back" uF18,.ref yF18⟩,⟨hF19,.str "past" uF19,.ref yF19⟩,⟨hF20,.str "user" uF20,.ref yF20⟩] epF })
  (qF0:K.lookup yF0=some { cls:=.type "tuple",data:=.seq #[.str "a" wF0,.str "word" wF1] nF0 })
  (qF1:K.lookup yF1=some { cls:=.type "tuple",data:=.seq #[.str "a" wF2,.str "b" wF3] nF1 })
  (qF2:K.lookup yF2=some { cls:=.type "tuple",data:=.seq #[.str "a" wF4,.str "b" wF5] nF2 })
  (qF3:K.lookup yF3=some { cls:=.type "tuple",data:=.seq #[.str "a" wF6,.str "b" wF7] nF3 })
  (qF4:K.lookup yF4=some { cls:=.type "tuple",data:=.seq #[.str "a" wF8,.str "b" wF9] nF4 })
  (qF5:K.lookup yF5=some { cls:=.type "tuple",data:=.seq #[.str "a" wF10,.str "b" wF11] nF5 })
  (qF6:K.lookup yF6=some { cls:=.type "tuple",data:=.seq #[.str "at" wF12] nF6 })
  (qF7:K.lookup yF7=some { cls:=.type "tuple",data:=.seq #[.str "a" wF13,.str "at" wF14] nF7 })
  (qF8:K.lookup yF8=some { cls:=.type "tuple",data:=.seq #[.str "a" wF15] nF8 })
  (qF9:K.lookup yF9=some { cls:=.type "tuple",data:=.seq #[] nF9 })
  (qF10:K.lookup yF10=some { cls:=.type "tuple",data:=.seq #[] nF10 })
  (qF11:K.lookup yF11=some { cls:=.type "tuple",data:=.seq #[.str "a" wF16,.str "b" wF17] nF11 })
  (qF12:K.lookup yF12=some { cls:=.type "tuple",data:=.seq #[.str "a" wF18,.str "b" wF19] nF12 })
  (qF13:K.lookup yF13=some { cls:=.type "tuple",data:=.seq #[.str "a" wF20] nF13 })
  (qF14:K.lookup yF14=some { cls:=.type "tuple",data:=.seq #[.str "a" wF21] nF14 })
  (qF15:K.lookup yF15=some { cls:=.type "tuple",data:=.seq #[.str "a" wF22] nF15 })
  (qF16:K.lookup yF16=some { cls:=.type "tuple",data:=.seq #[.str "a" wF23] nF16 })
  (qF17:K.lookup yF17=some { cls:=.type "tuple",data:=.seq #[.str "a" wF24,.str "b" wF25] nF17 })
  (qF18:K.lookup yF18=some { cls:=.type "tuple",data:=.seq #[] nF18 })
  (qF19:K.lookup yF19=some { cls:=.type "tuple",data:=.seq #[] nF19 })
  (qF20:K.lookup yF20=some { cls:=.type "tuple",data:=.seq #[.str "at" wF26] nF20 })
  (loF:(xFF == sysModules)=false)
  (nKW:nsIn K mainGlobals "KERNEL_WORDS"=some (some (.ref xKW)))
  (lKW:K.lookup xKW=some { cls:=.type "tuple",data:=.seq #[.str "peek" wK0,.str "poke" wK1,.str "root" wK2,.str "drop" wK3,.str "give" wK4,.str "want" wK5,.str "why" wK6,.str "back" wK7,.str "past" wK8,.str "user" wK9] enK })
  (nLE:nsIn K mainGlobals "LEADS"=some (some (.ref xLE)))
  (lLE:K.lookup xLE=some { cls:=.type "dict",data:=.dict #[⟨hLE0,.str "jump" uLE0,.ref f21⟩,⟨hLE1,.str "nought" uLE1,.ref f22⟩,⟨hLE2,.str "halt" uLE2,.ref f23⟩,⟨hLE3,.str "back" uLE3,.ref yLE3⟩,⟨hLE4,.str "past" uLE4,.ref yLE4⟩,⟨hLE5,.str "user" uLE5,.ref yLE5⟩] epLE })
  (loLE:(xLE == sysModules)=false)
  (nDE:nsIn K mainGlobals "DEEDS"=some (some (.ref xDE)))
  (lDE:K.lookup xDE=some { cls:=.type "dict",data:=.dict #[⟨hDE0,.str "set" uDE0,.ref f16⟩,⟨hDE1,.str "add" uDE1,.ref f17⟩,⟨hDE2,.str "both" uDE2,.ref f18⟩,⟨hDE3,.str "odd" uDE3,.ref f19⟩,⟨hDE4,.str "load" uDE4,.ref yDE4⟩,⟨hDE5,.str "save" uDE5,.ref yDE5⟩,⟨hDE6,.str "tell" uDE6,.ref f20⟩,⟨hDE7,.str "call" uDE7,.ref yDE7⟩,⟨hDE8,.str "peek" uDE8,.ref yDE8⟩,⟨hDE9,.str "poke" uDE9,.ref yDE9⟩,⟨hDE10,.str "root" uDE10,.ref yDE10⟩,⟨hDE11,.str "drop" uDE11,.ref yDE11⟩,⟨hDE12,.str "give" uDE12,.ref yDE12⟩,⟨hDE13,.str "want" uDE13,.ref yDE13⟩,⟨hDE14,.str "why" uDE14,.ref yDE14⟩] epDE })
  (loDE:(xDE == sysModules)=false)
  (i5:isFn K (.ref f5)=true)
  (i6:isFn K (.ref f6)=true)
  (i8:isFn K (.ref f8)=true)
  (i24:isFn K (.ref f24)=true)
  (i25:isFn K (.ref f25)=true)
  (i26:isFn K (.ref f26)=true)
  (i27:isFn K (.ref f27)=true)
  (i28:isFn K (.ref f28)=true)
  (i29:isFn K (.ref f29)=true)
  (i31:isFn K (.ref f31)=true)
  (pg_C:plainGet K xC Str.empty=true)
  (hd_C:hasDictIn K xC=true)
  (po_C:plainOver K xC=true)
  (sa_C:findIn K (.ref xC) "__setattr__"=some (some (.builtin "object.__setattr__")))
  (pg_MC:plainGet K xMC Str.empty=true)
  (hd_MC:hasDictIn K xMC=true)
  (po_MC:plainOver K xMC=true)
  (sa_MC:findIn K (.ref xMC) "__setattr__"=some (some (.builtin "object.__setattr__")))
  (pg_PL:plainGet K xPL Str.empty=true)
  (hd_PL:hasDictIn K xPL=true)
  (po_PL:plainOver K xPL=true)
  (sa_PL:findIn K (.ref xPL) "__setattr__"=some (some (.builtin "object.__setattr__")))
  (pg_SC:plainGet K xSC Str.empty=true)
  (hd_SC:hasDictIn K xSC=true)
  (po_SC:plainOver K xSC=true)
  (sa_SC:findIn K (.ref xSC) "__setattr__"=some (some (.builtin "object.__setattr__")))
  (mk_C:makesIn K xC=true)
  (kc_C:keepIn K (.ref xC)=true)
  (mk_MC:makesIn K xMC=true)
  (kc_MC:keepIn K (.ref xMC)=true)
  (mk_PL:makesIn K xPL=true)
  (kc_PL:keepIn K (.ref xPL)=true)
  (mk_SC:makesIn K xSC=true)
  (kc_SC:keepIn K (.ref xSC)=true)
  (sp_WC:specialIn K (.ref xWC) "__getattribute__"=some (some (.builtin "type.__getattribute__")))
  (rd_WC:readsIn K xWC (.type "type")=true)
  : ∃ fd:FuncData,(∀ (s:Shared) (v:Value),BindsTo s fd ⟨[v],[]⟩ [("_law_script",v)])/\∀ base:Heap,K.In base->base.Ns mainGlobals mg->FnOk l.prog w K mg base CX0 11 fa fd ["_law_script"] (Bh0 K):=by
 have e:=hfa.symm.trans (mg_of X G a42)
 cases e
 have F0:=Ac5 (st:=Ai7) l0 c0 k0
 have D0:Dn K mg _ _ _ _ _:=⟨F0,mg_of X G a0,F0.binds (ps:=["thing"]) λ_ _ _ _ _ _ us hl=>ba1 (λ_=>rfl) us hl⟩
 have F1:=Ac5 (st:=Ai0) l1 c1 k1
 have D1:Dn K mg _ _ _ _ _:=⟨F1,mg_of X G a1,F1.binds (ps:=["thing","bound"]) λ_ _ _ _ _ _ us hl=>ba2 (λ_ _=>rfl) us hl⟩
 have F2:=Ac5 (st:=At8) l2 c2 k2
 have D2:Dn K mg _ _ _ _ _:=⟨F2,mg_of X G a2,F2.binds (ps:=["thing"]) λ_ _ _ _ _ _ us hl=>ba1 (λ_=>rfl) us hl⟩
 have F3:=Ac5 (st:=Ak8) l3 c3 k3
 have D3:Dn K mg _ _ _ _ _:=⟨F3,mg_of X G a3,F3.binds (ps:=["thing"]) λ_ _ _ _ _ _ us hl=>ba1 (λ_=>rfl) us hl⟩
 have F4:=Ac5 (st:=Ak7) l4 c4 k4
 have D4:Dn K mg _ _ _ _ _:=⟨F4,mg_of X G a4,F4.binds (ps:=["pages"]) λ_ _ _ _ _ _ us hl=>ba1 (λ_=>rfl) us hl⟩
 have F5:=Ac5 (st:=Az5) l5 c5 k5
 have B5:=F5.binds (ps:=["self","pages"]) λ_ _ _ _ _ _ us hl=>ba2 (λ_ _=>rfl) us hl
 have F6:=Ac5 (st:=An2) l6 c6 k6
 have B6:=F6.binds (ps:=["self","most"]) λ_ _ _ _ _ _ us hl=>ba2 (λ_ _=>rfl) us hl
 have F7:=Ac5 (st:=An1) l7 c7 k7
 have B7:=F7.binds (ps:=["self","most"]) λ_ _ _ _ _ _ us hl=>ba2 (λ_ _=>rfl) us hl
 have F8:=Ac5 (st:=An3) l8 c8 k8
 have B8:=F8.binds (ps:=["self","pages","most","words"]) λ_ _ _ _ _ _ us hl=>ba4 (λ_ _ _ _=>rfl) us hl
 have F9:=Ac5 (st:=Al1) l9 c9 k9
 have D9:Dn K mg _ _ _ _ _:=⟨F9,mg_of X G a9,F9.binds (ps:=["part"]) λ_ _ _ _ _ _ us hl=>ba1 (λ_=>rfl) us hl⟩
 have F10:=Ac5 (st:=Ak3) l10 c10 k10
 have D10:Dn K mg _ _ _ _ _:=⟨F10,mg_of X G a10,F10.binds (ps:=["thing"]) λ_ _ _ _ _ _ us hl=>ba1 (λ_=>rfl) us hl⟩
 have F11:=Ac5 (st:=sChk) l11 c11 k11
 have D11:Dn K mg _ _ _ _ _:=⟨F11,mg_of X G a11,F11.binds (ps:=["program","entry"]) λ_ _ _ _ _ _ us hl=>ba2 (λ_ _=>rfl) us hl⟩
 have F12:=Ac5 (st:=sWOf) l12 c12 k12
 have D12:Dn K mg _ _ _ _ _:=⟨F12,mg_of X G a12,F12.binds (ps:=["number"]) λ_ _ _ _ _ _ us hl=>ba1 (λ_=>rfl) us hl⟩
 have F13:=Ac5 (st:=Au0) l13 c13 k13
 have D13:Dn K mg _ _ _ _ _:=⟨F13,mg_of X G a13,F13.binds (ps:=["one","other"]) λ_ _ _ _ _ _ us hl=>ba2 (λ_ _=>rfl) us hl⟩
 have F14:=Ac5 (st:=Au8) l14 c14 k14
 have D14:Dn K mg _ _ _ _ _:=⟨F14,mg_of X G a14,F14.binds (ps:=["one","other"]) λ_ _ _ _ _ _ us hl=>ba2 (λ_ _=>rfl) us hl⟩
 have F15:=Ac5 (st:=sOdd) l15 c15 k15
 have D15:Dn K mg _ _ _ _ _:=⟨F15,mg_of X G a15,F15.binds (ps:=["one","other"]) λ_ _ _ _ _ _ us hl=>ba2 (λ_ _=>rfl) us hl⟩
 have F16:=Ac5 (st:=Au3) l16 c16 k16
 have D16:Dn K mg _ _ _ _ _:=⟨F16,mg_of X G a16,F16.binds (ps:=["machine","row"]) λ_ _ _ _ _ _ us hl=>ba2 (λ_ _=>rfl) us hl⟩
 have F17:=Ac5 (st:=Au5) l17 c17 k17
 have D17:Dn K mg _ _ _ _ _:=⟨F17,mg_of X G a17,F17.binds (ps:=["machine","row"]) λ_ _ _ _ _ _ us hl=>ba2 (λ_ _=>rfl) us hl⟩
 have F18:=Ac5 (st:=Al0) l18 c18 k18
 have D18:Dn K mg _ _ _ _ _:=⟨F18,mg_of X G a18,F18.binds (ps:=["machine","row"]) λ_ _ _ _ _ _ us hl=>ba2 (λ_ _=>rfl) us hl⟩
 have F19:=Ac5 (st:=Au4) l19 c19 k19
 have D19:Dn K mg _ _ _ _ _:=⟨F19,mg_of X G a19,F19.binds (ps:=["machine","row"]) λ_ _ _ _ _ _ us hl=>ba2 (λ_ _=>rfl) us hl⟩
 have F20:=Ac5 (st:=Ak9) l20 c20 k20
 have D20:Dn K mg _ _ _ _ _:=⟨F20,mg_of X G a20,F20.binds (ps:=["machine","row"]) λ_ _ _ _ _ _ us hl=>ba2 (λ_ _=>rfl) us hl⟩
 have F21:=Ac5 (st:=Ak5) l21 c21 k21
 have D21:Dn K mg _ _ _ _ _:=⟨F21,mg_of X G a21,F21.binds (ps:=["machine","row"]) λ_ _ _ _ _ _ us hl=>ba2 (λ_ _=>rfl) us hl⟩
 have F22:=Ac5 (st:=Au2) l22 c22 k22
 have D22:Dn K mg _ _ _ _ _:=⟨F22,mg_of X G a22,F22.binds (ps:=["machine","row"]) λ_ _ _ _ _ _ us hl=>ba2 (λ_ _=>rfl) us hl⟩
 have F23:=Ac5 (st:=Ak6) l23 c23 k23
 have D23:Dn K mg _ _ _ _ _:=⟨F23,mg_of X G a23,F23.binds (ps:=["machine","row"]) λ_ _ _ _ _ _ us hl=>ba2 (λ_ _=>rfl) us hl⟩
 have F24:=Ac5 (st:=sArr) l24 c24 k24
 have B24:=F24.binds (ps:=["self","counter"]) λ_ _ _ _ _ _ us hl=>ba2 (λ_ _=>rfl) us hl
 have F25:=Ac5 (st:=Au1) l25 c25 k25
 have B25:=F25.binds (ps:=["self","row"]) λ_ _ _ _ _ _ us hl=>ba2 (λ_ _=>rfl) us hl
 have F26:=Ac5 (st:=Ak1) l26 c26 k26
 have B26:=F26.binds (ps:=["self"]) λ_ _ _ _ _ _ us hl=>ba1 (λ_=>rfl) us hl
 have F27:=Ac5 (st:=Ak0) l27 c27 k27
 have B27:=F27.binds (ps:=["self","steps"]) λ_ _ _ _ _ _ us hl=>ba2 (λ_ _=>rfl) us hl
 have F28:=Ac5 (st:=Au6) l28 c28 k28
 have B28:=F28.binds (ps:=["self"]) λ_ _ _ _ _ _ us hl=>ba1 (λ_=>rfl) us hl
 have F29:=Ac5 (st:=sEvs) l29 c29 k29
 have B29:=F29.binds (ps:=["self"]) λ_ _ _ _ _ _ us hl=>ba1 (λ_=>rfl) us hl
 have F30:=Ac5 (st:=sFst) l30 c30 k30
 have D30:Dn K mg _ _ _ _ _:=⟨F30,mg_of X G a30,F30.binds (ps:=[]) λ_ _ _ _ _ _ us hl=>match us,hl with | [],_=>rfl⟩
 have F31:=Bq7 (st:=An4) l31 c31 k31
 have B31:=FunD.bindsD (m:=4) (ps:=["self","ways","program","entry","core","events"]) (ds:=[.none,.none]) rfl F31 ld31 rfl λ_ _ _ _ _ _ us hl=>match us,hl with | [_,_,_,_],_=>⟨_,rfl,rfl⟩
 have F32:=Ac5 (st:=Au9) l32 c32 k32
 have D32:Dn K mg _ _ _ _ _:=⟨F32,mg_of X G a32,F32.binds (ps:=["pages","most","program","entry","words"]) λ_ _ _ _ _ _ us hl=>ba5 (λ_ _ _ _ _=>rfl) us hl⟩
 have F33:=Ac5 (st:=Au7) l33 c33 k33
 have D33:Dn K mg _ _ _ _ _:=⟨F33,mg_of X G a33,F33.binds (ps:=["_law_script","_law_k"]) λ_ _ _ _ _ _ us hl=>ba2 (λ_ _=>rfl) us hl⟩
 have F34:=Ac5 (st:=sMix) l34 c34 k34
 have D34:Dn K mg _ _ _ _ _:=⟨F34,mg_of X G a34,F34.binds (ps:=["_law_cell","_law_by","_law_many"]) λ_ _ _ _ _ _ us hl=>ba3 (λ_ _ _=>rfl) us hl⟩
 have F35:=Ac5 (st:=Ag5) l35 c35 k35
 have D35:Dn K mg _ _ _ _ _:=⟨F35,mg_of X G a35,F35.binds (ps:=["_law_found"]) λ_ _ _ _ _ _ us hl=>ba1 (λ_=>rfl) us hl⟩
 have F36:=Ac5 (st:=Ak2) l36 c36 k36
 have D36:Dn K mg _ _ _ _ _:=⟨F36,mg_of X G a36,F36.binds (ps:=["_law_cell","_law_at","_law_many"]) λ_ _ _ _ _ _ us hl=>ba3 (λ_ _ _=>rfl) us hl⟩
 have F37:=Ac5 (st:=sDoL) l37 c37 k37
 have D37:Dn K mg _ _ _ _ _:=⟨F37,mg_of X G a37,F37.binds (ps:=["_law_row_here","_law_cells","_law_events"]) λ_ _ _ _ _ _ us hl=>ba3 (λ_ _ _=>rfl) us hl⟩
 have F38:=Ac5 (st:=Ak4) l38 c38 k38
 have D38:Dn K mg _ _ _ _ _:=⟨F38,mg_of X G a38,F38.binds (ps:=["_law_row_here","_law_cells","_law_at"]) λ_ _ _ _ _ _ us hl=>ba3 (λ_ _ _=>rfl) us hl⟩
 have F39:=Ac5 (st:=At9) l39 c39 k39
 have D39:Dn K mg _ _ _ _ _:=⟨F39,mg_of X G a39,F39.binds (ps:=["_law_program","_law_state","_law_steps"]) λ_ _ _ _ _ _ us hl=>ba3 (λ_ _ _=>rfl) us hl⟩
 have F40:=Ac5 (st:=sIsC) l40 c40 k40
 have D40:Dn K mg _ _ _ _ _:=⟨F40,mg_of X G a40,F40.binds (ps:=["_law_found","_law_state"]) λ_ _ _ _ _ _ us hl=>ba2 (λ_ _=>rfl) us hl⟩
 have F41:=Ac5 (st:=Av0) l41 c41 k41
 have D41:Dn K mg _ _ _ _ _:=⟨F41,mg_of X G a41,F41.binds (ps:=["_law_found","_law_due"]) λ_ _ _ _ _ _ us hl=>ba2 (λ_ _=>rfl) us hl⟩
 have F42:=Ac5 (st:=sLaw) l42 c42 k42
 have D42:Dn K mg _ _ _ _ _:=⟨F42,mg_of X G a42,F42.binds (ps:=["_law_script"]) λ_ _ _ _ _ _ us hl=>ba1 (λ_=>rfl) us hl⟩
 have T:Txt K mg:=⟨mg_none_of X G z_isinstance,mg_none_of X G z_int,mg_none_of X G z_bool,mg_none_of X G z_list,mg_none_of X G z_len,mg_none_of X G z_all,mg_none_of X G z_range⟩
 have T2:Tx2 K mg:=⟨mg_none_of X G z_str,mg_none_of X G z_tuple,mg_none_of X G z_zip,mg_none_of X G z_enumerate,⟨tk0,mg_of X G v0⟩,⟨tk4,mg_of X G v4⟩,⟨tk5,mg_of X G v5⟩,⟨tk6,mg_of X G v6⟩⟩
 have S0:Sto K mg xC xNP xNL xNW xNI:=⟨⟨pg_C,hd_C,po_C,sa_C⟩,nh,⟨tk0,mg_of X G v0⟩,⟨tk1,mg_of X G v1⟩,⟨tk2,mg_of X G v2⟩,mg_of X G n_NP,xi_NP,mg_of X G n_NL,xi_NL,mg_of X G n_NW,xi_NW,mg_of X G n_NI,xi_NI⟩
 have SS:Shf K mg xSC:=⟨⟨pg_SC,hd_SC,po_SC,sa_SC⟩,nmo,nse,⟨tk3,mg_of X G v3⟩⟩
 have PC:Plc K xPL:=⟨⟨pg_PL,hd_PL,po_PL,sa_PL⟩,nme,nba,nra,nan⟩
 have MM:Mcc K xMC:=⟨⟨pg_MC,hd_MC,po_MC,sa_MC⟩,nwys,nord,ngat,nreg,nker,nsav,nhal,nhap,nctr⟩
 have SP:∃ t,mg "STEPS"=some (.int 501 t):=⟨tk7,mg_of X G v7⟩
 have tbF:Tab K xFF [("set",yF0),("add",yF1),("both",yF2),("odd",yF3),("load",yF4),("save",yF5),("jump",yF6),("nought",yF7),("tell",yF8),("call",yF9),("halt",yF10),("peek",yF11),("poke",yF12),("root",yF13),("drop",yF14),("give",yF15),("want",yF16),("why",yF17),("back",yF18),("past",yF19),("user",yF20)]:=⟨loF,_,_,_,lF,⟨rfl,rfl,rfl⟩,rfl,.cons rfl rfl (.cons rfl rfl (.cons rfl rfl (.cons rfl rfl (.cons rfl rfl (.cons rfl rfl (.cons rfl rfl (.cons rfl rfl (.cons rfl rfl (.cons rfl rfl (.cons rfl rfl (.cons rfl rfl (.cons rfl rfl (.cons rfl rfl (.cons rfl rfl (.cons rfl rfl (.cons rfl rfl (.cons rfl rfl (.cons rfl rfl (.cons rfl rfl (.cons rfl rfl (.nil)))))))))))))))))))))⟩
 have fmF:Fm K [("set",yF0),("add",yF1),("both",yF2),("odd",yF3),("load",yF4),("save",yF5),("jump",yF6),("nought",yF7),("tell",yF8),("call",yF9),("halt",yF10),("peek",yF11),("poke",yF12),("root",yF13),("drop",yF14),("give",yF15),("want",yF16),("why",yF17),("back",yF18),("past",yF19),("user",yF20)] fT:=.cons (λH=>.inr ⟨_,_,_,qF0,rfl,rfl,(by show 2<=sizeLine; decide),.cons ⟨_,rfl⟩ (.cons ⟨_,rfl⟩ .nil)⟩) (.cons (λH=>.inr ⟨_,_,_,qF1,rfl,rfl,(by show 2<=sizeLine; decide),.cons ⟨_,rfl⟩ (.cons ⟨_,rfl⟩ .nil)⟩) (.cons (λH=>.inr ⟨_,_,_,qF2,rfl,rfl,(by show 2<=sizeLine; decide),.cons ⟨_,rfl⟩ (.cons ⟨_,rfl⟩ .nil)⟩) (.cons (λH=>.inr ⟨_,_,_,qF3,rfl,rfl,(by show 2<=sizeLine; decide),.cons ⟨_,rfl⟩ (.cons ⟨_,rfl⟩ .nil)⟩) (.cons (λH=>.inr ⟨_,_,_,qF4,rfl,rfl,(by show 2<=sizeLine; decide),.cons ⟨_,rfl⟩ (.cons ⟨_,rfl⟩ .nil)⟩) (.cons (λH=>.inr ⟨_,_,_,qF5,rfl,rfl,(by show 2<=sizeLine; decide),.cons ⟨_,rfl⟩ (.cons ⟨_,rfl⟩ .nil)⟩) (.cons (λH=>.inr ⟨_,_,_,qF6,rfl,rfl,(by show 1<=sizeLine; decide),.cons ⟨_,rfl⟩ .nil⟩) (.cons (λH=>.inr ⟨_,_,_,qF7,rfl,rfl,(by show 2<=sizeLine; decide),.cons ⟨_,rfl⟩ (.cons ⟨_,rfl⟩ .nil)⟩) (.cons (λH=>.inr ⟨_,_,_,qF8,rfl,rfl,(by show 1<=sizeLine; decide),.cons ⟨_,rfl⟩ .nil⟩) (.cons (λH=>.inr ⟨_,_,_,qF9,rfl,rfl,(by show 0<=sizeLine; decide),.nil⟩) (.cons (λH=>.inr ⟨_,_,_,qF10,rfl,rfl,(by show 0<=sizeLine; decide),.nil⟩) (.cons (λH=>.inr ⟨_,_,_,qF11,rfl,rfl,(by show 2<=sizeLine; decide),.cons ⟨_,rfl⟩ (.cons ⟨_,rfl⟩ .nil)⟩) (.cons (λH=>.inr ⟨_,_,_,qF12,rfl,rfl,(by show 2<=sizeLine; decide),.cons ⟨_,rfl⟩ (.cons ⟨_,rfl⟩ .nil)⟩) (.cons (λH=>.inr ⟨_,_,_,qF13,rfl,rfl,(by show 1<=sizeLine; decide),.cons ⟨_,rfl⟩ .nil⟩) (.cons (λH=>.inr ⟨_,_,_,qF14,rfl,rfl,(by show 1<=sizeLine; decide),.cons ⟨_,rfl⟩ .nil⟩) (.cons (λH=>.inr ⟨_,_,_,qF15,rfl,rfl,(by show 1<=sizeLine; decide),.cons ⟨_,rfl⟩ .nil⟩) (.cons (λH=>.inr ⟨_,_,_,qF16,rfl,rfl,(by show 1<=sizeLine; decide),.cons ⟨_,rfl⟩ .nil⟩) (.cons (λH=>.inr ⟨_,_,_,qF17,rfl,rfl,(by show 2<=sizeLine; decide),.cons ⟨_,rfl⟩ (.cons ⟨_,rfl⟩ .nil)⟩) (.cons (λH=>.inr ⟨_,_,_,qF18,rfl,rfl,(by show 0<=sizeLine; decide),.nil⟩) (.cons (λH=>.inr ⟨_,_,_,qF19,rfl,rfl,(by show 0<=sizeLine; decide),.nil⟩) (.cons (λH=>.inr ⟨_,_,_,qF20,rfl,rfl,(by show 1<=sizeLine; decide),.cons ⟨_,rfl⟩ .nil⟩) (.nil)))))))))))))))))))))
 have Z:Fms K mg xFF:=⟨mg_of X G nF,_,tbF,fmF⟩
 have tbK:∀ H,SqT K H xKW (kws.map V.str):=λH=>.inr ⟨_,_,_,lKW,rfl,rfl,(by show 10<=sizeLine; decide),.cons ⟨_,rfl⟩ (.cons ⟨_,rfl⟩ (.cons ⟨_,rfl⟩ (.cons ⟨_,rfl⟩ (.cons ⟨_,rfl⟩ (.cons ⟨_,rfl⟩ (.cons ⟨_,rfl⟩ (.cons ⟨_,rfl⟩ (.cons ⟨_,rfl⟩ (.cons ⟨_,rfl⟩ .nil)))))))))⟩
 have tbLE:Tab K xLE [("jump",f21),("nought",f22),("halt",f23),("back",yLE3),("past",yLE4),("user",yLE5)]:=⟨loLE,_,_,_,lLE,⟨rfl,rfl,rfl⟩,rfl,.cons rfl rfl (.cons rfl rfl (.cons rfl rfl (.cons rfl rfl (.cons rfl rfl (.cons rfl rfl (.nil))))))⟩
 have tbDE:Tab K xDE [("set",f16),("add",f17),("both",f18),("odd",f19),("load",yDE4),("save",yDE5),("tell",f20),("call",yDE7),("peek",yDE8),("poke",yDE9),("root",yDE10),("drop",yDE11),("give",yDE12),("want",yDE13),("why",yDE14)]:=⟨loDE,_,_,_,lDE,⟨rfl,rfl,rfl⟩,rfl,.cons rfl rfl (.cons rfl rfl (.cons rfl rfl (.cons rfl rfl (.cons rfl rfl (.cons rfl rfl (.cons rfl rfl (.cons rfl rfl (.cons rfl rfl (.cons rfl rfl (.cons rfl rfl (.cons rfl rfl (.cons rfl rfl (.cons rfl rfl (.cons rfl rfl (.nil)))))))))))))))⟩
 have DT:Dts K mg xKW xLE xDE f16 f17 f18 f19 f20 f21 f22 f23:=⟨mg_of X G nKW,tbK,mg_of X G nLE,⟨_,tbLE,rfl,rfl,rfl,rfl,rfl,rfl,rfl,rfl⟩,mg_of X G nDE,⟨_,tbDE,rfl,rfl,rfl,rfl,rfl⟩⟩
 have M24_MC:Me K xMC _ _ _ _ _ _:=⟨F24,⟨a24,i24,k24⟩,B24⟩
 have M25_MC:Me K xMC _ _ _ _ _ _:=⟨F25,⟨a25,i25,k25⟩,B25⟩
 have M26_MC:Me K xMC _ _ _ _ _ _:=⟨F26,⟨a26,i26,k26⟩,B26⟩
 have M27_MC:Me K xMC _ _ _ _ _ _:=⟨F27,⟨a27,i27,k27⟩,B27⟩
 have M28_MC:Me K xMC _ _ _ _ _ _:=⟨F28,⟨a28,i28,k28⟩,B28⟩
 have M29_MC:Me K xMC _ _ _ _ _ _:=⟨F29,⟨a29,i29,k29⟩,B29⟩
 refine ⟨fnOf "law" "law" (Ab4 sLaw) (Ab1 sLaw) (Aa1 sLaw) .none kV42 dc42 pm42 an42 cd42 ct42,λs v=>.of_eq rfl,λbase _ _=>?_⟩
 have g0_whole:FnOk l.prog w K mg base _ _ f0 _ _ Af9:=Ay8 F0 T
 have g1_below:FnOk l.prog w K mg base _ _ f1 _ _ Ai4:=Bj2 F1 D0 T
 have g2_word:FnOk l.prog w K mg base _ _ f2 _ _ Ax8:=Bo9 F2 D1 g1_below S0
 have g3_eight:FnOk l.prog w K mg base _ _ f3 _ _ At7:=Bj0 F3 D2 g2_word S0 T
 have g4_image:FnOk l.prog w K mg base _ _ f4 _ _ At6:=Bi9 F4 D3 g3_eight S0 T
 have g5_init:FnOk l.prog w K mg base _ _ f5 _ _ (Bc0 xC):=Bp4 F5 D4 g4_image S0 T
 have g6_sinit:FnOk l.prog w K mg base _ _ f6 _ _ (At1 xSC):=Bi5 F6 D0 g0_whole SS
 have g7_winit:FnOk l.prog w K mg base _ _ f7 _ _ (As8 xSC xPL):=Bi2 F7 ⟨mk_SC,a6,i6,kc_SC⟩ (mg_of X G n_SC) B6 g6_sinit PC
 have g8_plinit:FnOk l.prog w K mg base _ _ f8 _ _ (At2 xC xSC xPL):=Be0 F8 ⟨mk_C,a5,i5,kc_C⟩ (mg_of X G n_C) B5 g5_init ⟨sp_WC,rd_WC,a7,k7⟩ (mg_of X G n_WC) B7 g7_winit PC T
 have g9_bound:FnOk l.prog w K mg base _ _ f9 _ _ Ao3:=Bj1 F9 T T2
 have g10_order:FnOk l.prog w K mg base _ _ f10 _ _ At3:=Bi6 F10 D1 g1_below D9 g9_bound Z T T2
 have g11_chk:FnOk l.prog w K mg base _ _ f11 _ _ Bm7:=Bv2 F11 D10 g10_order D1 g1_below T T2
 have g12_wof:FnOk l.prog w K mg base _ _ f12 _ _ Bm1:=Bu4 F12 D0 g0_whole T2
 have g13_plus:FnOk l.prog w K mg base _ _ f13 _ _ (Ao4 (λa b=>(a+b) % 281474976710656)):=Bp2 F13 D12 g12_wof
 have g14_both:FnOk l.prog w K mg base _ _ f14 _ _ (Ao4 (Builtin.bitAnd)):=Bp7 F14
 have g15_odd:FnOk l.prog w K mg base _ _ f15 _ _ (Ao4 (Builtin.bitXor)):=Bu5 F15
 have g16_do_set:FnOk l.prog w K mg base _ _ f16 _ _ (spD3 xMC "set"):=Be2 F16 MM
 have g17_do_add:FnOk l.prog w K mg base _ _ f17 _ _ (spD3 xMC "add"):=Be4 F17 D13 g13_plus MM
 have g18_do_both:FnOk l.prog w K mg base _ _ f18 _ _ (spD3 xMC "both"):=Ba0 F18 D14 g14_both MM
 have g19_do_odd:FnOk l.prog w K mg base _ _ f19 _ _ (spD3 xMC "odd"):=Be3 F19 D15 g15_odd MM
 have g20_do_tell:FnOk l.prog w K mg base _ _ f20 _ _ (spD3 xMC "tell"):=Az9 F20 MM
 have g21_lead_jump:FnOk l.prog w K mg base _ _ f21 _ _ (spL3 xMC "jump"):=Aq4 F21 MM
 have g22_lead_nought:FnOk l.prog w K mg base _ _ f22 _ _ (spL3 xMC "nought"):=Am8 F22 MM
 have g23_lead_halt:FnOk l.prog w K mg base _ _ f23 _ _ (spL3 xMC "halt"):=Aq5 F23 MM
 have g24_arr:FnOk l.prog w K mg base _ _ f24 _ _ (Bm8 xMC):=Bv3 F24 MM T
 have g25_obey:FnOk l.prog w K mg base _ _ f25 _ _ (Bb9 xMC):=Bp3 F25 D16 g16_do_set D17 g17_do_add D18 g18_do_both D19 g19_do_odd D20 g20_do_tell D21 g21_lead_jump D22 g22_lead_nought D23 g23_lead_halt DT MM
 have g26_stepm:FnOk l.prog w K mg base _ _ f26 _ _ (At0 xMC):=Bi4 F26 M25_MC g25_obey M24_MC g24_arr (mg_of X G n_FA) MM
 have g27_turnm:FnOk l.prog w K mg base _ _ f27 _ _ (As9 xMC):=Bi3 F27 D1 g1_below M26_MC g26_stepm SP MM
 have g28_core:FnOk l.prog w K mg base _ _ f28 _ _ (Bc1 xMC):=Bp5 F28 MM T
 have g29_evs:FnOk l.prog w K mg base _ _ f29 _ _ (Bm5 xMC):=Bv0 F29 MM T
 have g30_fst:FnOk l.prog w K mg base _ _ f30 _ _ Bm4:=Bu9 F30 T2
 have g24_arr0:FnOk l.prog w K mg base _ _ f24 _ _ (Bc4 xMC):=Bp9 F24 MM T
 have g31_minit:FnOk l.prog w K mg base _ _ f31 _ _ (At5 xMC):=Bi8 F31 D11 g11_chk D30 g30_fst M24_MC g24_arr0 MM T
 have g32_bare:FnOk l.prog w K mg base _ _ f32 _ _ (Bc3 xMC):=Bp8 F32 ⟨mk_PL,a8,i8,kc_PL⟩ (mg_of X G n_PL) B8 g8_plinit ⟨mk_MC,a31,i31,kc_MC⟩ (mg_of X G n_MC) B31 g31_minit
 have g33_cell:FnOk l.prog w K mg base _ _ f33 _ _ (Bc2 K):=Bp6 F33 T
 have g34_mix:FnOk l.prog w K mg base _ _ f34 _ _ Bm2:=Bu6 F34
 have g35_lwhole:FnOk l.prog w K mg base _ _ f35 _ _ Af9:=Be1 F35 T
 have g36_rowl:FnOk l.prog w K mg base _ _ f36 _ _ Ax9:=Bp1 F36 D34 g34_mix
 have g37_dol:FnOk l.prog w K mg base _ _ f37 _ _ Bm6:=Bv1 F37
 have g38_nextl:FnOk l.prog w K mg base _ _ f38 _ _ At4:=Bi7 F38
 have g39_runl:FnOk l.prog w K mg base _ _ f39 _ _ Bb8:=Bp0 F39 D37 g37_dol D38 g38_nextl T
 have g40_isc:FnOk l.prog w K mg base _ _ f40 _ _ Bm3:=Bu8 F40 D35 g35_lwhole T T2
 have g41_aree:FnOk l.prog w K mg base _ _ f41 _ _ Bc5:=Bq0 F41 D35 g35_lwhole T T2
 exact Bu7 F42 D33 g33_cell D36 g36_rowl D32 g32_bare D39 g39_runl D35 g35_lwhole D40 g40_isc D41 g41_aree M28_MC g28_core M29_MC g29_evs M27_MC g27_turnm MM T T2
theorem walk {l:PySem.W.OpenLaw} {q:Program} {loose:List Str} {XP:(Str->Option Value)->Heap->Prop} {YP:World->Heap->Prop} {d:DefRec} {K:Params->PySem.W.Frag} (hn:l.most=some 63) (hdf:d.params.defaults=[])
  (hY:∀ (w:World) (h:Heap),YP w h->(K w.params).In h)
  (F:∀ (w:World) (mg:Str->Option Value) (fa:Addr) (h:Heap),(K w.params).In h->h.Ns mainGlobals mg->mg d.name=some (.ref fa) ->
   ∃ fd:FuncData,(∀ (s:Shared) (u:Value),BindsTo s fd ⟨[u],[]⟩ [("_law_script",u)])/\∀ base:Heap,(K w.params).In base->base.Ns mainGlobals mg->FnOk l.prog w (K w.params) mg base CX0 11 fa fd ["_law_script"] (Bh0 (K w.params))) :
  PySem.W.WalkO q loose XP YP l.row.toRowW d [] (λf vs=>PySem.call f vs) :=
 L2.walk_of (n:=63) (k:=11) (x:="_law_script") (CX:=λ_=>CX0) (sp:=λw=>Bh0 (K w.params)) hn (by decide) hdf ⟨rfl,by decide,by decide⟩ hY F (λ_ _ a ns hl _ hS=>⟨a,ns,rfl,hS,hl,λ_=>rfl⟩) λ_ _ _ _ _ z=>z
end K33
open PySem PySem.W PyProof.Rows
set_option maxRecDepth 100000 in
set_option maxHeartbeats 0 in
theorem PySem.Challenge.cw_shadowpages_k33_rows_among_registers_holds : PySem.Challenge.rw_shadowpages_k33_rows_among_registers.Holds := by
 w_on; o_law
 refine holds_open (q:=K33.vw) (loose:=["FORMS","DEEDS","LEADS"]) (Xt:=λs=>xlAt K33.vw [] s && recOk [] s) (XP:=XL K33.vw []) (Yf:=Hook.obs (kHook K33.KF K33.asF K33.hF)) (Ya:=Hook.val (kHook K33.KF K33.asF K33.hF)) (YP:=Hook.says (kHook K33.KF K33.asF K33.hF)) (N:=15966) ?hl (Hook.of (kHook K33.KF K33.asF K33.hF)) (Hook.keeps (kHook K33.KF K33.asF K33.hF)) (λs e=>xl_of s (Bool.and_eq_true_iff.mp e).1) XL.keeps (by rfl) (by rfl) (by rfl) (λs e=>recFacts_of (Bool.and_eq_true_iff.mp e).2) (by rfl) (by first | assumption | decide +kernel) (by decide +kernel) ⟨rfl,rfl,rfl,rfl,rfl,by decide +kernel⟩ ?hw ?hc
 case hl=>exact K33.hl
 case hw=>w_witness2
 k_fill
 refine K33.walk (l:=PySem.Challenge.rw_shadowpages_k33_rows_among_registers) rfl rfl (λw h Y=>PySem.W.kIn_of Y) ?F
 case F =>
  intro w mg fa h KX G hmg
  refine' K33.all_mk KX G hmg ?n_C ?n_SC ?n_PL ?n_WC ?n_NP ?n_NL ?n_NW ?n_NI ?n_FA ?n_MC ?a0 ?l0 ?c0 ?k0 ?a1 ?l1 ?c1 ?k1 ?a2 ?l2 ?c2 ?k2 ?a3 ?l3 ?c3 ?k3 ?a4 ?l4 ?c4 ?k4 ?a5 ?l5 ?c5 ?k5 ?a6 ?l6 ?c6 ?k6 ?a7 ?l7 ?c7 ?k7 ?a8 ?l8 ?c8 ?k8 ?a9 ?l9 ?c9 ?k9 ?a10 ?l10 ?c10 ?k10 ?a11 ?l11 ?c11 ?k11 ?a12 ?l12 ?c12 ?k12 ?a13 ?l13 ?c13 ?k13 ?a14 ?l14 ?c14 ?k14 ?a15 ?l15 ?c15 ?k15 ?a16 ?l16 ?c16 ?k16 ?a17 ?l17 ?c17 ?k17 ?a18 ?l18 ?c18 ?k18 ?a19 ?l19 ?c19 ?k19 ?a20 ?l20 ?c20 ?k20 ?a21 ?l21 ?c21 ?k21 ?a22 ?l22 ?c22 ?k22 ?a23 ?l23 ?c23 ?k23 ?a24 ?l24 ?c24 ?k24 ?a25 ?l25 ?c25 ?k25 ?a26 ?l26 ?c26 ?k26 ?a27 ?l27 ?c27 ?k27 ?a28 ?l28 ?c28 ?k28 ?a29 ?l29 ?c29 ?k29 ?a30 ?l30 ?c30 ?k30 ?a31 ?l31 ?c31 ?k31 ?ld31 ?a32 ?l32 ?c32 ?k32 ?a33 ?l33 ?c33 ?k33 ?a34 ?l34 ?c34 ?k34 ?a35 ?l35 ?c35 ?k35 ?a36 ?l36 ?c36 ?k36 ?a37 ?l37 ?c37 ?k37 ?a38 ?l38 ?c38 ?k38 ?a39 ?l39 ?c39 ?k39 ?a40 ?l40 ?c40 ?k40 ?a41 ?l41 ?c41 ?k41 ?a42 ?l42 ?c42 ?k42 ?v0 ?v1 ?v2 ?v3 ?v4 ?v5 ?v6 ?v7 ?z_isinstance ?z_int ?z_bool ?z_list ?z_len ?z_all ?z_range ?z_str ?z_tuple ?z_zip ?z_enumerate ?xi_NP ?xi_NL ?xi_NW ?xi_NI ?nh ?nmo ?nse ?nme ?nba ?nra ?nan ?nwys ?nord ?ngat ?nreg ?nker ?nsav ?nhal ?nhap ?nctr ?nF ?lF ?qF0 ?qF1 ?qF2 ?qF3 ?qF4 ?qF5 ?qF6 ?qF7 ?qF8 ?qF9 ?qF10 ?qF11 ?qF12 ?qF13 ?qF14 ?qF15 ?qF16 ?qF17 ?qF18 ?qF19 ?qF20 ?loF ?nKW ?lKW ?nLE ?lLE ?loLE ?nDE ?lDE ?loDE ?i5 ?i6 ?i8 ?i24 ?i25 ?i26 ?i27 ?i28 ?i29 ?i31 ?pg_C ?hd_C ?po_C ?sa_C ?pg_MC ?hd_MC ?po_MC ?sa_MC ?pg_PL ?hd_PL ?po_PL ?sa_PL ?pg_SC ?hd_SC ?po_SC ?sa_SC ?mk_C ?kc_C ?mk_MC ?kc_MC ?mk_PL ?kc_PL ?mk_SC ?kc_SC ?sp_WC ?rd_WC
  case n_C | n_SC | n_PL | n_WC | n_NP | n_NL | n_NW | n_NI | n_FA | n_MC | a0 | l0 | c0 | k0 | a1 | l1 | c1 | k1 | a2 | l2 | c2 | k2 | a3 | l3 | c3 | k3 | a4 | l4 | c4 | k4 | a5 | l5 | c5 | k5 | a6 | l6 | c6 | k6 | a7 | l7 | c7 | k7 | a8 | l8 | c8 | k8 | a9 | l9 | c9 | k9 | a10 | l10 | c10 | k10 | a11 | l11 | c11 | k11 | a12 | l12 | c12 | k12 | a13 | l13 | c13 | k13 | a14 | l14 | c14 | k14 | a15 | l15 | c15 | k15 | a16 | l16 | c16 | k16 | a17 | l17 | c17 | k17 | a18 | l18 | c18 | k18 | a19 | l19 | c19 | k19 | a20 | l20 | c20 | k20 | a21 | l21 | c21 | k21 | a22 | l22 | c22 | k22 | a23 | l23 | c23 | k23 | a24 | l24 | c24 | k24 | a25 | l25 | c25 | k25 | a26 | l26 | c26 | k26 | a27 | l27 | c27 | k27 | a28 | l28 | c28 | k28 | a29 | l29 | c29 | k29 | a30 | l30 | c30 | k30 | a31 | l31 | c31 | k31 | ld31 | a32 | l32 | c32 | k32 | a33 | l33 | c33 | k33 | a34 | l34 | c34 | k34 | a35 | l35 | c35 | k35 | a36 | l36 | c36 | k36 | a37 | l37 | c37 | k37 | a38 | l38 | c38 | k38 | a39 | l39 | c39 | k39 | a40 | l40 | c40 | k40 | a41 | l41 | c41 | k41 | a42 | l42 | c42 | k42 | v0 | v1 | v2 | v3 | v4 | v5 | v6 | v7 | z_isinstance | z_int | z_bool | z_list | z_len | z_all | z_range | z_str | z_tuple | z_zip | z_enumerate=>k_is
  case xi_NP | xi_NL | xi_NW | xi_NI=>kernel_rfl
  case nh | nmo | nse | nme | nba | nra | nan | nwys | nord | ngat | nreg | nker | nsav | nhal | nhap | nctr | nF | lF | qF0 | qF1 | qF2 | qF3 | qF4 | qF5 | qF6 | qF7 | qF8 | qF9 | qF10 | qF11 | qF12 | qF13 | qF14 | qF15 | qF16 | qF17 | qF18 | qF19 | qF20=>k_is
  (case loF=>decide)
  case nKW | lKW | nLE | lLE=>k_is
  (case loLE=>decide)
  case nDE | lDE=>k_is
  (case loDE=>decide)
  case i5 | i6 | i8 | i24 | i25 | i26 | i27 | i28 | i29 | i31 | pg_C | hd_C | po_C | sa_C | pg_MC | hd_MC | po_MC | sa_MC | pg_PL | hd_PL | po_PL | sa_PL | pg_SC | hd_SC | po_SC | sa_SC | mk_C | kc_C | mk_MC | kc_MC | mk_PL | kc_PL | mk_SC | kc_SC | sp_WC | rd_WC=>k_is
end
