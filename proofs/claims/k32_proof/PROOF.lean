import PyProof.Rows.All
import Wide.All
import OpenK.AllK
import Wide.FinOn
import Lean
import PyProof.EqAt
import PyProof.EqKinds
import PyProof.TupleCall
import PySem.Challenge.RW_shadowpages_k32_programs_refused
set_option Elab.async false
set_option linter.all false
set_option maxRecDepth 100000
set_option maxHeartbeats 4000000
section
namespace L2
open PySem
def inClass (s:Stmt) (j:Nat):Stmt:=match s with
 | .ClassDef _ _ _ body _ _ _ _ _ _ _=>body.getD j (.Pass ⟨0,0,0,0⟩)
 | _=>.Pass ⟨0,0,0,0⟩
def defArgs (s:Stmt):Arguments:=match s with
 | .FunctionDef _ a _ _ _ _ _ _ _ _=>a
 | _=>{ posonlyargs:=[],args:=[],vararg:=none,kwonlyargs:=[],kw_defaults:=[],kwarg:=none,defaults:=[] }
def defBody (s:Stmt):List Stmt:=match s with
 | .FunctionDef _ _ b _ _ _ _ _ _ _=>b
 | _=>[]
def defScope (s:Stmt):Scope:=match s with
 | .FunctionDef _ _ _ _ _ _ sc _ _ _=>sc
 | _=>{ kind:=.function,names:=[],isGenerator:=false,isCoroutine:=false }
end L2
end
section
namespace HT1
open PySem PySem.W PyProof.Rows
def topRunT (tb:String->Option Builtin) (p:Program) (w:World) (n₀:Nat) (ann:Option Value):Nat->SharedT->Thread->Option SharedT
 | 0,_,_=>none
 | n+1,s,t=>match through t with
  | true=>some s
  | false=>match stepOk n₀ ann t with
   | false=>none
   | true=>match stepT (denote tb) p w s t with
    | some (s',t')=>topRunT tb p w n₀ ann n s' t'
    | none=>none
theorem topRun_of {tb:String->Option Builtin} {p:Program} {w:World} {n₀:Nat} {ann:Option Value}:∀ {n:Nat} {s s':SharedT} {t:Thread},topRunT tb p w n₀ ann n s t=some s'->topRun tb p w n₀ ann n s.abs t=some s'.abs
 | 0,_,_,_,h=>by cases h
 | n+1,s,s',t,h=>by
  unfold topRunT at h
  unfold topRun
  cases ht:through t with
  | true=>rw [ht] at h; cases h; rfl
  | false =>
   rw [ht] at h
   cases hk:stepOk n₀ ann t with
   | false=>rw [hk] at h; cases h
   | true =>
    rw [hk] at h
    cases hs:stepT (denote tb) p w s t with
    | none=>rw [hs] at h; cases h
    | some r=>obtain ⟨s₂,t₂⟩:=r; rw [hs] at h; rw [stepT_spec hs]; exact topRun_of h
def ofL:List Obj->Nat->BT->BT
 | [],_,t=>t
 | o::l,n,t=>ofL l (n+1) (t.ins n o)
noncomputable def bootT (P:Params):BT:=ofL (boot_heap P).objs.toList 0 .nil
def bootN:Nat:=11
noncomputable def bootS (w:World) (os:OsState):SharedT:=⟨bootT w.params,bootN,(boot_heap w.params).life,Array.mk [],boot_drawn,boot_toks,os⟩
theorem boot_size (w:World):((boot_heap w.params).isNs mainGlobals && (Array.mk []:Array GenState).size == 0,(boot_heap w.params).objs.size,(boot_heap w.params).nsMap mainGlobals "__annotations__")=(true,11,some (.ref 6)):=by kernel_rfl
theorem boot_abs (w:World) (os:OsState):(bootS w os).abs=⟨boot_heap w.params,Array.mk [],boot_drawn,boot_toks,os⟩:=by kernel_rfl
noncomputable def runS (p:Program) (N:Nat) (w:World) (os:OsState):=topRunT treeTable p w 11 (some (.ref 6)) N (bootS w os) (topStub p)
def c1 {α β:Type} (x:α×β):α:=match x with | (a,_)=>a
def c2 {α β:Type} (x:α×β):β:=match x with | (_,b)=>b
noncomputable def chkA (p:Program) (w:World) (s:SharedT):=(staticsOk (importedModules p.main.body) (boot_heap w.params) s.abs.heap && namesBound p s.abs.heap && gensDone s.abs && laidKept (boot_heap w.params) s.abs.heap)
noncomputable def look1 (p q:Program) (loose:List Str) (Xt:Shared->Bool) (N:Nat) (g0:Bool) (w:World) (os:OsState):=(runS p N w os).map λs=>(chkA p w s,(openSeen q loose (importedModules p.main.body) Xt g0 s.abs).1,(openSeen q loose (importedModules p.main.body) Xt g0 s.abs).2.1)
noncomputable def look2 (p q:Program) (loose:List Str) (Xt:Shared->Bool) (N:Nat) (g0:Bool) (w:World) (os:OsState):=(runS p N w os).map λs=>(openSeen q loose (importedModules p.main.body) Xt g0 s.abs).2.2.1
noncomputable def look4 (p q:Program) (loose:List Str) (Xt:Shared->Bool) (N:Nat) (g0:Bool) (w:World) (os:OsState):=(runS p N w os).map λs=>(openSeen q loose (importedModules p.main.body) Xt g0 s.abs).2.2.2.1
def getT (s:SharedT) (a:Nat):Option Obj:=match Nat.blt a s.n with
 | true=>match s.tree.get a with
  | some o=>alive o
  | none=>none
 | false=>none
theorem getT_abs {s:SharedT} {a:Nat} {o:Obj} (h:getT s a=some o):s.abs.heap.get? a=some o:=by
 unfold getT at h
 cases hb:Nat.blt a s.n with
 | false=>rw [hb] at h; cases h
 | true =>
  rw [hb] at h
  cases hg:s.tree.get a with
  | none=>rw [hg] at h; cases h
  | some o' =>
   rw [hg] at h
   exact (abs_get (Nat.le_of_ble_eq_true hb) hg).trans h
theorem getTs_abs {s:SharedT}:∀ {as:List Nat} {K:Frag},as.map (getT s)=K.map (λp=>some p.2)->as.map s.abs.heap.get?=K.map λp=>some p.2
 | [],[],_=>rfl
 | [],_::_,h=>by cases h
 | _::_,[],h=>by cases h
 | a::as,k::K,h=>by
  rw [List.map_cons,List.map_cons] at h
  obtain ⟨h1,h2⟩:=List.cons.inj h
  rw [List.map_cons,List.map_cons,getT_abs h1,getTs_abs h2]
noncomputable def look3 (p q:Program) (loose:List Str) (Xt:Shared->Bool) (as:List Addr) (N:Nat) (g0:Bool) (w:World) (os:OsState):=(runS p N w os).map λs=>((openSeen q loose (importedModules p.main.body) Xt g0 s.abs).2.2.2.2,as.map (getT s))
theorem left_cut {p q:Program} {loose:List Str} {Xt:Shared->Bool} {K:Params->Frag} {as:List Addr} {ea:∀ P,as=(K P).map (·.1)} {N:Nat} {g0:Bool}
  (e:opening p=plainProg p.main.scope.names) (hN:Nat.ble 600 N=true) (f:∀ s,fenceModules? p s=some s)
  (h1:∀ w:World,(λos=>look1 p q loose Xt N g0 w os)=λ_=>some (true,c1 (openGood q loose),c1 (c2 (openGood q loose))))
  (h2:∀ w:World,(λos=>look2 p q loose Xt N g0 w os)=λ_=>some true)
  (h4:∀ w:World,(λos=>look4 p q loose Xt N g0 w os)=λ_=>some true)
  (h3:∀ w:World,(λos=>look3 p q loose Xt as N g0 w os)=λ_=>some (c2 (c2 (c2 (c2 (openGood q loose)))),(K w.params).map λp=>some p.2)):LeftO p q loose Xt (kHook K as ea).obs (kHook K as ea).val N g0:=λw=>by
 obtain ⟨⟨h,gs,d,k',os⟩,eo,e'⟩:=Option.map_eq_some_iff.mp (boot_open e hN f w)
 obtain ⟨rfl,rfl,rfl,rfl⟩:h=boot_heap w.params/\gs=Array.mk []/\d=boot_drawn/\k'=boot_toks:=by simpa using e'
 obtain ⟨z1,z2,z3⟩:_/\_/\_:=by simpa only [Prod.mk.injEq] using boot_size w
 obtain ⟨s1,r1,l1⟩:=Option.map_eq_some_iff.mp (congrFun (h1 w) os)
 obtain ⟨s2,r2,a3⟩:=Option.map_eq_some_iff.mp (congrFun (h2 w) os)
 obtain ⟨s3,r3,l3⟩:=Option.map_eq_some_iff.mp (congrFun (h3 w) os)
 cases r1.symm.trans r2
 obtain ⟨s4,r4,a4⟩:=Option.map_eq_some_iff.mp (congrFun (h4 w) os)
 cases r1.symm.trans r3
 cases r1.symm.trans r4
 obtain ⟨a0,a1,a2⟩:_/\_/\_:=by simpa only [Prod.mk.injEq] using l1
 obtain ⟨b1,b2⟩:_/\_:=by simpa only [Prod.mk.injEq] using l3
 have r:=topRun_of r1
 rw [boot_abs] at r
 have t:topFrom treeTable p w N ⟨boot_heap w.params,Array.mk [],boot_drawn,boot_toks,os⟩=some s1.abs:=by
  unfold topFrom
  dsimp only
  rw [z1,z2,z3,r]
  show (match staticsOk (importedModules p.main.body) (boot_heap w.params) s1.abs.heap && namesBound p s1.abs.heap && gensDone s1.abs && laidKept (boot_heap w.params) s1.abs.heap with | true=>_ | false=>_)=_
  rw [show (staticsOk (importedModules p.main.body) (boot_heap w.params) s1.abs.heap && namesBound p s1.abs.heap && gensDone s1.abs && laidKept (boot_heap w.params) s1.abs.heap)=true from a0]
 unfold openEnds
 rw [eo]
 show (topFrom treeTable p w N _).map _=_
 rw [t]
 exact congrArg some (Prod.ext (Prod.ext a1 (Prod.ext a2 (Prod.ext a3 (Prod.ext a4 b1)))) (getTs_abs b2))
end HT1
noncomputable def PySem.W.Fast.tw14598715356260435866:=@PySem.W.boot_o_0
theorem PySem.W.Fast.te14598715356260435866:PySem.W.boot_o_0=PySem.W.Fast.tw14598715356260435866:=rfl
lay_quick HT1.look1 HT1.look2 HT1.look3 HT1.look4 PySem.W.xlAt PySem.W.recOk PySem.W.openGood
end
section
noncomputable def PySem.W.Fast.tw15207970715637360122:PySem.Program:=PySem.Challenge.pw_shadowpages_k32_programs_refused
theorem PySem.W.Fast.te15207970715637360122:PySem.Challenge.pw_shadowpages_k32_programs_refused=PySem.W.Fast.tw15207970715637360122:=rfl
open PySem PySem.W PyProof.Rows
namespace K32
open PySem L2
def top (i:Nat):Stmt:=PySem.Challenge.pw_shadowpages_k32_programs_refused.main.body.getD i (.Pass ⟨0,0,0,0⟩)
def kr (P:Params) (x:Str) (t:Tok) (a:Addr):DictEntry:=⟨PyData.keyHash P x,.str x t,.ref a⟩
def ki (P:Params) (x:Str) (t:Tok) (i:Int) (u:Tok):DictEntry:=⟨PyData.keyHash P x,.str x t,.int i u⟩
def kn (P:Params) (x:Str) (t:Tok):DictEntry:=⟨PyData.keyHash P x,.str x t,.none⟩
def oC (x:Str) (a:Tok) (y:Str) (b c:Tok) (i j k l m:Int) (r:Addr) (o:Int) (u v w z:Addr) (p q:Int) (d:Tok):Data:=.fields #[.str x a,.str y b,.str "/claim/cut.py" c,.int i 0,.int j 0,.int k 0,.int l 0,.int m 0,.ref r,.bool true,.int o 0,.ref u,.none,.ref v,.ref w,.ref z,.int p 0,.int q 0,.str "/claim/cut.py" d]
def oD (A:Nat) (x y:Str) (a:Nat) (i j:Int) (p:Nat):Data:=oC x a y (a+1) (a+2) i j 0 0 3 (A - 5) 181 (A - 4) (A - 3) (A - 2) (A - 1) p i (p+1)
def oF (x y:Str) (s:Stmt) (m:Str) (t:Tok) (r:Addr):FuncData:=⟨x,y,defArgs s,.stmts (defBody s),defScope s,3,[],.none,.none,.none,.str m t,none,.ref r,.none,0⟩
def KF (P:Params):PySem.W.Frag :=
 (nat_lit 2,⟨.none,none,.dict #[] 0,#[]⟩) ::
 (nat_lit 3,⟨.type "dict",none,(.dict #[⟨(PyData.keyHash P "__name__"),.str "__name__" 165,.str "law_shadowpages_k32_programs_refused" 1320⟩,kn P "__doc__" 166,kn P "__package__" 167,⟨(PyData.keyHash P "__loader__"),.str "__loader__" 168,.builtin "__main__.__loader__#opaque"⟩,kn P "__spec__" 169,kr P "__annotations__" 170 6,kr P "__builtins__" 171 4,⟨(PyData.keyHash P "__file__"),.str "__file__" 173,.str "/claim/cut.py" 172⟩,kn P "__cached__" 174,kr P "_wall" 193 21,ki P "WORDS" 195 281474976710656 194,ki P "MARKS" 197 256 196,ki P "PARTS" 199 8 198,ki P "PLACES" 201 512 200,ki P "CELLS" 203 8 202,ki P "MOST_PAGES" 205 24 204,ki P "SEATS" 207 12 206,ki P "REGISTERS" 209 4 208,ki P "ORDERS" 211 60 210,ki P "ENTRIES" 213 61 212,kr P "HouseError" 233 31,kr P "NoWord" 249 44,kr P "NoPlace" 265 56,kr P "NoPage" 281 68,kr P "NoImage" 297 80,kr P "NoShelf" 313 92,kr P "NoBound" 329 104,kr P "NoProgram" 354 123,kr P "NoText" 379 142,kr P "Fault" 408 161,kr P "is_whole" 417 170,kr P "is_below" 425 177,kr P "is_word" 432 184,kr P "FORMS" 504 185,kr P "is_order" 510 212,kr P "bound_of" 517 219,kr P "checked" 527 226,kr P "parts_of" 537 233,kr P "number_of" 544 240,kr P "Shelf" 616 290,kr P "is_eight_words" 624 299,kr P "check_image" 632 306,kr P "check_word" 639 313,kr P "Store" 735 384,kr P "Memory" 815 450,ki P "PRESENT" 819 1 818,ki P "WRITABLE" 821 2 820,ki P "KERNEL" 823 4 822,ki P "TOUCHED" 825 8 824,ki P "SOILED" 827 16 826,kr P "page_of" 834 459,kr P "has" 842 466,kr P "put" 850 473,kr P "look" 868 480,kr P "check_row" 880 487,kr P "rights_of" 888 494,kr P "mark" 897 501,kr P "put_marks" 907 508,kr P "lets" 916 515,kr P "Ways" 1099 656,kr P "Plain" 1184 724,kr P "first_core" 1192 733,kr P "Machine" 1308 821,kr P "bare" 1319 832,kr P "_law_cell_at" 1329 839,kr P "_law_mix" 1338 846,kr P "_law_row" 1349 853,kr P "_law_spoil" 1361 860,kr P "_law_refused" 1374 867,kr P "_law_is_no_program" 1382 874,kr P "law" 1388 879] 71),#[]⟩) ::
 (nat_lit 30,⟨.type "dict",none,(.dict #[⟨(PyData.keyHash P "__module__"),.str "__module__" 223,.str "shadowpages.errors" 214⟩,ki P "__firstlineno__" 227 15 226,kr P "__static_attributes__" 228 29,kr P "__weakref__" 230 32,kn P "__doc__" 231] 3),#[]⟩) ::
 (nat_lit 31,⟨.type "type",none,(.cls ⟨"HouseError",[.type "ValueError"],[.ref 31,.type "ValueError",.type "Exception",.type "BaseException",.type "object"],30,"HouseError",true,[],[.ref 44,.ref 56,.ref 68,.ref 80,.ref 92,.ref 104,.ref 123,.ref 142,.ref 161],false,none,false⟩),#[(some (.ref 22)),none,(some (.str "HouseError" 216)),(some (.str "HouseError" 224)),(some (.builtin "ValueError.__new__")),(some (.bool true))]⟩) ::
 (nat_lit 32,⟨.type "getset_descriptor",none,.fields #[.str "__weakref__" 229,.ref 31,.builtin "ExceptionGroup.__weakref__",.none],#[]⟩) ::
 (nat_lit 43,⟨.type "dict",none,(.dict #[⟨(PyData.keyHash P "__module__"),.str "__module__" 241,.str "shadowpages.errors" 214⟩,ki P "__firstlineno__" 245 17 244,kr P "__static_attributes__" 246 42,kn P "__doc__" 247] 2),#[]⟩) ::
 (nat_lit 44,⟨.type "type",none,(.cls ⟨"NoWord",[.ref 31],[.ref 44,.ref 31,.type "ValueError",.type "Exception",.type "BaseException",.type "object"],43,"NoWord",true,[],[],false,none,false⟩),#[(some (.ref 35)),none,(some (.str "NoWord" 234)),(some (.str "NoWord" 242)),(some (.builtin "ValueError.__new__")),(some (.bool true))]⟩) ::
 (nat_lit 55,⟨.type "dict",none,(.dict #[⟨(PyData.keyHash P "__module__"),.str "__module__" 257,.str "shadowpages.errors" 214⟩,ki P "__firstlineno__" 261 19 260,kr P "__static_attributes__" 262 54,kn P "__doc__" 263] 2),#[]⟩) ::
 (nat_lit 56,⟨.type "type",none,(.cls ⟨"NoPlace",[.ref 31],[.ref 56,.ref 31,.type "ValueError",.type "Exception",.type "BaseException",.type "object"],55,"NoPlace",true,[],[],false,none,false⟩),#[(some (.ref 47)),none,(some (.str "NoPlace" 250)),(some (.str "NoPlace" 258)),(some (.builtin "ValueError.__new__")),(some (.bool true))]⟩) ::
 (nat_lit 67,⟨.type "dict",none,(.dict #[⟨(PyData.keyHash P "__module__"),.str "__module__" 273,.str "shadowpages.errors" 214⟩,ki P "__firstlineno__" 277 21 276,kr P "__static_attributes__" 278 66,kn P "__doc__" 279] 2),#[]⟩) ::
 (nat_lit 68,⟨.type "type",none,(.cls ⟨"NoPage",[.ref 31],[.ref 68,.ref 31,.type "ValueError",.type "Exception",.type "BaseException",.type "object"],67,"NoPage",true,[],[],false,none,false⟩),#[(some (.ref 59)),none,(some (.str "NoPage" 266)),(some (.str "NoPage" 274)),(some (.builtin "ValueError.__new__")),(some (.bool true))]⟩) ::
 (nat_lit 79,⟨.type "dict",none,(.dict #[⟨(PyData.keyHash P "__module__"),.str "__module__" 289,.str "shadowpages.errors" 214⟩,ki P "__firstlineno__" 293 23 292,kr P "__static_attributes__" 294 78,kn P "__doc__" 295] 2),#[]⟩) ::
 (nat_lit 80,⟨.type "type",none,(.cls ⟨"NoImage",[.ref 31],[.ref 80,.ref 31,.type "ValueError",.type "Exception",.type "BaseException",.type "object"],79,"NoImage",true,[],[],false,none,false⟩),#[(some (.ref 71)),none,(some (.str "NoImage" 282)),(some (.str "NoImage" 290)),(some (.builtin "ValueError.__new__")),(some (.bool true))]⟩) ::
 (nat_lit 91,⟨.type "dict",none,(.dict #[⟨(PyData.keyHash P "__module__"),.str "__module__" 305,.str "shadowpages.errors" 214⟩,ki P "__firstlineno__" 309 25 308,kr P "__static_attributes__" 310 90,kn P "__doc__" 311] 2),#[]⟩) ::
 (nat_lit 92,⟨.type "type",none,(.cls ⟨"NoShelf",[.ref 31],[.ref 92,.ref 31,.type "ValueError",.type "Exception",.type "BaseException",.type "object"],91,"NoShelf",true,[],[],false,none,false⟩),#[(some (.ref 83)),none,(some (.str "NoShelf" 298)),(some (.str "NoShelf" 306)),(some (.builtin "ValueError.__new__")),(some (.bool true))]⟩) ::
 (nat_lit 103,⟨.type "dict",none,(.dict #[⟨(PyData.keyHash P "__module__"),.str "__module__" 321,.str "shadowpages.errors" 214⟩,ki P "__firstlineno__" 325 27 324,kr P "__static_attributes__" 326 102,kn P "__doc__" 327] 2),#[]⟩) ::
 (nat_lit 104,⟨.type "type",none,(.cls ⟨"NoBound",[.ref 31],[.ref 104,.ref 31,.type "ValueError",.type "Exception",.type "BaseException",.type "object"],103,"NoBound",true,[],[],false,none,false⟩),#[(some (.ref 95)),none,(some (.str "NoBound" 314)),(some (.str "NoBound" 322)),(some (.builtin "ValueError.__new__")),(some (.bool true))]⟩) ::
 (nat_lit 119,⟨.type "code",none,oD 119 "__init__" "NoProgram.__init__" 342 31 2 347,#[]⟩) ::
 (nat_lit 120,⟨.type "function",none,.func (oF "__init__" "NoProgram.__init__" (inClass (top 19) 0) "shadowpages.errors" 214 119),#[]⟩) ::
 (nat_lit 122,⟨.type "dict",none,(.dict #[⟨(PyData.keyHash P "__module__"),.str "__module__" 337,.str "shadowpages.errors" 214⟩,ki P "__firstlineno__" 341 29 340,kr P "__init__" 349 120,kr P "__static_attributes__" 351 121,kn P "__doc__" 352] 2),#[]⟩) ::
 (nat_lit 123,⟨.type "type",none,(.cls ⟨"NoProgram",[.ref 31],[.ref 123,.ref 31,.type "ValueError",.type "Exception",.type "BaseException",.type "object"],122,"NoProgram",true,[],[],false,none,false⟩),#[(some (.ref 107)),none,(some (.str "NoProgram" 330)),(some (.str "NoProgram" 338)),(some (.builtin "ValueError.__new__")),(some (.bool true))]⟩) ::
 (nat_lit 141,⟨.type "dict",none,(.dict #[⟨(PyData.keyHash P "__module__"),.str "__module__" 362,.str "shadowpages.errors" 214⟩,ki P "__firstlineno__" 366 33 365,kr P "__init__" 374 139,kr P "__static_attributes__" 376 140,kn P "__doc__" 377] 2),#[]⟩) ::
 (nat_lit 142,⟨.type "type",none,(.cls ⟨"NoText",[.ref 31],[.ref 142,.ref 31,.type "ValueError",.type "Exception",.type "BaseException",.type "object"],141,"NoText",true,[],[],false,none,false⟩),#[(some (.ref 126)),none,(some (.str "NoText" 355)),(some (.str "NoText" 363)),(some (.builtin "ValueError.__new__")),(some (.bool true))]⟩) ::
 (nat_lit 160,⟨.type "dict",none,(.dict #[⟨(PyData.keyHash P "__module__"),.str "__module__" 387,.str "shadowpages.errors" 214⟩,ki P "__firstlineno__" 391 37 390,kr P "__init__" 401 158,kr P "__static_attributes__" 405 159,kn P "__doc__" 406] 2),#[]⟩) ::
 (nat_lit 161,⟨.type "type",none,(.cls ⟨"Fault",[.ref 31],[.ref 161,.ref 31,.type "ValueError",.type "Exception",.type "BaseException",.type "object"],160,"Fault",true,[],[],false,none,false⟩),#[(some (.ref 145)),none,(some (.str "Fault" 380)),(some (.str "Fault" 388)),(some (.builtin "ValueError.__new__")),(some (.bool true))]⟩) ::
 (nat_lit 169,⟨.type "code",none,oD 169 "is_whole" "is_whole" 411 44 1 415,#[]⟩) ::
 (nat_lit 170,⟨.type "function",none,.func (oF "is_whole" "is_whole" (top 23) "shadowpages.words" 409 169),#[]⟩) ::
 (nat_lit 176,⟨.type "code",none,oD 176 "is_below" "is_below" 418 46 2 423,#[]⟩) ::
 (nat_lit 177,⟨.type "function",none,.func (oF "is_below" "is_below" (top 24) "shadowpages.words" 409 176),#[]⟩) ::
 (nat_lit 183,⟨.type "code",none,oD 183 "is_word" "is_word" 426 48 1 430,#[]⟩) ::
 (nat_lit 184,⟨.type "function",none,.func (oF "is_word" "is_word" (top 25) "shadowpages.words" 409 183),#[]⟩) ::
 (nat_lit 185,⟨.type "dict",none,.dict #[kr P "set" 435 186,kr P "add" 439 187,kr P "both" 443 188,kr P "odd" 447 189,kr P "load" 451 190,kr P "save" 455 191,kr P "jump" 459 192,kr P "nought" 462 193,kr P "tell" 466 194,kr P "call" 469 195,kr P "halt" 471 196,kr P "peek" 473 197,kr P "poke" 477 198,kr P "root" 481 199,kr P "drop" 484 200,kr P "give" 487 201,kr P "want" 490 202,kr P "why" 493 204,kr P "back" 496 205,kr P "past" 497 206,kr P "user" 498 207] 21,#[]⟩) ::
 (nat_lit 186,⟨.type "tuple",none,.seq #[.str "a" 436,.str "word" 437] 0,#[]⟩) ::
 (nat_lit 187,⟨.type "tuple",none,.seq #[.str "a" 440,.str "b" 441] 0,#[]⟩) ::
 (nat_lit 188,⟨.type "tuple",none,.seq #[.str "a" 444,.str "b" 445] 0,#[]⟩) ::
 (nat_lit 189,⟨.type "tuple",none,.seq #[.str "a" 448,.str "b" 449] 0,#[]⟩) ::
 (nat_lit 190,⟨.type "tuple",none,.seq #[.str "a" 452,.str "b" 453] 0,#[]⟩) ::
 (nat_lit 191,⟨.type "tuple",none,.seq #[.str "a" 456,.str "b" 457] 0,#[]⟩) ::
 (nat_lit 192,⟨.type "tuple",none,.seq #[.str "at" 460] 0,#[]⟩) ::
 (nat_lit 193,⟨.type "tuple",none,.seq #[.str "a" 463,.str "at" 464] 0,#[]⟩) ::
 (nat_lit 194,⟨.type "tuple",none,.seq #[.str "a" 467] 0,#[]⟩) ::
 (nat_lit 195,⟨.type "tuple",none,.seq #[] 0,#[]⟩) ::
 (nat_lit 196,⟨.type "tuple",none,.seq #[] 0,#[]⟩) ::
 (nat_lit 197,⟨.type "tuple",none,.seq #[.str "a" 474,.str "b" 475] 0,#[]⟩) ::
 (nat_lit 198,⟨.type "tuple",none,.seq #[.str "a" 478,.str "b" 479] 0,#[]⟩) ::
 (nat_lit 199,⟨.type "tuple",none,.seq #[.str "a" 482] 0,#[]⟩) ::
 (nat_lit 200,⟨.type "tuple",none,.seq #[.str "a" 485] 0,#[]⟩) ::
 (nat_lit 201,⟨.type "tuple",none,.seq #[.str "a" 488] 0,#[]⟩) ::
 (nat_lit 202,⟨.type "tuple",none,.seq #[.str "a" 491] 0,#[]⟩) ::
 (nat_lit 204,⟨.type "tuple",none,.seq #[.str "a" 494,.str "b" 495] 0,#[]⟩) ::
 (nat_lit 205,⟨.type "tuple",none,.seq #[] 0,#[]⟩) ::
 (nat_lit 206,⟨.type "tuple",none,.seq #[] 0,#[]⟩) ::
 (nat_lit 207,⟨.type "tuple",none,.seq #[.str "at" 499] 0,#[]⟩) ::
 (nat_lit 211,⟨.type "code",none,.fields #[.str "is_order" 505,.str "is_order" 506,.str "/claim/cut.py" 507,.int 52 0,.int 1 0,.int 0 0,.int 0 0,.int 3 0,.ref 208,.bool true,.int 181 0,.ref 209,.none,.none,.none,.ref 210,.int 508 0,.int 52 0,.str "/claim/cut.py" 509],#[]⟩) ::
 (nat_lit 212,⟨.type "function",none,.func (oF "is_order" "is_order" (top 28) "shadowpages.orders" 433 211),#[]⟩) ::
 (nat_lit 218,⟨.type "code",none,oD 218 "bound_of" "bound_of" 511 61 1 515,#[]⟩) ::
 (nat_lit 219,⟨.type "function",none,.func (oF "bound_of" "bound_of" (top 29) "shadowpages.orders" 433 218),#[]⟩) ::
 (nat_lit 225,⟨.type "code",none,oD 225 "checked" "checked" 518 67 2 525,#[]⟩) ::
 (nat_lit 226,⟨.type "function",none,.func (oF "checked" "checked" (top 30) "shadowpages.orders" 433 225),#[]⟩) ::
 (nat_lit 253,⟨.type "code",none,oD 253 "__init__" "Shelf.__init__" 559 86 2 564,#[]⟩) ::
 (nat_lit 254,⟨.type "function",none,.func (oF "__init__" "Shelf.__init__" (inClass (top 35) 0) "shadowpages.shelf" 545 253),#[]⟩) ::
 (nat_lit 289,⟨.type "dict",none,(.dict #[⟨(PyData.keyHash P "__module__"),.str "__module__" 554,.str "shadowpages.shelf" 545⟩,ki P "__firstlineno__" 558 84 557,kr P "__init__" 566 254,kr P "seek" 574 261,kr P "keep" 585 268,kr P "drop" 593 275,kr P "empty" 600 282,kr P "told" 606 287,kr P "__static_attributes__" 609 288,kr P "__dict__" 611 291,kr P "__weakref__" 613 292,kn P "__doc__" 614] 4),#[]⟩) ::
 (nat_lit 290,⟨.type "type",none,(.cls ⟨"Shelf",[.type "object"],[.ref 290,.type "object"],289,"Shelf",true,[],[],false,none,false⟩),#[none,none,(some (.str "Shelf" 547)),(some (.str "Shelf" 555)),(some (.builtin "object.__new__")),(some (.bool true))]⟩) ::
 (nat_lit 291,⟨.type "getset_descriptor",none,.fields #[.str "__dict__" 610,.ref 290,.builtin "function.__dict__",.builtin "function.__dict__#set"],#[]⟩) ::
 (nat_lit 292,⟨.type "getset_descriptor",none,.fields #[.str "__weakref__" 612,.ref 290,.builtin "ExceptionGroup.__weakref__",.none],#[]⟩) ::
 (nat_lit 298,⟨.type "code",none,.fields #[.str "is_eight_words" 619,.str "is_eight_words" 620,.str "/claim/cut.py" 621,.int 115 0,.int 1 0,.int 0 0,.int 0 0,.int 3 0,.ref 295,.bool true,.int 181 0,.ref 296,.none,.none,.none,.ref 297,.int 622 0,.int 115 0,.str "/claim/cut.py" 623],#[]⟩) ::
 (nat_lit 299,⟨.type "function",none,.func (oF "is_eight_words" "is_eight_words" (top 37) "shadowpages.store" 617 298),#[]⟩) ::
 (nat_lit 305,⟨.type "code",none,oD 305 "check_image" "check_image" 625 117 1 630,#[]⟩) ::
 (nat_lit 306,⟨.type "function",none,.func (oF "check_image" "check_image" (top 38) "shadowpages.store" 617 305),#[]⟩) ::
 (nat_lit 383,⟨.type "dict",none,(.dict #[⟨(PyData.keyHash P "__module__"),.str "__module__" 647,.str "shadowpages.store" 617⟩,ki P "__firstlineno__" 651 126 650,kr P "size" 658 327,kr P "has" 666 334,kr P "word_at" 675 341,kr P "put_word" 685 348,kr P "read" 694 355,kr P "write" 704 362,kr P "words_of" 710 367,kr P "check_spot" 719 374,kr P "check_page" 727 381,kr P "__static_attributes__" 728 382,kr P "__dict__" 730 385,kr P "__weakref__" 732 386,kn P "__doc__" 733] 4),#[]⟩) ::
 (nat_lit 384,⟨.type "type",none,(.cls ⟨"Store",[.type "object"],[.ref 384,.type "object"],383,"Store",true,[],[.ref 450,.ref 656],false,none,false⟩),#[none,none,(some (.str "Store" 640)),(some (.str "Store" 648)),(some (.builtin "object.__new__")),(some (.bool true))]⟩) ::
 (nat_lit 385,⟨.type "getset_descriptor",none,.fields #[.str "__dict__" 729,.ref 384,.builtin "function.__dict__",.builtin "function.__dict__#set"],#[]⟩) ::
 (nat_lit 386,⟨.type "getset_descriptor",none,.fields #[.str "__weakref__" 731,.ref 384,.builtin "ExceptionGroup.__weakref__",.none],#[]⟩) ::
 (nat_lit 399,⟨.type "code",none,.fields #[.str "__init__" 748,.str "Memory.__init__" 749,.str "/claim/cut.py" 750,.int 162 0,.int 2 0,.int 0 0,.int 0 0,.int 3 0,.ref 396,.bool true,.int 181 0,.ref 397,.none,.none,.none,.ref 398,.int 751 0,.int 162 0,.str "/claim/cut.py" 752],#[]⟩) ::
 (nat_lit 400,⟨.type "function",none,.func (oF "__init__" "Memory.__init__" (inClass (top 41) 0) "shadowpages.store" 617 399),#[]⟩) ::
 (nat_lit 449,⟨.type "dict",none,(.dict #[⟨(PyData.keyHash P "__module__"),.str "__module__" 743,.str "shadowpages.store" 617⟩,ki P "__firstlineno__" 747 160 746,kr P "__init__" 753 400,kr P "size" 760 407,kr P "has" 768 414,kr P "word_at" 777 421,kr P "put_word" 787 428,kr P "give" 795 435,kr P "lay" 804 442,kr P "told" 810 447,kr P "__static_attributes__" 812 448,kn P "__doc__" 813] 2),#[]⟩) ::
 (nat_lit 450,⟨.type "type",none,(.cls ⟨"Memory",[.ref 384],[.ref 450,.ref 384,.type "object"],449,"Memory",true,[],[],false,none,false⟩),#[(some (.ref 389)),none,(some (.str "Memory" 736)),(some (.str "Memory" 744)),(some (.builtin "object.__new__")),(some (.bool true))]⟩) ::
 (nat_lit 528,⟨.type "code",none,oD 528 "__init__" "Ways.__init__" 931 243 2 936,#[]⟩) ::
 (nat_lit 529,⟨.type "function",none,.func (oF "__init__" "Ways.__init__" (inClass (top 59) 0) "shadowpages.ways" 917 528),#[]⟩) ::
 (nat_lit 655,⟨.type "dict",none,(.dict #[⟨(PyData.keyHash P "__module__"),.str "__module__" 926,.str "shadowpages.ways" 917⟩,ki P "__firstlineno__" 930 241 929,kr P "__init__" 938 529,kr P "give_up" 946 536,kr P "come_back" 954 543,kr P "ask_house" 961 550,kr P "load" 971 557,kr P "save" 982 564,kr P "reach" 993 571,kr P "remembered" 1004 578,kr P "walked" 1016 585,kr P "peek" 1024 592,kr P "poke" 1033 599,kr P "check_beyond" 1041 606,kr P "root" 1048 613,kr P "turn_root" 1056 620,kr P "drop" 1064 627,kr P "give" 1072 634,kr P "want" 1080 641,kr P "shelf" 1087 648,kr P "pages" 1093 653,kr P "__static_attributes__" 1096 654,kn P "__doc__" 1097] 2),#[]⟩) ::
 (nat_lit 656,⟨.type "type",none,(.cls ⟨"Ways",[.ref 384],[.ref 656,.ref 384,.type "object"],655,"Ways",true,[],[.ref 724],false,none,false⟩),#[(some (.ref 516)),none,(some (.str "Ways" 919)),(some (.str "Ways" 927)),(some (.builtin "object.__new__")),(some (.bool true))]⟩) ::
 (nat_lit 671,⟨.type "code",none,oD 671 "__init__" "Plain.__init__" 1112 326 4 1119,#[]⟩) ::
 (nat_lit 672,⟨.type "function",none,.func (oF "__init__" "Plain.__init__" (inClass (top 60) 0) "shadowpages.ways" 917 671),#[]⟩) ::
 (nat_lit 723,⟨.type "dict",none,(.dict #[⟨(PyData.keyHash P "__module__"),.str "__module__" 1107,.str "shadowpages.ways" 917⟩,ki P "__firstlineno__" 1111 324 1110,kr P "__init__" 1121 672,kr P "size" 1128 679,kr P "has" 1136 686,kr P "word_at" 1145 693,kr P "put_word" 1155 700,kr P "give_up" 1163 707,kr P "come_back" 1171 714,kr P "ask_house" 1178 721,kr P "__static_attributes__" 1181 722,kn P "__doc__" 1182] 2),#[]⟩) ::
 (nat_lit 724,⟨.type "type",none,(.cls ⟨"Plain",[.ref 656],[.ref 724,.ref 656,.ref 384,.type "object"],723,"Plain",true,[],[],false,none,false⟩),#[(some (.ref 659)),none,(some (.str "Plain" 1100)),(some (.str "Plain" 1108)),(some (.builtin "object.__new__")),(some (.bool true))]⟩) ::
 (nat_lit 732,⟨.type "code",none,oD 732 "first_core" "first_core" 1187 354 0 1190,#[]⟩) ::
 (nat_lit 733,⟨.type "function",none,.func (oF "first_core" "first_core" (top 62) "shadowpages.machine" 1185 732),#[]⟩) ::
 (nat_lit 741,⟨.type "tuple",none,.seq #[.none,.none] 0,#[]⟩) ::
 (nat_lit 747,⟨.type "code",none,oD 747 "__init__" "Machine.__init__" 1205 358 6 1215,#[]⟩) ::
 (nat_lit 748,⟨.type "function",none,(.func ⟨"__init__","Machine.__init__",defArgs (inClass (top 63) 0),.stmts (defBody (inClass (top 63) 0)),defScope (inClass (top 63) 0),3,[],.ref 741,.none,.none,.str "shadowpages.machine" 1185,none,.ref 747,.none,0⟩),#[]⟩) ::
 (nat_lit 754,⟨.type "code",none,oD 754 "arrive" "Machine.arrive" 1218 371 2 1223,#[]⟩) ::
 (nat_lit 755,⟨.type "function",none,.func (oF "arrive" "Machine.arrive" (inClass (top 63) 1) "shadowpages.machine" 1185 754),#[]⟩) ::
 (nat_lit 810,⟨.type "code",none,oD 810 "program" "Machine.program" 1278 397 1 1282,#[]⟩) ::
 (nat_lit 811,⟨.type "function",none,.func (oF "program" "Machine.program" (inClass (top 63) 9) "shadowpages.machine" 1185 810),#[]⟩) ::
 (nat_lit 817,⟨.type "code",none,oD 817 "entry" "Machine.entry" 1285 400 1 1289,#[]⟩) ::
 (nat_lit 818,⟨.type "function",none,.func (oF "entry" "Machine.entry" (inClass (top 63) 10) "shadowpages.machine" 1185 817),#[]⟩) ::
 (nat_lit 820,⟨.type "dict",none,(.dict #[⟨(PyData.keyHash P "__module__"),.str "__module__" 1200,.str "shadowpages.machine" 1185⟩,ki P "__firstlineno__" 1204 356 1203,kr P "__init__" 1217 748,kr P "arrive" 1225 755,kr P "turn" 1233 762,kr P "step" 1240 769,kr P "obey" 1248 776,kr P "fail" 1256 783,kr P "core" 1263 790,kr P "events" 1270 797,kr P "told" 1277 804,kr P "program" 1284 811,kr P "entry" 1291 818,kr P "__static_attributes__" 1301 819,kr P "__dict__" 1303 822,kr P "__weakref__" 1305 823,kn P "__doc__" 1306] 4),#[]⟩) ::
 (nat_lit 821,⟨.type "type",none,(.cls ⟨"Machine",[.type "object"],[.ref 821,.type "object"],820,"Machine",true,[],[],false,none,false⟩),#[none,none,(some (.str "Machine" 1193)),(some (.str "Machine" 1201)),(some (.builtin "object.__new__")),(some (.bool true))]⟩) ::
 (nat_lit 822,⟨.type "getset_descriptor",none,.fields #[.str "__dict__" 1302,.ref 821,.builtin "function.__dict__",.builtin "function.__dict__#set"],#[]⟩) ::
 (nat_lit 823,⟨.type "getset_descriptor",none,.fields #[.str "__weakref__" 1304,.ref 821,.builtin "ExceptionGroup.__weakref__",.none],#[]⟩) ::
 (nat_lit 831,⟨.type "code",none,oD 831 "bare" "bare" 1309 402 5 1317,#[]⟩) ::
 (nat_lit 832,⟨.type "function",none,.func (oF "bare" "bare" (top 64) "shadowpages.machine" 1185 831),#[]⟩) ::
 (nat_lit 838,⟨.type "code",none,oD 838 "_law_cell_at" "_law_cell_at" 1322 405 2 1327,#[]⟩) ::
 (nat_lit 839,⟨.type "function",none,.func (oF "_law_cell_at" "_law_cell_at" (top 66) "law_shadowpages_k32_programs_refused" 1320 838),#[]⟩) ::
 (nat_lit 845,⟨.type "code",none,oD 845 "_law_mix" "_law_mix" 1330 409 3 1336,#[]⟩) ::
 (nat_lit 846,⟨.type "function",none,.func (oF "_law_mix" "_law_mix" (top 67) "law_shadowpages_k32_programs_refused" 1320 845),#[]⟩) ::
 (nat_lit 852,⟨.type "code",none,oD 852 "_law_row" "_law_row" 1339 411 1 1347,#[]⟩) ::
 (nat_lit 853,⟨.type "function",none,.func (oF "_law_row" "_law_row" (top 68) "law_shadowpages_k32_programs_refused" 1320 852),#[]⟩) ::
 (nat_lit 859,⟨.type "code",none,oD 859 "_law_spoil" "_law_spoil" 1350 418 2 1359,#[]⟩) ::
 (nat_lit 860,⟨.type "function",none,.func (oF "_law_spoil" "_law_spoil" (top 69) "law_shadowpages_k32_programs_refused" 1320 859),#[]⟩) ::
 (nat_lit 866,⟨.type "code",none,oD 866 "_law_refused" "_law_refused" 1362 428 5 1372,#[]⟩) ::
 (nat_lit 867,⟨.type "function",none,.func (oF "_law_refused" "_law_refused" (top 70) "law_shadowpages_k32_programs_refused" 1320 866),#[]⟩) ::
 (nat_lit 873,⟨.type "code",none,oD 873 "_law_is_no_program" "_law_is_no_program" 1375 440 2 1380,#[]⟩) ::
 (nat_lit 874,⟨.type "function",none,.func (oF "_law_is_no_program" "_law_is_no_program" (top 71) "law_shadowpages_k32_programs_refused" 1320 873),#[]⟩) ::
 (nat_lit 878,⟨.type "code",none,.fields #[.str "law" 1383,.str "law" 1384,.str "/claim/cut.py" 1385,.int 450 0,.int 1 0,.int 0 0,.int 0 0,.int 3 0,.ref 875,.bool true,.int 181 0,.ref 876,.none,.none,.none,.ref 877,.int 1386 0,.int 450 0,.str "/claim/cut.py" 1387],#[]⟩) ::
 (nat_lit 879,⟨.type "function",none,.func (oF "law" "law" (top 72) "law_shadowpages_k32_programs_refused" 1320 878),#[]⟩)::[]
def asF:List Nat:=[2,3,30,31,32,43,44,55,56,67,68,79,80,91,92,103,104,119,120,122,123,141,142,160,161,169,170,176,177,183,184,185,186,187,188,189,190,191,192,193,194,195,196,197,198,199,200,201,202,204,205,206,207,211,212,218,219,225,226,253,254,289,290,291,292,298,299,305,306,383,384,385,386,399,400,449,450,528,529,655,656,671,672,723,724,732,733,741,747,748,754,755,810,811,817,818,820,821,822,823,831,832,838,839,845,846,852,853,859,860,866,867,873,874,878,879]
theorem hF (P:Params):asF=(KF P).map (·.1):=by kernel_rfl
noncomputable def vw:Program:={ PySem.Challenge.pw_shadowpages_k32_programs_refused with main:={ PySem.Challenge.pw_shadowpages_k32_programs_refused.main with body:=[top 0,top 1,top 2,top 3,top 4,top 5,top 6,top 7,top 8,top 9,top 10,top 12,top 13,top 14,top 15,top 16,top 17,top 18,top 19,top 20,top 21,top 23,top 24,top 25,top 27,top 28,top 29,top 30,top 32,top 33,top 35,top 37,top 38,top 39,top 40,top 41,top 43,top 44,top 45,top 46,top 47,top 48,top 49,top 50,top 52,top 53,top 54,top 55,top 56,top 57,top 59,top 60,top 62,top 63,top 64,top 66,top 67,top 68,top 69,top 70,top 71,top 72] } }
abbrev LK (K:Frag) (f:Addr) (oc:Value) (od:Option Addr) (x y:Str) (st:Stmt) (kV dc pm:Value) (an:Option Addr) (cd ct:Value) (sl:Array (Option Value)):Prop:=K.lookup f=some ⟨oc,od,.func (fnOf x y (defArgs st) (defBody st) (defScope st) .none kV dc pm an cd ct),sl⟩
abbrev NI (K:Frag) (x:Str) (a:Addr):Prop:=nsIn K mainGlobals x=some (some (.ref a))
set_option maxHeartbeats 0
theorem hl1x (w:World):(λos=>HT1.look1 PySem.Challenge.rw_shadowpages_k32_programs_refused.row.prog vw ["FORMS"] (λs=>PySem.W.xlAt vw [] s && PySem.W.recOk [] s) 14018 true (w.withFollow "special-get-raises" false) os)=λ_=>some (true,HT1.c1 (PySem.W.openGood vw ["FORMS"]),HT1.c1 (HT1.c2 (PySem.W.openGood vw ["FORMS"]))):=by
 rw [PySem.W.Fast.te14291521946986476441,PySem.W.Fast.te4757257242682413121,PySem.W.Fast.te6483871617321286689,PySem.W.Fast.te3486900944545009338]
 kernel_rfl
theorem hl1y (w:World):(λos=>HT1.look1 PySem.Challenge.rw_shadowpages_k32_programs_refused.row.prog vw ["FORMS"] (λs=>PySem.W.xlAt vw [] s && PySem.W.recOk [] s) 14018 true (w.withFollow "special-get-raises" true) os)=λ_=>some (true,HT1.c1 (PySem.W.openGood vw ["FORMS"]),HT1.c1 (HT1.c2 (PySem.W.openGood vw ["FORMS"]))):=by
 rw [PySem.W.Fast.te14291521946986476441,PySem.W.Fast.te4757257242682413121,PySem.W.Fast.te6483871617321286689,PySem.W.Fast.te3486900944545009338]
 kernel_rfl
theorem hl1 (w:World):(λos=>HT1.look1 PySem.Challenge.rw_shadowpages_k32_programs_refused.row.prog vw ["FORMS"] (λs=>PySem.W.xlAt vw [] s && PySem.W.recOk [] s) 14018 true w os)=λ_=>some (true,HT1.c1 (PySem.W.openGood vw ["FORMS"]),HT1.c1 (HT1.c2 (PySem.W.openGood vw ["FORMS"]))):=PySem.W.byRow2 "special-get-raises" (P:=λw=>(λos=>HT1.look1 PySem.Challenge.rw_shadowpages_k32_programs_refused.row.prog vw ["FORMS"] (λs=>PySem.W.xlAt vw [] s && PySem.W.recOk [] s) 14018 true w os)=λ_=>some (true,HT1.c1 (PySem.W.openGood vw ["FORMS"]),HT1.c1 (HT1.c2 (PySem.W.openGood vw ["FORMS"])))) hl1x hl1y w
theorem hl2x (w:World):(λos=>HT1.look2 PySem.Challenge.rw_shadowpages_k32_programs_refused.row.prog vw ["FORMS"] (λs=>PySem.W.xlAt vw [] s && PySem.W.recOk [] s) 14018 true (w.withFollow "special-get-raises" false) os)=λ_=>some true:=by
 rw [PySem.W.Fast.te13762528064428209178,PySem.W.Fast.te4757257242682413121,PySem.W.Fast.te6483871617321286689]
 kernel_rfl
theorem hl2y (w:World):(λos=>HT1.look2 PySem.Challenge.rw_shadowpages_k32_programs_refused.row.prog vw ["FORMS"] (λs=>PySem.W.xlAt vw [] s && PySem.W.recOk [] s) 14018 true (w.withFollow "special-get-raises" true) os)=λ_=>some true:=by
 rw [PySem.W.Fast.te13762528064428209178,PySem.W.Fast.te4757257242682413121,PySem.W.Fast.te6483871617321286689]
 kernel_rfl
theorem hl2 (w:World):(λos=>HT1.look2 PySem.Challenge.rw_shadowpages_k32_programs_refused.row.prog vw ["FORMS"] (λs=>PySem.W.xlAt vw [] s && PySem.W.recOk [] s) 14018 true w os)=λ_=>some true:=PySem.W.byRow2 "special-get-raises" (P:=λw=>(λos=>HT1.look2 PySem.Challenge.rw_shadowpages_k32_programs_refused.row.prog vw ["FORMS"] (λs=>PySem.W.xlAt vw [] s && PySem.W.recOk [] s) 14018 true w os)=λ_=>some true) hl2x hl2y w
theorem hl4x (w:World):(λos=>HT1.look4 PySem.Challenge.rw_shadowpages_k32_programs_refused.row.prog vw ["FORMS"] (λs=>PySem.W.xlAt vw [] s && PySem.W.recOk [] s) 14018 true (w.withFollow "special-get-raises" false) os)=λ_=>some true:=by
 rw [PySem.W.Fast.te3539664761599828648,PySem.W.Fast.te4757257242682413121,PySem.W.Fast.te6483871617321286689]
 kernel_rfl
theorem hl4y (w:World):(λos=>HT1.look4 PySem.Challenge.rw_shadowpages_k32_programs_refused.row.prog vw ["FORMS"] (λs=>PySem.W.xlAt vw [] s && PySem.W.recOk [] s) 14018 true (w.withFollow "special-get-raises" true) os)=λ_=>some true:=by
 rw [PySem.W.Fast.te3539664761599828648,PySem.W.Fast.te4757257242682413121,PySem.W.Fast.te6483871617321286689]
 kernel_rfl
theorem hl4 (w:World):(λos=>HT1.look4 PySem.Challenge.rw_shadowpages_k32_programs_refused.row.prog vw ["FORMS"] (λs=>PySem.W.xlAt vw [] s && PySem.W.recOk [] s) 14018 true w os)=λ_=>some true:=PySem.W.byRow2 "special-get-raises" (P:=λw=>(λos=>HT1.look4 PySem.Challenge.rw_shadowpages_k32_programs_refused.row.prog vw ["FORMS"] (λs=>PySem.W.xlAt vw [] s && PySem.W.recOk [] s) 14018 true w os)=λ_=>some true) hl4x hl4y w
theorem hl3x (w:World):(λos=>HT1.look3 PySem.Challenge.rw_shadowpages_k32_programs_refused.row.prog vw ["FORMS"] (λs=>PySem.W.xlAt vw [] s && PySem.W.recOk [] s) asF 14018 true (w.withFollow "special-get-raises" false) os)=λ_=>some (HT1.c2 (HT1.c2 (HT1.c2 (HT1.c2 (PySem.W.openGood vw ["FORMS"])))),(KF (w.withFollow "special-get-raises" false).params).map λp=>some p.2):=by
 rw [PySem.W.Fast.te242098903862472777,PySem.W.Fast.te4757257242682413121,PySem.W.Fast.te6483871617321286689,PySem.W.Fast.te3486900944545009338]
 kernel_rfl
theorem hl3y (w:World):(λos=>HT1.look3 PySem.Challenge.rw_shadowpages_k32_programs_refused.row.prog vw ["FORMS"] (λs=>PySem.W.xlAt vw [] s && PySem.W.recOk [] s) asF 14018 true (w.withFollow "special-get-raises" true) os)=λ_=>some (HT1.c2 (HT1.c2 (HT1.c2 (HT1.c2 (PySem.W.openGood vw ["FORMS"])))),(KF (w.withFollow "special-get-raises" true).params).map λp=>some p.2):=by
 rw [PySem.W.Fast.te242098903862472777,PySem.W.Fast.te4757257242682413121,PySem.W.Fast.te6483871617321286689,PySem.W.Fast.te3486900944545009338]
 kernel_rfl
theorem hl3 (w:World):(λos=>HT1.look3 PySem.Challenge.rw_shadowpages_k32_programs_refused.row.prog vw ["FORMS"] (λs=>PySem.W.xlAt vw [] s && PySem.W.recOk [] s) asF 14018 true w os)=λ_=>some (HT1.c2 (HT1.c2 (HT1.c2 (HT1.c2 (PySem.W.openGood vw ["FORMS"])))),(KF w.params).map λp=>some p.2):=PySem.W.byRow2 "special-get-raises" (P:=λw=>(λos=>HT1.look3 PySem.Challenge.rw_shadowpages_k32_programs_refused.row.prog vw ["FORMS"] (λs=>PySem.W.xlAt vw [] s && PySem.W.recOk [] s) asF 14018 true w os)=λ_=>some (HT1.c2 (HT1.c2 (HT1.c2 (HT1.c2 (PySem.W.openGood vw ["FORMS"])))),(KF w.params).map λp=>some p.2)) hl3x hl3y w
theorem hl:PySem.W.LeftO PySem.Challenge.rw_shadowpages_k32_programs_refused.row.prog vw ["FORMS"] (λs=>PySem.W.xlAt vw [] s && PySem.W.recOk [] s) (PySem.W.kHook KF asF hF).obs (PySem.W.kHook KF asF hF).val 14018:=HT1.left_cut (by rfl) (by rfl) (λ_=>rfl) hl1 hl2 hl4 hl3
end K32
end
section
namespace L2
open PySem PySem.Spec PyProof.Rows
abbrev Key:=Sum Int Str
def keyIs:Key->Value->Bool
 | .inl k,v=>Value.isInt k v
 | .inr x,v=>Value.isStrOf x v
def keyH (w:World):Key->Int
 | .inl k=>hashInt k
 | .inr x=>hashStr w x
theorem keyIs_shape:∀ {k:Key} {v:Value},keyIs k v=true->(∃ i t,k=Sum.inl i/\v=Value.int i t)\/(∃ x t,k=Sum.inr x/\v=Value.str x t)
 | .inl i,v,h=>by
  obtain ⟨t,e⟩:=Value.isInt_shape (k:=i) (v:=v) h
  exact .inl ⟨i,t,rfl,e⟩
 | .inr x,v,h=>by
  obtain ⟨t,e⟩:=Value.isStrOf_shape (x:=x) (v:=v) h
  exact .inr ⟨x,t,rfl,e⟩
theorem key_ll (a b:Int):decide ((Sum.inl a:Key)=Sum.inl b)=(a == b):=by
 by_cases e:a=b
 ·subst e; simp
 ·have h:¬ (Sum.inl a:Key)=Sum.inl b:=λq=>e (Sum.inl.inj q)
  rw [decide_eq_false h]
  exact (beq_eq_false_iff_ne.mpr e).symm
theorem key_rr (a b:Str):decide ((Sum.inr a:Key)=Sum.inr b)=decide (a=b):=by
 by_cases e:a=b
 ·subst e; simp
 ·have h:¬ (Sum.inr a:Key)=Sum.inr b:=λq=>e (Sum.inr.inj q)
  rw [decide_eq_false h,decide_eq_false e]
theorem key_lr (a:Int) (b:Str):decide ((Sum.inl a:Key)=Sum.inr b)=false:=decide_eq_false (λq=>nomatch q)
theorem key_rl (a:Str) (b:Int):decide ((Sum.inr a:Key)=Sum.inl b)=false:=decide_eq_false (λq=>nomatch q)
def mixKind (prog:Program) (w:World):PySem.KeyKind prog w Key where
 is:=keyIs
 hash:=keyH w
 inj:=λv a b ha hb=>by
  rcases keyIs_shape ha with ⟨i,t,rfl,rfl⟩ | ⟨x,t,rfl,rfl⟩
  ·rcases keyIs_shape hb with ⟨j,u,rfl,e⟩ | ⟨y,u,rfl,e⟩
   ·injection e with e1 _; rw [e1]
   ·exact nomatch e
  ·rcases keyIs_shape hb with ⟨j,u,rfl,e⟩ | ⟨y,u,rfl,e⟩
   ·exact nomatch e
   ·injection e with e1 _; rw [e1]
 byValue:=λk v h=>by
  rcases keyIs_shape h with ⟨i,t,rfl,rfl⟩ | ⟨x,t,rfl,rfl⟩ <;> rfl
 pyHash:=λhv h=>by
  rcases keyIs_shape hv with ⟨i,t,rfl,rfl⟩ | ⟨x,t,rfl,rfl⟩
  ·exact wpAny_pyHash_int h
  ·exact wpAny_pyHash_str h
 eqBool:=λhu hv h=>by
  rcases keyIs_shape hu with ⟨i,t,rfl,rfl⟩ | ⟨x,t,rfl,rfl⟩
  ·rcases keyIs_shape hv with ⟨j,u,rfl,rfl⟩ | ⟨y,u,rfl,rfl⟩
   ·rw [key_ll] at h; exact wpAny_eqBool_int h
   ·rw [key_lr] at h; exact SeqAt.EqAt.int_str i t y u _ _ _ _ h
  ·rcases keyIs_shape hv with ⟨j,u,rfl,rfl⟩ | ⟨y,u,rfl,rfl⟩
   ·rw [key_rl] at h; exact SeqAt.EqAt.str_int x t j u _ _ _ _ h
   ·rw [key_rr] at h; exact wpAny_eqBool_str h
 «strs»:=λk x t v h=>by
  rcases keyIs_shape h with ⟨i,u,rfl,e⟩ | ⟨y,u,rfl,e⟩
  ·exact nomatch e
  ·injection e with e1 _
   subst e1
   cases v <;> rfl
end L2
namespace L2
open PySem PySem.Spec PyProof.Rows
inductive V where
 | non | bl (b:Bool) | int (i:Int) | str (x:Str) | byt (b:Array UInt8) | flt (b:UInt64) | ref (a:Addr) | ty (n:String)
 deriving DecidableEq
def RelV:V->Value->Prop
 | .non,u=>u=Value.none
 | .bl b,u=>u=Value.bool b
 | .int i,u=>∃ t,u=Value.int i t
 | .str x,u=>∃ t,u=Value.str x t
 | .byt b,u=>∃ t,u=Value.bytes b t
 | .flt b,u=>∃ t,u=Value.float b t
 | .ref a,u=>u=Value.ref a
 | .ty n,u=>u=Value.type n
abbrev Vals:List V->List Value->Prop:=Paired RelV
theorem Vals.length {xs:List V} {us:List Value} (r:Vals xs us):xs.length=us.length:=Paired.length r
theorem Vals.get:∀ {xs:List V} {us:List Value} {i:Nat} {x:V},Vals xs us->xs[i]?=some x->∃ u,us[i]?=some u/\RelV x u
 | _,_,_,_,.nil,e=>by simp at e
 | _,_,0,_,.cons r _,e=>by simp at e; subst e; exact ⟨_,rfl,r⟩
 | _,_,i+1,x,.cons _ t,e=>by
  obtain ⟨u,h1,h2⟩:=Vals.get (i:=i) (x:=x) t (by simpa using e)
  exact ⟨u,by simpa using h1,h2⟩
theorem Vals.set {x:V} {u:Value} (r:RelV x u):∀ {xs:List V} {us:List Value} (i:Nat),Vals xs us->Vals (xs.set i x) (us.set i u)
 | _,_,_,.nil=>.nil
 | _,_,0,.cons _ t=>.cons r t
 | _,_,i+1,.cons q t=>.cons q (Vals.set r i t)
theorem Vals.append:∀ {xs ys:List V} {us ws:List Value},Vals xs us->Vals ys ws->Vals (xs++ys) (us++ws)
 | _,_,_,_,.nil,s=>s
 | _,_,_,_,.cons r t,s=>.cons r (Vals.append t s)
theorem Vals.take:∀ {xs:List V} {us:List Value} (n:Nat),Vals xs us->Vals (xs.take n) (us.take n)
 | _,_,0,_=>.nil
 | _,_,_+1,.nil=>.nil
 | _,_,n+1,.cons r t=>.cons r (Vals.take n t)
theorem Vals.drop:∀ {xs:List V} {us:List Value} (n:Nat),Vals xs us->Vals (xs.drop n) (us.drop n)
 | _,_,0,r=>r
 | _,_,_+1,.nil=>.nil
 | _,_,n+1,.cons _ t=>Vals.drop n t
def RelO:Option V->Option Value->Prop
 | some v,some u=>RelV v u
 | none,none=>True
 | _,_=>False
def KV {κ:Type}:List (κ×V)->List (κ×Value)->Prop:=Paired λ(p:κ×V) (q:κ×Value)=>p.1=q.1/\RelV p.2 q.2
def kV:Key->V
 | .inl i=>.int i
 | .inr x=>.str x
inductive HO where
  | lst (xs:List V)
  | tup (xs:List V)
  | dK (kvs:List (Key×V)) | dT (kvs:List (List Key×V))
  | set (S:Int->Bool) (n:Nat)
  | ins (C dx:Addr) (fs:List (Str×V))
  | own (x:Addr)
  | xd (fs:List (Str×V))
  | met (f x:Addr)
  | rng (lo hi:Int)
  | frz (o:Obj) (u:HO)
  | tbl (ps:Array Value)
  | ext (φ:Heap->Prop)
abbrev Hp:=Addr->Option HO
def upd (H:Hp) (a:Addr) (o:HO):Hp:=λb=>if b=a then some o else H b
theorem upd_same {H:Hp} {a:Addr} {o:HO}:upd H a o a=some o:=by unfold upd; rw [if_pos rfl]
theorem upd_ne {H:Hp} {a b:Addr} {o:HO} (h:b≠a):upd H a o b=H b:=by unfold upd; rw [if_neg h]
theorem ne_of {H:Hp} {a b:Addr} {o u:HO} (h:H a=some o) (h':H b=some u) (d:o≠u):a≠b:=by
 intro e; subst e; rw [h] at h'; exact d (Option.some.inj h')
theorem ne_of_none {H:Hp} {a b:Addr} {o:HO} (h:H a=some o) (h':H b=none):a≠b:=by
 intro e; subst e; rw [h] at h'; cases h'
section
variable (P : Program) (w : World)
def ObjOk (H:Hp) (h:Heap) (a:Addr):HO->Prop
 | .lst xs=>xs.length<=sizeLine/\∃ (its:List Value) (n:Nat),Vals xs its/\h.get? a=some { cls:=.type "list",data:=.seq its.toArray n }
 | .tup xs=>xs.length<=sizeLine/\∃ its:List Value,Vals xs its/\IsTup h a its.toArray
 | .dK kvs=>kvs.length<=sizeLine/\(a == sysModules)=false/\∃ vs,KV kvs vs/\h.DictOf (mixKind P w) a vs
 | .dT kvs=>kvs.length<=sizeLine/\(a == sysModules)=false/\∃ xs:List (List Key×Addr×Value),
   Paired (λ(p:List Key×V) (q:List Key×Addr×Value)=>p.1=q.1/\H q.2.1=some (.tup (p.1.map kV))/\RelV p.2 q.2.2) kvs xs /\
   ∃ o es ep,h.get? a=some o/\o.ExactDict/\o.data=.dict es ep/\es.toList=xs.map (entryOfKey (tupleKind (mixKind P w)))/\(xs.map (·.1)).Nodup
 | .set S n=>h.SetOf (intKind P w) a S n
 | .ins C dx fs=>H dx=some (.own a)/\fs.length<=1000/\dx≠a/\h.get? a=some (PySem.W.instObj C dx) /\
   ∃ mA,h.Ns1 dx mA/\(∀ f,RelO (fs.lookup f) (mA f))/\PySem.Within mA (fs.map (·.1))
 | .own _=>∃ o,h.get? a=some o
 | .xd fs=>∃ mA,h.Ns1 a mA/\∀ f,RelO (fs.lookup f) (mA f)
 | .rng lo hi=>∃ t u v,h.get? a=some { cls:=.type "range",data:=.fields #[.int lo t,.int hi u,.int 1 v] }
 | .frz o u=>h.get? a=some o/\ObjOk H h a u
 | .tbl ps=>h.get? a=some { cls:=.none,data:=.fields ps }
 | .met f x=>h.get? a=some (PySem.W.methodObj (.ref f) (.ref x))
 | .ext φ=>φ h/\(∃ o,h.get? a=some o)/\∀ h1 h2:Heap,φ h1->(∀ o,h1.get? a=some o->h2.get? a=some o)->φ h2
def HOk (H:Hp) (h:Heap):Prop:=∀ a o,H a=some o->ObjOk P w H h a o
end
section
variable {P : Program} {w : World} {H H' : Hp} {h h' : Heap} {a : Addr} {o : HO}
theorem ObjOk.lt (x:ObjOk P w H h a o):a<h.objs.size:=by
 cases o with
 | lst xs=>obtain ⟨_,_,_,_,e⟩:=x; exact Heap.lt_size e
 | tup xs=>obtain ⟨_,_,_,p⟩:=x; exact p.lt
 | dK kvs=>obtain ⟨_,_,_,_,o,_,_,e,_⟩:=x; exact Heap.lt_size e
 | dT kvs=>obtain ⟨_,_,_,_,o,_,_,e,_⟩:=x; exact Heap.lt_size e
 | set S n=>obtain ⟨o,_,_,_,e,_⟩:=x; exact Heap.lt_size e
 | ins C dx fs=>obtain ⟨_,_,_,e,_⟩:=x; exact Heap.lt_size e
 | own y=>obtain ⟨_,e⟩:=x; exact Heap.lt_size e
 | xd fs=>obtain ⟨_,⟨_,_,_,e,_⟩,_⟩:=x; exact Heap.lt_size e
 | rng lo hi=>obtain ⟨_,_,_,e⟩:=x; exact Heap.lt_size e
 | frz ob u=>obtain ⟨e,_⟩:=x; exact Heap.lt_size e
 | tbl ps=>exact Heap.lt_size (show h.get? a=some _ from x)
 | met f y=>exact Heap.lt_size (show h.get? a=some _ from x)
 | ext φ=>obtain ⟨_,⟨_,e⟩,_⟩:=x; exact Heap.lt_size e
theorem Paired.mapP {α β:Type} {F G:α->β->Prop}:∀ {l₁:List α} {l₂:List β},Paired F l₁ l₂->(∀ a b,F a b->G a b)->Paired G l₁ l₂
 | _,_,.nil,_=>.nil
 | _,_,.cons r t,f=>.cons (f _ _ r) (Paired.mapP t f)
theorem ObjOk.stay (x:ObjOk P w H h a o) (k:∀ b u,(b=a\/H b=some (.own a))->h.get? b=some u->h'.get? b=some u)
  (ho:∀ b,H b=some (.own a)->H' b=some (.own a)) (ht:∀ b xs,H b=some (.tup xs)->H' b=some (.tup xs)):ObjOk P w H' h' a o:=by
 induction o with
 | lst xs=>obtain ⟨z,its,n,r,e⟩:=x; exact ⟨z,its,n,r,k _ _ (.inl rfl) e⟩
 | tup xs=>obtain ⟨z,its,r,ob,e,c⟩:=x; exact ⟨z,its,r,ob,k _ _ (.inl rfl) e,c⟩
 | dK kvs=>obtain ⟨z,y,vs,r,ob,es,ep,e,c⟩:=x; exact ⟨z,y,vs,r,ob,es,ep,k _ _ (.inl rfl) e,c⟩
 | dT kvs =>
  obtain ⟨z,y,xs,r,ob,es,ep,e,c⟩:=x
  exact ⟨z,y,xs,Paired.mapP r λp q z=>⟨z.1,ht _ _ z.2.1,z.2.2⟩,ob,es,ep,k _ _ (.inl rfl) e,c⟩
 | set S n=>obtain ⟨ob,es,ep,t,e,c⟩:=x; exact ⟨ob,es,ep,t,k _ _ (.inl rfl) e,c⟩
 | ins C dx fs =>
  obtain ⟨d,z,ne,e,mA,⟨od,es,ep,e2,c⟩,r⟩:=x
  exact ⟨ho _ d,z,ne,k _ _ (.inl rfl) e,mA,⟨od,es,ep,k _ _ (.inr d) e2,c⟩,r⟩
 | own y=>obtain ⟨ob,e⟩:=x; exact ⟨ob,k _ _ (.inl rfl) e⟩
 | xd fs=>obtain ⟨mA,⟨od,es,ep,e,c⟩,r⟩:=x; exact ⟨mA,⟨od,es,ep,k _ _ (.inl rfl) e,c⟩,r⟩
 | rng lo hi=>obtain ⟨t,u,v,e⟩:=x; exact ⟨t,u,v,k _ _ (.inl rfl) e⟩
 | frz ob u ih=>obtain ⟨e,q⟩:=x; exact ⟨k _ _ (.inl rfl) e,ih q⟩
 | tbl ps =>
  have e:h.get? a=some { cls:=.none,data:=.fields ps }:=x
  show h'.get? a=some { cls:=.none,data:=.fields ps }
  exact k a _ (.inl rfl) e
 | met f y =>
  have e:h.get? a=some (PySem.W.methodObj (.ref f) (.ref y)):=x
  show h'.get? a=some (PySem.W.methodObj (.ref f) (.ref y))
  exact k a _ (.inl rfl) e
 | ext φ=>obtain ⟨p,⟨o,e⟩,st⟩:=x; exact ⟨st _ _ p λo q=>k _ _ (.inl rfl) q,⟨o,k _ _ (.inl rfl) e⟩,st⟩
theorem HOk.lt (x:HOk P w H h) (e:H a=some o):a<h.objs.size:=(x a o e).lt
theorem HOk.fresh (x:HOk P w H h) (e:h.objs.size<=a):H a=none:=by
 cases q:H a with
 | none=>rfl
 | some u=>exact absurd (Nat.lt_of_lt_of_le (x.lt q) e) (Nat.lt_irrefl _)
theorem HOk.kept (x:HOk P w H h) (k:∀ b u,h.get? b=some u->h'.get? b=some u):HOk P w H h':=λa o e =>
 (x a o e).stay (λb u _ q=>k b u q) (λ_ q=>q) λ_ _ q=>q
theorem HOk.laid (x:HOk P w H h) (k:∀ b u,h.get? b=some u->h'.get? b=some u) (hp:h.objs.size<=a) (new:ObjOk P w (upd H a o) h' a o):HOk P w (upd H a o) h':=λb u e=>by
 have hn:=x.fresh hp
 by_cases hb:b=a
 ·subst hb; rw [upd_same] at e; cases e; exact new
 ·rw [upd_ne hb] at e
  exact (x b u e).stay (λc v _ q=>k c v q) (λc q=>by rw [upd_ne (ne_of_none q hn)]; exact q) λc xs q=>by rw [upd_ne (ne_of_none q hn)]; exact q
end
def Rd (H:Hp) (a:Addr) (u:HO):Prop:=H a=some u\/∃ o,H a=some (.frz o u)
theorem Rd.ok {P:Program} {w:World} {H:Hp} {h:Heap} {a:Addr} {u:HO} (r:Rd H a u) (x:HOk P w H h):ObjOk P w H h a u:=by
 rcases r with r | ⟨o,r⟩
 ·exact x a u r
 ·obtain ⟨_,q⟩:=x a _ r
  exact q
def Mut:Option HO->Prop
 | some (.lst _)=>True
 | some (.dK _)=>True
 | some (.dT _)=>True
 | some (.set _ _)=>True
 | some (.ins _ _ _)=>True
 | some (.ext _)=>True
 | _=>False
section
variable {P : Program} {w : World} {H : Hp} {h h' : Heap} {x e : Addr} {o' : HO}
theorem HOk.write (ok:HOk P w H h) (mu:Mut (H x)) (he:e=x\/H e=some (.own x)) (k:∀ b u,b≠e->h.get? b=some u->h'.get? b=some u) (heo:∃ u,h'.get? e=some u)
  (new:ObjOk P w (upd H x o') h' x o'):HOk P w (upd H x o') h':=λb u q=>by
 have nown:∀ c y,H c=some (.own y)->c≠x:=λc y r z=>by subst z; rw [r] at mu; exact mu
 have ntup:∀ c xs,H c=some (.tup xs)->c≠x:=λc xs r z=>by subst z; rw [r] at mu; exact mu
 by_cases hb:b=x
 ·subst hb; rw [upd_same] at q; cases q; exact new
 ·rw [upd_ne hb] at q
  by_cases hbe:b=e
  ·have q':H b=some (.own x):=by
    rcases he with z | z
    ·exact absurd (hbe.trans z) hb
    ·rw [hbe]; exact z
   rw [q] at q'; cases q'
   obtain ⟨v,hv⟩:=heo
   exact ⟨v,by rw [hbe]; exact hv⟩
  ·refine (ok b u q).stay (λc v hc r=>k c v ?_ r) (λc r=>by rw [upd_ne (nown c b r)]; exact r) λc xs r=>by rw [upd_ne (ntup c xs r)]; exact r
   rcases hc with rfl | hc
   ·exact hbe
   ·rintro rfl
    rcases he with z | z
    ·exact nown c b hc z
    ·rw [hc] at z; cases z; exact hb rfl
end
structure Un (fs ex:List Addr) (H H':Hp) (h h':Heap):Prop where
 keep:∀ b o,h.get? b=some o->H b=none->b ∉ fs->b ∉ ex->h'.get? b=some o
 slot:∀ b o,h.get? b=some o->H b=none->b ∈ fs->b ∉ ex->∃ sl,h'.get? b=some { o with slots:=sl }
 free:∀ b o,h.get? b=some o->H b=none->b ∉ ex->H' b=none
 there:∀ b o,h.get? b=some o->b ∉ ex->∃ o',h'.get? b=some o'
 tups:∀ b xs,H b=some (.tup xs)->H' b=some (.tup xs)
 frzs:∀ b o u,H b=some (.frz o u)->H' b=some (.frz o u)
 tbls:∀ b ps,H b=some (.tbl ps)->∃ more,H' b=some (.tbl (ps++more))
section
variable {fs fs' ex ex' : List Addr} {H H1 H2 : Hp} {h h1 h2 h' : Heap} {a x e : Addr} {o : HO}
theorem Un.any (u:Un fs ex H H1 h h1) {b:Addr} {ob:Obj} (q:h.get? b=some ob) (n:H b=none) (hx:b ∉ ex):∃ sl,h1.get? b=some { ob with slots:=sl }:=by
 by_cases hb:b ∈ fs
 ·exact u.slot b ob q n hb hx
 ·exact ⟨ob.slots,u.keep b ob q n hb hx⟩
theorem Un.kept (k:∀ b u,h.get? b=some u->h'.get? b=some u):Un fs ex H H h h' :=
 ⟨λb ob q _ _ _=>k b ob q,λb ob q _ _ _=>⟨ob.slots,k b ob q⟩,λ_ _ _ n _=>n,λb ob q _=>⟨ob,k b ob q⟩,λ_ _ q=>q,λ_ _ _ q=>q,λ_ ps q=>⟨#[],by rw [q]; simp⟩⟩
theorem Un.refl:Un fs ex H H h h:=Un.kept λ_ _ q=>q
theorem Un.laid (k:∀ b u,h.get? b=some u->h'.get? b=some u) (hp:h.objs.size<=a) (hn:H a=none):Un fs ex H (upd H a o) h h' where
 keep:=λb u q _ _ _=>k b u q
 slot:=λb u q _ _ _=>⟨u.slots,k b u q⟩
 free:=λb u q n _=>by rw [upd_ne (Nat.ne_of_lt (Nat.lt_of_lt_of_le (Heap.lt_size q) hp))]; exact n
 there:=λb u q _=>⟨u,k b u q⟩
 tups:=λb xs q=>by rw [upd_ne (ne_of_none q hn)]; exact q
 frzs:=λb u xs q=>by rw [upd_ne (ne_of_none q hn)]; exact q
 tbls:=λb ps q=>⟨#[],by rw [upd_ne (ne_of_none q hn),q]; simp⟩
theorem Un.write (mu:Mut (H x)) (he:e=x\/H e=some (.own x)) (k:∀ b u,b≠e->h.get? b=some u->h'.get? b=some u) (heo:∃ u,h'.get? e=some u):Un fs ex H (upd H x o) h h':=by
 have hx:∀ b,H b=none->b≠x:=λb n z=>by subst z; rw [n] at mu; exact mu
 have hb:∀ b,H b=none->b≠e:=λb n z=>by
  subst z
  rcases he with r | r
  ·exact hx b n r
  ·rw [n] at r; cases r
 have hm:∀ b u,H b=some u->¬ Mut (some u)->b≠x:=λb u q nm z=>by subst z; rw [q] at mu; exact nm mu
 refine ⟨λb u q n _ _=>k b u (hb b n) q,λb u q n _ _=>⟨u.slots,k b u (hb b n) q⟩,λb u q n _=>by rw [upd_ne (hx b n)]; exact n,λb u q _=>?_,
  λb xs q=>by rw [upd_ne (hm b _ q λz=>z)]; exact q,λb u xs q=>by rw [upd_ne (hm b _ q λz=>z)]; exact q,λb ps q=>⟨#[],by rw [upd_ne (hm b _ q λz=>z),q]; simp⟩⟩
 by_cases hbe:b=e
 ·subst hbe; exact heo
 ·exact ⟨u,k b u hbe q⟩
end
def trk (h:Heap) (H:Hp):List Addr:=(List.range h.objs.size).filter λa=>(H a).isSome
def hidT (h:Heap) (H:Hp):Heap:=PySem.W.hideAll h (trk h H)
theorem hidT_size (h:Heap) (H:Hp):(hidT h H).objs.size=h.objs.size:=PySem.W.hideAll_size _ _
theorem hidT_get {h:Heap} {H:Hp} {b:Addr} {o:Obj} (e:h.get? b=some o) (n:H b=none):(hidT h H).get? b=some o :=
 PySem.W.hideAll_get _ e λhm=>by
  have q:(H b).isSome=true:=(List.mem_filter.mp hm).2
  rw [n] at q; simp at q
theorem of_hidT {h:Heap} {H:Hp} {b:Addr} {o:Obj} (e:(hidT h H).get? b=some o):h.get? b=some o/\H b=none:=by
 have e':h.get? b=some o:=PySem.W.of_hideAll (trk h H) e
 refine ⟨e',?_⟩
 cases q:H b with
 | none=>rfl
 | some x =>
  have hm:b ∈ trk h H:=List.mem_filter.mpr ⟨List.mem_range.mpr (Heap.lt_size e'),by simp [q]⟩
  have z:(hidT h H).get? b=none:=PySem.W.hideAll_none (trk h H) hm
  rw [z] at e; cases e
end L2
namespace L2
open PySem PySem.Spec PyProof.Rows
structure Mod (K:PySem.W.Frag) (mg:Str->Option Value) (base:Heap):Prop where
 kin:K.In base
 glob:base.Ns mainGlobals mg
 blt:∃ mb,base.Ns builtinsNs mb/\∀ x:Str,x≠"__name__"->mb x=bootBuiltins x
 nolimit:base.NoLimit
structure Cx where
 prog:Program
 w:World
 K:PySem.W.Frag
 mg:Str->Option Value
 base:Heap
 A:Around
 N:List Str
 s₀:Shared
 H₀:Hp
 env:Env
 outer:List Env
 stack:List Env
 ex:List Addr
 fn:Str->Bool
 calm:Bool
 pn:List (Addr×Obj)
 xe:Value->Shared->Prop
def frs (l:List Env):List Addr:=l.filterMap (·.frame)
abbrev Cx.fs (X:Cx):List Addr:=frs X.outer
def Vis (sc:Scope) (x:Str):Prop:=sc.names.lookup x=some .local\/sc.names.lookup x=some .cell\/sc.names.lookup x=some .free
def Loc (sc:Scope) (x:Str):Prop:=sc.names.lookup x=some .local\/sc.names.lookup x=some .cell
def Look (env:Env) (h:Heap) (m:Str->Option Value) (x:Str) (u:Value):Prop :=
 (env.kindOf x=some .local/\m x=some u)\/((env.kindOf x=some .cell\/env.kindOf x=some .free)/\∃ c,env.cells.lookup x=some c/\h.IsCell c (some u))
structure Cx.Ok (X:Cx):Prop where
 mod:Mod X.K X.mg X.base
 kind:X.env.scope.kind=.function
 glob:X.env.globals=mainGlobals
 blt:X.env.builtins=builtinsNs
 above:X.s₀.heap.objs.size<=X.env.locals
 inj:∀ x y c,X.env.cells.lookup x=some c->X.env.cells.lookup y=some c->x=y
 has:∀ x,(X.env.kindOf x=some .cell\/X.env.kindOf x=some .free)->∃ c,X.env.cells.lookup x=some c
 cab:∀ x c,X.fn x=true->X.env.cells.lookup x=some c->X.s₀.heap.objs.size<=c
 hd:X.calm=true->X.A.handled=none
 frames:X.A.frames=some X.stack
 stk:X.stack=X.outer\/(X.stack=X.env::X.outer/\X.env.frame=some X.env.locals)
 exf:∀ b ∈ X.ex,b≠X.env.locals/\∀ x c,X.env.cells.lookup x=some c->c≠b
 bs:∀ b o,X.base.get? b=some o->X.s₀.heap.get? b=some o/\X.H₀ b=none
 bsz:X.base.objs.size<=X.s₀.heap.objs.size
 noex:∀ b o,X.base.get? b=some o->b ∉ X.ex
 exfs:∀ b ∈ X.ex,b ∉ X.fs
 funs:X.s₀.heap.FunFrames X.base X.outer
 frf:∀ b ∈ X.fs,X.H₀ b=none
structure Inv (X:Cx) (pins:List (Addr×Obj)) (σ:List (Option V)) (H:Hp) (s:Shared):Prop where
 ok:X.Ok
 os:s.os=X.s₀.os
 bare:AllBare s.gens
 base:Un X.fs X.ex X.H₀ H X.s₀.heap s.heap
 loc:∃ m,s.heap.Ns X.env.locals m/\∀ (i:Nat) (x:Str) (v:V),X.N[i]?=some x->σ[i]?=some (some v)->Vis X.env.scope x->∃ u,RelV v u/\Look X.env s.heap m x u
 cell:∀ x c,X.env.cells.lookup x=some c->∃ v,s.heap.IsCell c v
 free:H X.env.locals=none
 freeC:∀ x c,X.env.cells.lookup x=some c->H c=none
 pin:∀ p ∈ X.pn++pins,s.heap.get? p.1=some p.2/\H p.1=none/\p.1≠X.env.locals/\p.1 ∉ X.fs/\∀ v,p.2.data≠.cell v
 hok:HOk X.prog X.w H s.heap
 len:σ.length=X.N.length
section
variable {X : Cx} {pins : List (Addr × Obj)} {σ : List (Option V)} {H H' : Hp} {s : Shared} {h' : Heap}
theorem Cx.Ok.nofr (ok:X.Ok) {b:Addr} {o:Obj} (e:X.base.get? b=some o):b ∉ X.fs:=λhb=>by
 have:=(ok.funs.mem hb).1
 rw [e] at this; cases this
theorem Inv.bs (I:Inv X pins σ H s):∀ b o,X.base.get? b=some o->s.heap.get? b=some o/\H b=none:=λb o e =>
 ⟨I.base.keep b o (I.ok.bs b o e).1 (I.ok.bs b o e).2 (I.ok.nofr e) (I.ok.noex b o e),I.base.free b o (I.ok.bs b o e).1 (I.ok.bs b o e).2 (I.ok.noex b o e)⟩
theorem Inv.bk (I:Inv X pins σ H s):∀ b o,X.base.get? b=some o->s.heap.get? b=some o:=λb o e=>(I.bs b o e).1
theorem Inv.mod (I:Inv X pins σ H s):Mod X.K X.mg X.base:=I.ok.mod
theorem Inv.kIn (I:Inv X pins σ H s):X.K.In s.heap:=I.ok.mod.kin.keeps I.bk
theorem Inv.lt (I:Inv X pins σ H s):X.env.locals<s.heap.objs.size:=let ⟨_,hn,_⟩:=I.loc; hn.lt
theorem Inv.sz (I:Inv X pins σ H s):X.s₀.heap.objs.size<=s.heap.objs.size:=Nat.le_trans I.ok.above (Nat.le_of_lt I.lt)
theorem Inv.nofs (I:Inv X pins σ H s) {a:Addr} (h:s.heap.objs.size<=a):a ∉ X.fs:=λhb=>by
 obtain ⟨_,o,ho,_⟩:=I.ok.funs.mem hb
 exact absurd (Nat.lt_of_lt_of_le (Heap.lt_size ho) (Nat.le_trans I.sz h)) (Nat.lt_irrefl _)
theorem Inv.cne (I:Inv X pins σ H s):∀ x c,X.env.cells.lookup x=some c->c≠X.env.locals:=λx c e z=>by
 obtain ⟨v,o,ho,hd⟩:=I.cell x c e
 obtain ⟨m,⟨o',es,ep,ho',hd',_⟩,_⟩:=I.loc
 rw [z,ho'] at ho; cases ho; rw [hd'] at hd; cases hd
theorem Inv.funs (I:Inv X pins σ H s):s.heap.FunFrames X.base X.outer:=by
 have all:∀ (l:List Env),(∀ b ∈ frs l,b ∈ X.fs)->X.s₀.heap.FunFrames X.base l->s.heap.FunFrames X.base l:=by
  intro l
  induction l with
  | nil=>intro _ _; trivial
  | cons env r ih =>
   intro hs hl
   obtain ⟨hk,⟨L,o,hf,hn,ho,hd⟩,hr⟩:=hl
   have hL:L ∈ X.fs:=hs L (by unfold frs; rw [List.filterMap_cons,hf]; exact List.mem_cons_self)
   obtain ⟨sl,e⟩:=I.base.slot L o ho (I.ok.frf L hL) hL λz=>I.ok.exfs L z hL
   exact ⟨hk,⟨L,_,hf,hn,e,hd⟩,ih (λb hb=>hs b (by unfold frs; rw [List.filterMap_cons,hf]; exact List.mem_cons_of_mem _ hb)) hr⟩
 exact all X.outer (λ_ hb=>hb) I.ok.funs
theorem Inv.stack (I:Inv X pins σ H s):s.heap.FunFrames X.base X.stack:=by
 rcases I.ok.stk with e | ⟨e,hf⟩
 ·rw [e]; exact I.funs
 ·rw [e]
  obtain ⟨m,hn,_⟩:=I.loc
  refine .cons (by rw [I.ok.kind]; decide) hf hn ?_ I.funs
  exact Heap.get?_none_of_le (Nat.le_trans I.ok.bsz I.ok.above)
theorem Inv.stkSub (I:Inv X pins σ H s):∀ b ∈ frs X.stack,b ∈ X.env.locals::X.fs:=λb hb=>by
 rcases I.ok.stk with e | ⟨e,hf⟩
 ·rw [e] at hb; exact List.mem_cons_of_mem _ hb
 ·rw [e] at hb
  unfold frs at hb
  rw [List.filterMap_cons,hf] at hb
  exact hb
theorem Inv.stkFree (I:Inv X pins σ H s):∀ b ∈ frs X.stack,H b=none:=λb hb=>by
 rcases List.mem_cons.mp (I.stkSub b hb) with e | hb
 ·rw [e]; exact I.free
 ·obtain ⟨_,o,ho,_⟩:=I.ok.funs.mem hb
  exact I.base.free b o ho (I.ok.frf b hb) λz=>I.ok.exfs b z hb
theorem Inv.step {g':Array GenState} {t':Nat} {d':Drawn} {ch:List Addr} (I:Inv X pins σ H s)
  (hch:∀ b ∈ ch,(b ∈ X.ex\/X.s₀.heap.objs.size<=b)/\b≠X.env.locals/\(∀ x c,X.env.cells.lookup x=some c->c≠b)/\∀ p ∈ X.pn++pins,p.1≠b)
  (keep:∀ b o,b≠X.env.locals->b ∉ X.fs->b ∉ ch->s.heap.get? b=some o->H b=none->h'.get? b=some o)
  (slot:∀ b o,b≠X.env.locals->b ∈ X.fs->b ∉ ch->s.heap.get? b=some o->H b=none->∃ sl,h'.get? b=some { o with slots:=sl }) (free:∀ b o,b ∉ ch->s.heap.get? b=some o->H b=none->H' b=none)
  (there:∀ b o,b ∉ ch->s.heap.get? b=some o->∃ o',h'.get? b=some o')
  (tups:∀ b xs,H b=some (.tup xs)->H' b=some (.tup xs)) (frzs:∀ b o u,H b=some (.frz o u)->H' b=some (.frz o u)) (tbls:∀ b ps,H b=some (.tbl ps)->∃ more,H' b=some (.tbl (ps++more)))
  (ns:∀ m,s.heap.Ns X.env.locals m->h'.Ns X.env.locals m) (hok:HOk X.prog X.w H' h') (hg:AllBare g') :
  Inv X pins σ H' { s with heap:=h',gens:=g',drawn:=d',toks:=t' }:=by
 have neL:∀ b o,X.s₀.heap.get? b=some o->b≠X.env.locals:=λb o e=>Nat.ne_of_lt (Nat.lt_of_lt_of_le (Heap.lt_size e) I.ok.above)
 have neC:∀ b o,X.s₀.heap.get? b=some o->b ∉ X.ex->b ∉ ch:=λb o e hx hb=>by
  rcases (hch b hb).1 with z | z
  ·exact hx z
  ·exact absurd (Nat.lt_of_lt_of_le (Heap.lt_size e) z) (Nat.lt_irrefl _)
 have cellK:∀ x c,X.env.cells.lookup x=some c->∀ v,s.heap.IsCell c v->h'.IsCell c v:=λx c e v ⟨o,ho,hd⟩=>by
  have nch:c ∉ ch:=λz=>(hch c z).2.2.1 x c e rfl
  by_cases hc:c ∈ X.fs
  ·obtain ⟨sl,q⟩:=slot c o (I.cne x c e) hc nch ho (I.freeC x c e)
   exact ⟨_,q,hd⟩
  ·exact ⟨o,keep c o (I.cne x c e) hc nch ho (I.freeC x c e),hd⟩
 refine ⟨I.ok,I.os,hg,⟨λb o e n hb hx=>?_,λb o e n hb hx=>?_,λb o e n hx=>?_,λb o e hx=>?_,λb xs e=>tups b xs (I.base.tups b xs e),λb o xs e=>frzs b o xs (I.base.frzs b o xs e),λb ps e=>?_⟩,?_,λx c e=>?_,?_,λx c e=>?_,λp hp=>?_,hok,I.len⟩
 ·exact keep b o (neL b o e) hb (neC b o e hx) (I.base.keep b o e n hb hx) (I.base.free b o e n hx)
 ·obtain ⟨sl,e1⟩:=I.base.slot b o e n hb hx
  obtain ⟨sl',e2⟩:=slot b _ (neL b o e) hb (neC b o e hx) e1 (I.base.free b o e n hx)
  exact ⟨sl',e2⟩
 ·obtain ⟨o',e1⟩:=I.base.there b o e hx
  exact free b o' (neC b o e hx) e1 (I.base.free b o e n hx)
 ·obtain ⟨o',e1⟩:=I.base.there b o e hx
  exact there b o' (neC b o e hx) e1
 ·obtain ⟨m1,e1⟩:=I.base.tbls b ps e
  obtain ⟨m2,e2⟩:=tbls b _ e1
  exact ⟨m1++m2,by rw [e2,Array.append_assoc]⟩
 ·obtain ⟨m,hn,hl⟩:=I.loc
  refine ⟨m,ns m hn,λi x v e1 e2 e3=>?_⟩
  obtain ⟨u,r,l⟩:=hl i x v e1 e2 e3
  refine ⟨u,r,?_⟩
  rcases l with l | ⟨k,c,e,z⟩
  ·exact .inl l
  ·exact .inr ⟨k,c,e,cellK x c e _ z⟩
 ·obtain ⟨v,z⟩:=I.cell x c e
  exact ⟨v,cellK x c e v z⟩
 ·obtain ⟨m,⟨o,_,_,ho,_⟩,_⟩:=I.loc
  exact free _ o (λz=>(hch _ z).2.1 rfl) ho I.free
 ·obtain ⟨v,o,ho,hd⟩:=I.cell x c e
  exact free c o (λz=>(hch c z).2.2.1 x c e rfl) ho (I.freeC x c e)
 ·obtain ⟨e,n,ne,nf,d⟩:=I.pin p hp
  have nch:p.1 ∉ ch:=λz=>(hch p.1 z).2.2.2 p hp rfl
  exact ⟨keep p.1 p.2 ne nf nch e n,free p.1 p.2 nch e n,ne,nf,d⟩
theorem Inv.un {t':Nat} (I:Inv X pins σ H s) (u:Un X.fs [] H H' s.heap h') (hok:HOk X.prog X.w H' h'):Inv X pins σ H' { s with heap:=h',toks:=t' }:=by
 obtain ⟨m,⟨o,es,ep,ho,r⟩,_⟩:=id I.loc
 obtain ⟨sl,hL⟩:=u.any ho I.free (by simp)
 exact I.step (g':=s.gens) (d':=s.drawn) (ch:=[]) (λ_ z=>nomatch z) (λb o _ hb _ e n=>u.keep b o e n hb (by simp)) (λb o _ hb _ e n=>u.slot b o e n hb (by simp)) (λb o _ e n=>u.free b o e n (by simp)) (λb o _ e=>u.there b o e (by simp)) u.tups u.frzs u.tbls (λm' hm=>by
  obtain ⟨o',es',ep',ho',r'⟩:=hm
  rw [ho] at ho'; cases ho'
  exact ⟨_,es',ep',hL,r'⟩) hok I.bare
theorem Inv.call {g':Array GenState} {t':Nat} {d':Drawn} {ch:List Addr} (I:Inv X pins σ H s) (u:Un (frs X.stack) ch H H' s.heap h') (hok:HOk X.prog X.w H' h') (hg:AllBare g')
  (hch:∀ b ∈ ch,(b ∈ X.ex\/X.s₀.heap.objs.size<=b)/\b≠X.env.locals/\(∀ x c,X.env.cells.lookup x=some c->c≠b)/\∀ p ∈ X.pn++pins,p.1≠b) :
  Inv X pins σ H' { s with heap:=h',gens:=g',drawn:=d',toks:=t' }:=by
 obtain ⟨m,⟨o,es,ep,ho,r⟩,_⟩:=id I.loc
 obtain ⟨sl,hL⟩:=u.any ho I.free λz=>(hch _ z).2.1 rfl
 exact I.step (ch:=ch) hch (λb o hL hb hc e n=>u.keep b o e n (λz=>(List.mem_cons.mp (I.stkSub b z)).elim hL hb) hc) (λb o _ _ hc e n=>u.any e n hc) (λb o hc e n=>u.free b o e n hc) (λb o hc e=>u.there b o e hc) u.tups u.frzs u.tbls (λm' hm=>by
  obtain ⟨o',es',ep',ho',r'⟩:=hm
  rw [ho] at ho'; cases ho'
  exact ⟨_,es',ep',hL,r'⟩) hok hg
theorem Inv.turned {t':Nat} {it:Addr} (I:Inv X pins σ H s) (k:∀ b o,b≠it->s.heap.get? b=some o->h'.get? b=some o) (hn:H it=none) (hL:it≠X.env.locals)
  (h1:it ∈ X.ex\/X.s₀.heap.objs.size<=it) (h2:∀ x c,X.env.cells.lookup x=some c->c≠it) (h3:∀ p ∈ X.pn++pins,p.1≠it):Inv X pins σ H { s with heap:=h',toks:=t' }:=by
 have nit:∀ b u,H b=some u->b≠it:=λb u e z=>by rw [z,hn] at e; cases e
 refine I.step (g':=s.gens) (d':=s.drawn) (ch:=[it]) (λb hb=>?_) (λb o _ _ hc e _=>k b o (λz=>hc (by simp [z])) e) (λb o _ _ hc e _=>⟨o.slots,k b o (λz=>hc (by simp [z])) e⟩) (λ_ _ _ _ n=>n)
  (λb o hc e=>⟨o,k b o (λz=>hc (by simp [z])) e⟩) (λ_ _ e=>e) (λ_ _ _ e=>e) (λb ps e=>⟨#[],by rw [e]; simp⟩) (λm hm=>?_) (λb u e=>?_) I.bare
 ·have e:b=it:=by simpa using hb
  subst e
  exact ⟨h1,hL,h2,h3⟩
 ·obtain ⟨o,es,ep,ho,r⟩:=hm
  exact ⟨o,es,ep,k _ o (Ne.symm hL) ho,r⟩
 ·refine (I.hok b u e).stay (λc v hc q=>k c v ?_ q) (λ_ q=>q) λ_ _ q=>q
  rcases hc with z | z
  ·rw [z]; exact nit b u e
  ·exact nit c _ z
theorem Inv.tok (I:Inv X pins σ H s) (t:Nat):Inv X pins σ H { s with toks:=t }:=I.un (h':=s.heap) (t':=t) Un.refl I.hok
theorem Inv.kept {t':Nat} (I:Inv X pins σ H s) (k:∀ b u,s.heap.get? b=some u->h'.get? b=some u):Inv X pins σ H { s with heap:=h',toks:=t' }:=I.un (Un.kept k) (I.hok.kept k)
theorem Inv.laid {a:Addr} {o:HO} {t':Nat} (I:Inv X pins σ H s) (k:∀ b u,s.heap.get? b=some u->h'.get? b=some u) (hp:s.heap.objs.size<=a) (new:ObjOk X.prog X.w (upd H a o) h' a o) :
  Inv X pins σ (upd H a o) { s with heap:=h',toks:=t' }:=I.un (Un.laid k hp (I.hok.fresh hp)) (I.hok.laid k hp new)
theorem Inv.write {x e:Addr} {o:HO} {t':Nat} (I:Inv X pins σ H s) (mu:Mut (H x)) (he:e=x\/H e=some (.own x)) (k:∀ b u,b≠e->s.heap.get? b=some u->h'.get? b=some u) (heo:∃ u,h'.get? e=some u)
  (new:ObjOk X.prog X.w (upd H x o) h' x o):Inv X pins σ (upd H x o) { s with heap:=h',toks:=t' }:=I.un (Un.write mu he k heo) (I.hok.write mu he k heo new)
theorem Inv.pins_of {pins':List (Addr×Obj)} (I:Inv X pins σ H s) (h:∀ p ∈ pins',s.heap.get? p.1=some p.2/\H p.1=none/\p.1≠X.env.locals/\p.1 ∉ X.fs/\∀ v,p.2.data≠.cell v):Inv X pins' σ H s :=
 ⟨I.ok,I.os,I.bare,I.base,I.loc,I.cell,I.free,I.freeC,λp hp=>(List.mem_append.mp hp).elim (λz=>I.pin p (List.mem_append_left _ z)) (h p),I.hok,I.len⟩
theorem nodup_ix {N:List Str} (hN:N.Nodup) {i j:Nat} {x:Str} (a:N[i]?=some x) (b:N[j]?=some x):i=j:=by
 obtain ⟨h1,e1⟩:=List.getElem?_eq_some_iff.mp a
 obtain ⟨h2,e2⟩:=List.getElem?_eq_some_iff.mp b
 exact (List.getElem_inj hN).mp (e1.trans e2.symm)
theorem store_ok2 {M:Model} {A:Around} {E:Value->Shared->Prop} {i:Nat} {x:Str} {v:V} {u:Value} {Q:Unit->Shared->Prop} (I:Inv X pins σ H s) (hN:X.N.Nodup) (hi:X.N[i]?=some x) (hx:Loc X.env.scope x) (r:RelV v u)
  (h:∀ s',Inv X pins (σ.set i (some v)) H s'->(∃ a,Heap.SameBut a s.heap s'.heap/\(a=X.env.locals\/X.env.cells.lookup x=some a))->Q () s') (hf:X.fn x=true\/X.env.scope.names.lookup x=some .local:=by first | exact .inl rfl | exact .inr rfl | assumption):wpAny M A (storeName X.env x u) Q E s:=by
 obtain ⟨m,hn,hl⟩:=id I.loc
 have hcls:(X.env.scope.kind == .class || (X.env.scope.kind == .module && X.env.locals != X.env.globals))=false:=by rw [I.ok.kind]; rfl
 have hiσ:i<σ.length:=by rw [I.len]; exact (List.getElem?_eq_some_iff.mp hi).1
 have cne:=I.cne
 have tracked:∀ {a:Addr} {h':Heap},(∃ o,s.heap.get? a=some o/\H a=none)->Heap.SameBut a s.heap h'->HOk X.prog X.w H h':=λ{a h'} ha hs b ob e=>by
  obtain ⟨_,_,hfree⟩:=ha
  refine (I.hok b ob e).stay (λc w' hc q=>(hs.2 c ?_).trans q) (λ_ q=>q) λ_ _ q=>q
  rintro rfl
  rcases hc with rfl | hc
  ·rw [hfree] at e; cases e
  ·rw [hfree] at hc; cases hc
 rcases hx with hk | hk
 ·refine wpAny_storeName_local hk hn (λh' hn' hs=>?_) hcls
  obtain ⟨oL,_,_,hoL,_⟩:=id hn
  refine h _ ⟨I.ok,I.os,I.bare,⟨λb o e n hb hx=>?_,λb o e n hb hx=>?_,I.base.free,λb o e hx=>?_,I.base.tups,I.base.frzs,I.base.tbls⟩,⟨_,hn',λj y v' e1 e2 e3=>?_⟩,λy c e=>?_,I.free,I.freeC,λp hp=>?_,tracked ⟨oL,hoL,I.free⟩ hs,by simpa using I.len⟩ ⟨_,hs,.inl rfl⟩
  ·exact (hs.2 b (Nat.ne_of_lt (Nat.lt_of_lt_of_le (Heap.lt_size e) I.ok.above))).trans (I.base.keep b o e n hb hx)
  ·obtain ⟨sl,e1⟩:=I.base.slot b o e n hb hx
   exact ⟨sl,(hs.2 b (Nat.ne_of_lt (Nat.lt_of_lt_of_le (Heap.lt_size e) I.ok.above))).trans e1⟩
  ·obtain ⟨o',e1⟩:=I.base.there b o e hx
   exact ⟨o',(hs.2 b (Nat.ne_of_lt (Nat.lt_of_lt_of_le (Heap.lt_size e) I.ok.above))).trans e1⟩
  ·by_cases hj:j=i
   ·subst hj
    rw [hi] at e1; cases e1
    rw [List.getElem?_set_self hiσ] at e2
    cases e2
    exact ⟨u,r,.inl ⟨hk,by simp⟩⟩
   ·rw [List.getElem?_set_ne (Ne.symm hj)] at e2
    obtain ⟨u',r',q⟩:=hl j y v' e1 e2 e3
    refine ⟨u',r',?_⟩
    rcases q with ⟨k,e⟩ | ⟨k,c,e,z⟩
    ·refine .inl ⟨k,?_⟩
     have:y≠x:=λe=>hj (nodup_ix hN e1 (e ▸ hi))
     simp [this,e]
    ·exact .inr ⟨k,c,e,z.sameBut hs (cne y c e)⟩
  ·obtain ⟨w',z⟩:=I.cell y c e
   exact ⟨w',z.sameBut hs (cne y c e)⟩
  ·obtain ⟨e,n,ne,nf,d⟩:=I.pin p hp
   exact ⟨(hs.2 p.1 ne).trans e,n,ne,nf,d⟩
 ·have hfn:X.fn x=true:=by
   rcases hf with z | z
   ·exact z
   ·rw [z] at hk; cases hk
  obtain ⟨c,hc⟩:=I.ok.has x (.inl hk)
  obtain ⟨w',z⟩:=I.cell x c hc
  refine wpAny_storeName_cell I.ok.kind hk hc z (λh' hc' hs=>?_)
  obtain ⟨oc,hoc,hocd⟩:=id z
  refine h { s with heap:=h' } ⟨I.ok,I.os,I.bare,⟨λb o e n hb hx=>?_,λb o e n hb hx=>?_,I.base.free,λb o e hx=>?_,I.base.tups,I.base.frzs,I.base.tbls⟩,⟨m,hn.sameBut hs (Ne.symm (cne x c hc)),λj y v' e1 e2 e3=>?_⟩,λy c' e=>?_,I.free,I.freeC,λp hp=>?_,tracked ⟨oc,hoc,I.freeC x c hc⟩ hs,by simpa using I.len⟩ ⟨c,hs,.inr hc⟩
  ·exact (hs.2 b (Nat.ne_of_lt (Nat.lt_of_lt_of_le (Heap.lt_size e) (I.ok.cab x c hfn hc)))).trans (I.base.keep b o e n hb hx)
  ·obtain ⟨sl,e1⟩:=I.base.slot b o e n hb hx
   exact ⟨sl,(hs.2 b (Nat.ne_of_lt (Nat.lt_of_lt_of_le (Heap.lt_size e) (I.ok.cab x c hfn hc)))).trans e1⟩
  ·obtain ⟨o',e1⟩:=I.base.there b o e hx
   exact ⟨o',(hs.2 b (Nat.ne_of_lt (Nat.lt_of_lt_of_le (Heap.lt_size e) (I.ok.cab x c hfn hc)))).trans e1⟩
  ·by_cases hj:j=i
   ·subst hj
    rw [hi] at e1; cases e1
    rw [List.getElem?_set_self hiσ] at e2
    cases e2
    exact ⟨u,r,.inr ⟨.inl hk,c,hc,hc'⟩⟩
   ·rw [List.getElem?_set_ne (Ne.symm hj)] at e2
    obtain ⟨u',r',q⟩:=hl j y v' e1 e2 e3
    refine ⟨u',r',?_⟩
    rcases q with q | ⟨k,c',e,z'⟩
    ·exact .inl q
    ·refine .inr ⟨k,c',e,z'.sameBut hs ?_⟩
     rintro rfl
     exact hj (nodup_ix hN e1 (I.ok.inj _ _ _ e hc ▸ hi))
  ·by_cases hcc:c'=c
   ·subst hcc; exact ⟨_,hc'⟩
   ·obtain ⟨w2,z2⟩:=I.cell y c' e
    exact ⟨w2,z2.sameBut hs hcc⟩
  ·obtain ⟨e,n,ne,nf,d⟩:=I.pin p hp
   refine ⟨(hs.2 p.1 ?_).trans e,n,ne,nf,d⟩
   intro q
   rw [q,hoc] at e
   have q':oc=p.2:=Option.some.inj e
   exact d w' (by rw [<- q']; exact hocd)
theorem store_ok {M:Model} {A:Around} {E:Value->Shared->Prop} {i:Nat} {x:Str} {v:V} {u:Value} {Q:Unit->Shared->Prop} (I:Inv X pins σ H s) (hN:X.N.Nodup) (hi:X.N[i]?=some x) (hx:Loc X.env.scope x) (r:RelV v u)
  (h:∀ s',Inv X pins (σ.set i (some v)) H s'->Q () s') (hf:X.fn x=true\/X.env.scope.names.lookup x=some .local:=by first | exact .inl rfl | exact .inr rfl | assumption):wpAny M A (storeName X.env x u) Q E s :=
 store_ok2 I hN hi hx r (λs' I' _=>h s' I') hf
theorem Inv.call' {s':Shared} {ch:List Addr} (I:Inv X pins σ H s) (ho:s'.os=s.os) (u:Un (frs X.stack) ch H H' s.heap s'.heap) (hok:HOk X.prog X.w H' s'.heap) (hg:AllBare s'.gens)
  (hch:∀ b ∈ ch,(b ∈ X.ex\/X.s₀.heap.objs.size<=b)/\b≠X.env.locals/\(∀ x c,X.env.cells.lookup x=some c->c≠b)/\∀ p ∈ X.pn++pins,p.1≠b):Inv X pins σ H' s':=by
 obtain ⟨h',g',d',t',o'⟩:=s'
 have e:o'=s.os:=ho
 subst e
 exact I.call (g':=g') (t':=t') (d':=d') u hok hg hch
end
abbrev XK:=Value->Option Addr->Hp->Prop
abbrev St:=List (Option V)
abbrev VK:=V->Hp->Prop
abbrev TE:=St->Hp->VK->Prop
abbrev TT:=St->Hp->(Bool->Hp->Prop)->Prop
abbrev TA:=St->Hp->(List V->Hp->Prop)->Prop
structure Ends where
 nx:St->Hp->Prop
 rt:VK
 bk:St->Hp->Prop:=λ_ _=>False
 ct:St->Hp->Prop:=λ_ _=>False
abbrev TS:=Ends->St->Hp->Prop
def EP (X:Cx) (pins:List (Addr×Obj)) (σ:St) (Q:VK) (u:Value) (s':Shared):Prop:=∃ v H',Inv X pins σ H' s'/\RelV v u/\Q v H'
def TP (X:Cx) (pins:List (Addr×Obj)) (σ:St) (Q:Bool->Hp->Prop) (b:Bool) (s':Shared):Prop:=∃ H',Inv X pins σ H' s'/\Q b H'
def AP (X:Cx) (pins:List (Addr×Obj)) (σ:St) (Q:List V->Hp->Prop) (us:List Value) (s':Shared):Prop:=∃ vs H',Inv X pins σ H' s'/\Vals vs us/\Q vs H'
def SP (X:Cx) (pins:List (Addr×Obj)) (D:Ends) (f:Flow) (s':Shared):Prop :=
 match f with
 | .next=>∃ σ' H',Inv X pins σ' H' s'/\D.nx σ' H'
 | .brk=>∃ σ' H',Inv X pins σ' H' s'/\D.bk σ' H'
 | .cont=>∃ σ' H',Inv X pins σ' H' s'/\D.ct σ' H'
 | .ret u=>∃ v σ' H',Inv X pins σ' H' s'/\RelV v u/\D.rt v H'
def PE (X:Cx) (e:Expr) (t:TE):Prop :=
 ∀ (pins:List (Addr×Obj)) (s:Shared) (σ:St) (H:Hp) (Q:VK),Inv X pins σ H s->t σ H Q->wpAny (model X.prog X.w) X.A (eval e X.env) (EP X pins σ Q) X.xe s
def PT (X:Cx) (e:Expr) (t:TT):Prop :=
 ∀ (pins:List (Addr×Obj)) (s:Shared) (σ:St) (H:Hp) (Q:Bool->Hp->Prop),Inv X pins σ H s->t σ H Q->wpAny (model X.prog X.w) X.A (isTrue e X.env (eval e X.env)) (TP X pins σ Q) X.xe s
def PW (X:Cx) (e:Expr) (t:TT):Prop :=
 ∀ (whole:Sem Value) (pins:List (Addr×Obj)) (s:Shared) (σ:St) (H:Hp) (Q:Bool->Hp->Prop),Inv X pins σ H s->t σ H Q->wpAny (model X.prog X.w) X.A (isTrue e X.env whole) (TP X pins σ Q) X.xe s
theorem PW.pt {X:Cx} {e:Expr} {t:TT} (h:PW X e t):PT X e t:=h _
def PA (X:Cx) (es:List Expr) (t:TA):Prop :=
 ∀ (pos:Pos) (pins:List (Addr×Obj)) (s:Shared) (σ:St) (H:Hp) (Q:List V->Hp->Prop),Inv X pins σ H s->t σ H Q->wpAny (model X.prog X.w) X.A (spliced (backTo pos (starEach es X.env))) (AP X pins σ Q) X.xe s
def PS (X:Cx) (st:Stmt) (t:TS):Prop :=
 ∀ (pins:List (Addr×Obj)) (s:Shared) (σ:St) (H:Hp) (D:Ends),Inv X pins σ H s->t D σ H->wpAny (model X.prog X.w) X.A (exec st X.env) (SP X pins D) X.xe s
def PSs (X:Cx) (st:List Stmt) (t:TS):Prop :=
 ∀ (pins:List (Addr×Obj)) (s:Shared) (σ:St) (H:Hp) (D:Ends),Inv X pins σ H s->t D σ H->wpAny (model X.prog X.w) X.A (execs st X.env) (SP X pins D) X.xe s
theorem thn {α:Type} {t:Sem α} {Q Q':α->Shared->Prop} {M:Model} {A:Around} {E:Value->Shared->Prop} {s:Shared} (h:wpAny M A t Q E s) (hQ:∀ a s,Q a s->Q' a s):wpAny M A t Q' E s:=wpAny_mono h hQ λ_ _ x=>x
end L2
namespace L2
open PySem PySem.Spec PyProof.Rows
section
variable {X : Cx}
inductive tVarR (i:Nat) (σ:St) (H:Hp) (Q:VK):Prop
 | mk (v:_) (_:σ[i]?=some (some v)) (_:Q v H):tVarR i σ H Q
def tVar (i:Nat):TE:=λσ H Q=>tVarR i σ H Q
def tC (v:V):TE:=λ_ H Q=>Q v H
theorem pe_var {i:Nat} {x:Str} {pos:Pos} (hN:X.N[i]?=some x) (hv:Vis X.env.scope x) (hd:(x == ("__debug__":Str))=false:=by decide) (hcd:(x == ("__classdict__":Str))=false:=by decide):PE X (.Name x pos) (tVar i):=by
 intro pins s σ H Q I h
 obtain ⟨v,e,h⟩:=h
 obtain ⟨m,hn,hl⟩:=I.loc
 obtain ⟨u,r,l⟩:=hl i x v hN e hv
 have fin:EP X pins σ Q u s:=⟨v,H,I,r,h⟩
 rcases l with ⟨hk,hm⟩ | ⟨hk,c,hc,hcell⟩
 ·exact wpAny_Name (wpAny_loadName_local I.ok.kind hk hn hm fin) hd
 ·rcases hk with hk | hk
  ·exact wpAny_Name (wpAny_loadName_cell I.ok.kind hk hc hcell fin) hd
  ·exact wpAny_Name (wpAny_loadName_free I.ok.kind hk hc hcell fin hcd) hd
theorem pe_int {i j pos}:PE X (.Constant (.int i) j pos) (tC (.int i)):=λ_ _ _ H _ I h=>wpAny_Constant_int ⟨.int i,H,I.tok _,⟨_,rfl⟩,h⟩
theorem pe_bl {b j pos}:PE X (.Constant (.bool b) j pos) (tC (.bl b)):=λ_ _ _ H _ I h=>Constant_bool ⟨.bl b,H,I,rfl,h⟩
theorem pe_non {j pos}:PE X (.Constant .none j pos) (tC .non):=λ_ _ _ H _ I h=>Constant_none ⟨.non,H,I,rfl,h⟩
theorem pe_str {x j pos}:PE X (.Constant (.str x) j pos) (tC (.str x)):=λ_ _ _ H _ I h=>Calls.Constant_str ⟨.str x,H,I.tok _,⟨_,rfl⟩,h⟩
def Gl (X:Cx) (x:Str):Prop:=X.env.kindOf x=some .globalImplicit
theorem ld_glob {E:Value->Shared->Prop} {pins:List (Addr×Obj)} {s:Shared} {σ:St} {H:Hp} {x:Str} {u:Value} {pos:Pos} {Q:Value->Shared->Prop} (I:Inv X pins σ H s) (hg:Gl X x) (hm:X.mg x=some u) (h:Q u s)
  (hd:(x == ("__debug__":Str))=false:=by decide):wpAny (model X.prog X.w) X.A (eval (.Name x pos) X.env) Q E s :=
 Calls.Name_function_global I.ok.kind hg (Calls.loadGlobal_global (by rw [I.ok.glob]; exact I.mod.glob.keeps I.bk) hm h) hd
theorem ld_blt {E:Value->Shared->Prop} {pins:List (Addr×Obj)} {s:Shared} {σ:St} {H:Hp} {x:Str} {u:Value} {pos:Pos} {Q:Value->Shared->Prop} (I:Inv X pins σ H s) (hg:Gl X x) (hm:X.mg x=none) (hv:bootBuiltins x=some u) (h:Q u s)
  (hn:x≠"__name__":=by decide) (hd:(x == ("__debug__":Str))=false:=by decide):wpAny (model X.prog X.w) X.A (eval (.Name x pos) X.env) Q E s:=by
 obtain ⟨mb,h1,h2⟩:=I.mod.blt
 exact Calls.Name_function_global I.ok.kind hg (Calls.loadGlobal_builtin (by rw [I.ok.glob]; exact I.mod.glob.keeps I.bk) hm (by rw [I.ok.blt]; exact h1.keeps I.bk) ((h2 x hn).trans hv) h) hd
theorem pe_glob {x:Str} {v:V} {u:Value} {pos:Pos} (hg:Gl X x) (hm:X.mg x=some u) (r:RelV v u) (hd:(x == ("__debug__":Str))=false:=by decide):PE X (.Name x pos) (tC v) :=
 λ_ _ _ H _ I h=>ld_glob I hg hm ⟨v,H,I,r,h⟩ hd
theorem pe_bltn {x:Str} {v:V} {u:Value} {pos:Pos} (hg:Gl X x) (hm:X.mg x=none) (hv:bootBuiltins x=some u) (r:RelV v u) (hn:x≠"__name__":=by decide) (hd:(x == ("__debug__":Str))=false:=by decide):PE X (.Name x pos) (tC v) :=
 λ_ _ _ H _ I h=>ld_blt I hg hm hv ⟨v,H,I,r,h⟩ hn hd
variable {a b : Expr} {ta tb : TE} {pos : Pos}
inductive tBR (Q:(Bool->Hp->Prop)) (x:V) (H1:Hp):Prop
 | mk (c:_) (_:x=.bl c) (_:Q c H1):tBR Q x H1
def tB (t:TE):TT:=λσ H Q=>t σ H λx H1=>tBR Q x H1
theorem pt_val {e:Expr} {t:TE} (h:PE X e t) (he:∀ whole,isTrue e X.env whole=(do let v <- whole; standAt e.pos; holding [v] (truthy v)):=by intro _; rfl):PT X e (tB t):=by
 intro pins s σ H Q I hw
 refine isTrue_plain (thn (h pins s σ H _ I hw) λv s1 hpat=>?_) (he _)
 obtain ⟨x,H1,I1,r1,q1⟩:=hpat
 obtain ⟨d,rfl,q⟩:=q1
 cases r1
 exact wpAny_truthy_bool ⟨H1,I1,q⟩
variable {tA tB' : TT} {rest : List Expr}
def tAnd (t u:TT):TT:=λσ H Q=>t σ H λc H1=>if c=true then u σ H1 Q else Q false H1
def tOr (t u:TT):TT:=λσ H Q=>t σ H λc H1=>if c=true then Q true H1 else u σ H1 Q
def tNot (t:TT):TT:=λσ H Q=>t σ H λc H1=>Q (!c) H1
theorem pw_and1 (ha:PT X a tA):PW X (.BoolOp .And [a] pos) tA:=by
 intro wh pins s σ H Q I h
 refine isTrue_and (thn (ha pins s σ H Q I h) λc s1 e=>?_)
 cases c with
 | true=>exact isTrue_and_nil e
 | false=>exact e
theorem pw_or1 (ha:PT X a tA):PW X (.BoolOp .Or [a] pos) tA:=by
 intro wh pins s σ H Q I h
 refine isTrue_or (thn (ha pins s σ H Q I h) λc s1 e=>?_)
 cases c with
 | false=>exact isTrue_or_nil e
 | true=>exact e
theorem pw_and (ha:PT X a tA) (hb:PW X (.BoolOp .And (b::rest) pos) tB'):PW X (.BoolOp .And (a::b::rest) pos) (tAnd tA tB'):=by
 intro wh pins s σ H Q I h
 refine isTrue_and (thn (ha pins s σ H _ I h) λc s1 hpat=>?_)
 obtain ⟨H1,I1,q1⟩:=hpat
 cases c with
 | true=>exact hb wh pins s1 σ H1 Q I1 q1
 | false=>exact ⟨H1,I1,q1⟩
theorem pw_or (ha:PT X a tA) (hb:PW X (.BoolOp .Or (b::rest) pos) tB'):PW X (.BoolOp .Or (a::b::rest) pos) (tOr tA tB'):=by
 intro wh pins s σ H Q I h
 refine isTrue_or (thn (ha pins s σ H _ I h) λc s1 hpat=>?_)
 obtain ⟨H1,I1,q1⟩:=hpat
 cases c with
 | true=>exact ⟨H1,I1,q1⟩
 | false=>exact hb wh pins s1 σ H1 Q I1 q1
theorem pt_not (ha:PT X a tA):PT X (.UnaryOp .Not a pos) (tNot tA):=by
 intro pins s σ H Q I h
 exact isTrue_not (ha pins s σ H (λc H1=>Q (!c) H1) I h)
inductive tAndVR (tb:TE) (σ:St) (Q:VK) (x:V) (H1:Hp):Prop
 | mk (c:_) (_:x=.bl c) (_:if c=true then tb σ H1 Q else Q (.bl false) H1):tAndVR tb σ Q x H1
def tAndV (ta tb:TE):TE:=λσ H Q=>ta σ H λx H1=>tAndVR tb σ Q x H1
inductive tNotVR (Q:VK) (x:V) (H1:Hp):Prop
 | mk (c:_) (_:x=.bl c) (_:Q (.bl (!c)) H1):tNotVR Q x H1
def tNotV (ta:TE):TE:=λσ H Q=>ta σ H λx H1=>tNotVR Q x H1
theorem pe_one {op} {t:TE} (h:PE X a t):PE X (.BoolOp op [a] pos) t:=λpins s σ H Q I hw=>BoolOp_one (h pins s σ H Q I hw)
theorem pe_and (ha:PE X a ta) (hb:PE X (.BoolOp .And (b::rest) pos) tb):PE X (.BoolOp .And (a::b::rest) pos) (tAndV ta tb):=by
 intro pins s σ H Q I h
 refine BoolOp_and (thn (ha pins s σ H _ I h) λv s1 hpat=>?_)
 obtain ⟨x,H1,I1,r1,q1⟩:=hpat
 obtain ⟨c,rfl,q1⟩:=q1
 cases r1
 refine wpAny_truthy_bool ?_
 cases c with
 | true=>exact hb pins s1 σ H1 Q I1 q1
 | false=>exact ⟨.bl false,H1,I1,rfl,q1⟩
theorem pe_not (ha:PE X a ta):PE X (.UnaryOp .Not a pos) (tNotV ta):=by
 intro pins s σ H Q I h
 refine UnaryOp_ (thn (ha pins s σ H _ I h) λv s1 hpat=>?_)
 obtain ⟨x,H1,I1,r1,q1⟩:=hpat
 obtain ⟨c,rfl,q1⟩:=q1
 cases r1
 exact not_of (wpAny_truthy_bool ⟨.bl (!c),H1,I1,rfl,q1⟩)
def tIf (t:TT) (ta tb:TE):TE:=λσ H Q=>t σ H λc H1=>if c=true then ta σ H1 Q else tb σ H1 Q
theorem pe_ifExp {c:Expr} (hc:PT X c tA) (ha:PE X a ta) (hb:PE X b tb):PE X (.IfExp c a b pos) (tIf tA ta tb):=by
 intro pins s σ H Q I h
 refine wpAny_IfExp (thn (hc pins s σ H _ I h) λd s1 hpat=>?_)
 obtain ⟨H1,I1,q1⟩:=hpat
 cases d with
 | true=>exact ha pins s1 σ H1 Q I1 q1
 | false=>exact hb pins s1 σ H1 Q I1 q1
end
end L2
namespace L2
open PySem PySem.Spec PyProof.Rows
def SqL (K:PySem.W.Frag) (H:Hp) (a:Addr) (xs:List V):Prop :=
 Rd H a (.lst xs) \/
  ∃ (o:Obj) (its:Array Value) (n:Nat),K.lookup a=some o/\o.cls=.type "list"/\o.dict=none/\o.data=.seq its n/\its.size<=sizeLine/\Vals xs its.toList
def SqT (K:PySem.W.Frag) (H:Hp) (a:Addr) (xs:List V):Prop :=
 Rd H a (.tup xs) \/
  ∃ (o:Obj) (its:Array Value) (n:Nat),K.lookup a=some o/\o.cls=.type "tuple"/\o.data=.seq its n/\its.size<=sizeLine/\Vals xs its.toList
def absV:Value->Option V
 | .none=>some .non
 | .bool b=>some (.bl b)
 | .int i _=>some (.int i)
 | .str x _=>some (.str x)
 | .bytes b _=>some (.byt b)
 | .float b _=>some (.flt b)
 | .ref a=>some (.ref a)
 | .type n=>some (.ty n)
 | _=>none
theorem RelV.abs {x:V} {u:Value} (r:RelV x u):absV u=some x:=by
 cases x with
 | non=>cases r; rfl
 | bl _=>cases r; rfl
 | int _=>obtain ⟨t,rfl⟩:=r; rfl
 | str _=>obtain ⟨t,rfl⟩:=r; rfl
 | byt _=>obtain ⟨t,rfl⟩:=r; rfl
 | flt _=>obtain ⟨t,rfl⟩:=r; rfl
 | ref _=>cases r; rfl
 | ty _=>cases r; rfl
theorem RelV.inj {x y:V} {u:Value} (r:RelV x u) (q:RelV y u):x=y:=Option.some.inj (r.abs.symm.trans q.abs)
theorem Vals.inj:∀ {xs ys:List V} {us:List Value},Vals xs us->Vals ys us->xs=ys
 | _,_,_,.nil,.nil=>rfl
 | _,_,_,.cons r t,.cons r' t'=>by rw [r.inj r',Vals.inj t t']
section
variable {X : Cx} {pins : List (Addr × Obj)} {σ : St} {H : Hp} {s : Shared} {a : Addr} {xs ys : List V}
theorem SqL.of {K:PySem.W.Frag} (h:H a=some (.lst xs)):SqL K H a xs:=.inl (.inl h)
theorem SqT.of {K:PySem.W.Frag} (h:H a=some (.tup xs)):SqT K H a xs:=.inl (.inl h)
theorem Inv.list (I:Inv X pins σ H s) (h:SqL X.K H a xs):∃ its:List Value,Vals xs its/\PlainL s.heap a its.toArray/\xs.length<=sizeLine:=by
 rcases h with h | ⟨o,its,n,hk,hc,hd,hs,hz,r⟩
 ·obtain ⟨z,its,n,r,e⟩:=h.ok I.hok
  exact ⟨its,r,⟨_,n,e,rfl,rfl,rfl⟩,z⟩
 ·refine ⟨its.toList,r,⟨o,n,I.kIn a o hk,hc,hd,by simpa using hs⟩,?_⟩
  have e:=r.length
  simp only [Array.length_toList] at e
  omega
theorem Inv.tuple (I:Inv X pins σ H s) (h:SqT X.K H a xs):∃ its:List Value,Vals xs its/\IsTup s.heap a its.toArray/\xs.length<=sizeLine:=by
 rcases h with h | ⟨o,its,n,hk,hc,hs,hz,r⟩
 ·obtain ⟨z,its,r,p⟩:=h.ok I.hok
  exact ⟨its,r,p,z⟩
 ·refine ⟨its.toList,r,⟨o,I.kIn a o hk,hc,n,by simpa using hs⟩,?_⟩
  have e:=r.length
  simp only [Array.length_toList] at e
  omega
theorem Inv.list_inj (I:Inv X pins σ H s) (h:SqL X.K H a xs) (h':SqL X.K H a ys):xs=ys:=by
 obtain ⟨its,r,⟨o,n,e,_,_,d⟩,_⟩:=I.list h
 obtain ⟨its',r',⟨o',n',e',_,_,d'⟩,_⟩:=I.list h'
 rw [e] at e'; cases e'
 rw [d] at d'
 injection d' with d1 _
 have:its=its':=by simpa using congrArg Array.toList d1
 subst this
 exact r.inj r'
theorem Inv.tuple_inj (I:Inv X pins σ H s) (h:SqT X.K H a xs) (h':SqT X.K H a ys):xs=ys:=by
 obtain ⟨its,r,⟨o,e,_,n,d⟩,_⟩:=I.tuple h
 obtain ⟨its',r',⟨o',e',_,n',d'⟩,_⟩:=I.tuple h'
 rw [e] at e'; cases e'
 rw [d] at d'
 injection d' with d1 _
 have:its=its':=by simpa using congrArg Array.toList d1
 subst this
 exact r.inj r'
end
abbrev Cx.wish (X:Cx) (E:Value->Shared->Prop):Cx:={ X with xe:=E }
abbrev Cx.nox (X:Cx):Cx:=X.wish λ_ _=>False
theorem Cx.Ok.wish {X:Cx} (ok:X.Ok) (E:Value->Shared->Prop):(X.wish E).Ok :=
 ⟨ok.mod,ok.kind,ok.glob,ok.blt,ok.above,ok.inj,ok.has,ok.cab,ok.hd,ok.frames,ok.stk,ok.exf,ok.bs,ok.bsz,ok.noex,ok.exfs,ok.funs,ok.frf⟩
theorem Cx.Ok.unwish {X:Cx} {E:Value->Shared->Prop} (ok:(X.wish E).Ok):X.Ok :=
 ⟨ok.mod,ok.kind,ok.glob,ok.blt,ok.above,ok.inj,ok.has,ok.cab,ok.hd,ok.frames,ok.stk,ok.exf,ok.bs,ok.bsz,ok.noex,ok.exfs,ok.funs,ok.frf⟩
section
variable {X : Cx} {pins : List (Addr × Obj)} {σ : St} {H : Hp} {s : Shared} {E : Value → Shared → Prop}
theorem Inv.wish (I:Inv X pins σ H s) (E:Value->Shared->Prop):Inv (X.wish E) pins σ H s:=⟨I.ok.wish E,I.os,I.bare,I.base,I.loc,I.cell,I.free,I.freeC,I.pin,I.hok,I.len⟩
theorem Inv.unwish (I:Inv (X.wish E) pins σ H s):Inv X pins σ H s:=⟨I.ok.unwish,I.os,I.bare,I.base,I.loc,I.cell,I.free,I.freeC,I.pin,I.hok,I.len⟩
theorem SP.unwish {D:Ends} {f:Flow} {s':Shared} (h:SP (X.wish E) pins D f s'):SP X pins D f s':=by
 cases f with
 | next=>obtain ⟨σ',H',I,q⟩:=h; exact ⟨σ',H',I.unwish,q⟩
 | brk=>obtain ⟨σ',H',I,q⟩:=h; exact ⟨σ',H',I.unwish,q⟩
 | cont=>obtain ⟨σ',H',I,q⟩:=h; exact ⟨σ',H',I.unwish,q⟩
 | ret u=>obtain ⟨v,σ',H',I,r,q⟩:=h; exact ⟨v,σ',H',I.unwish,r,q⟩
theorem PSs.nox {st:List Stmt} {t:TS} (h:PSs X.nox st t):PSs X st t:=λpins s σ H D I hw =>
 wpAny_mono (h pins s σ H D (I.wish _) hw) (λ_ _ q=>q.unwish) λ_ _ z=>False.elim z
end
section
variable {X : Cx} {st : Stmt} {rest : List Stmt} {t u : TS} {e : Expr} {te : TE} {pos : Pos}
def tNext:TS:=λD σ H=>D.nx σ H
def tSeq (t u:TS):TS:=λD σ H=>t { D with nx:=u D } σ H
theorem pss_nil:PSs X [] tNext:=λ_ _ σ H _ I h=>wpAny_execs_nil ⟨σ,H,I,h⟩
theorem pss_cons (h1:PS X st t) (h2:PSs X rest u):PSs X (st::rest) (tSeq t u):=by
 intro pins s σ H D I h
 refine wpAny_execs_cons (thn (h1 pins s σ H { D with nx:=u D } I h) λf s1 q=>?_)
 cases f with
 | next =>
  obtain ⟨σ',H',I',q⟩:=q
  exact h2 pins s1 σ' H' D I' q
 | ret v=>exact q
 | brk=>exact q
 | cont=>exact q
theorem pss_one (h1:PS X st t):PSs X [st] t:=by
 intro pins s σ H D I h
 refine wpAny_execs_cons (thn (h1 pins s σ H D I h) λf s1 q=>?_)
 cases f with
 | next=>exact wpAny_execs_nil q
 | ret v=>exact q
 | brk=>exact q
 | cont=>exact q
theorem Inv.quiet {pins:List (Addr×Obj)} {σ:St} {H:Hp} {s:Shared} (I:Inv X pins σ H s):interactive X.env=false:=by simp [interactive,I.ok.kind]
def tDrop (te:TE):TS:=λD σ H=>te σ H λ_ H1=>D.nx σ H1
theorem ps_expr (he:PE X e te) (hs:swapsWith e none pos.line X.env=pure false:=by rfl):PS X (.Expr e pos) (tDrop te):=by
 intro pins s σ H D I h
 exact wpAny_Expr_any (thn (he pins s σ H _ I h) λv s1 ⟨x,H1,I1,r1,q1⟩=>⟨σ,H1,I1,q1⟩) I.quiet hs
def tRet (te:TE):TS:=λD σ H=>te σ H D.rt
theorem ps_ret (he:PE X e te):PS X (.Return (some e) pos) (tRet te):=by
 intro pins s σ H D I h
 exact wpAny_Return_some (thn (he pins s σ H _ I h) λv s1 ⟨x,H1,I1,r1,q1⟩=>⟨x,σ,H1,I1,r1,q1⟩)
def tIfS (c:TT) (t u:TS):TS:=λD σ H=>c σ H λb H1=>if b=true then t D σ H1 else u D σ H1
theorem ps_if {c:Expr} {a b:List Stmt} {tc:TT} (hc:PT X c tc) (ha:PSs X a t) (hb:PSs X b u):PS X (.If c a b pos) (tIfS tc t u):=by
 intro pins s σ H D I h
 refine wpAny_If (thn (hc pins s σ H _ I h) λd s1 hpat=>?_)
 obtain ⟨H1,I1,q1⟩:=hpat
 cases d with
 | true=>exact ha pins s1 σ H1 D I1 q1
 | false=>exact hb pins s1 σ H1 D I1 q1
def tNever:TS:=λ_ _ _=>False
theorem ps_never:PS X st tNever:=λ_ _ _ _ _ _ h=>h.elim
theorem pss_never {sts:List Stmt}:PSs X sts tNever:=λ_ _ _ _ _ _ h=>h.elim
end
abbrev TG:=V->St->Hp->(St->Hp->Prop)->Prop
abbrev TGs:=List V->St->Hp->(St->Hp->Prop)->Prop
def PG (X:Cx) (target:Expr) (t:TG):Prop :=
 ∀ (pins:List (Addr×Obj)) (s:Shared) (σ:St) (H:Hp) (v:V) (u:Value) (Q:St->Hp->Prop),Inv X pins σ H s->RelV v u->t v σ H Q ->
  wpAny (model X.prog X.w) X.A (assign target X.env u) (λ_ s'=>∃ σ' H',Inv X pins σ' H' s'/\Q σ' H') X.xe s
def PGs (X:Cx) (ts:List Expr) (t:TGs):Prop :=
 ∀ (pins:List (Addr×Obj)) (s:Shared) (σ:St) (H:Hp) (vs:List V) (us:List Value) (Q:St->Hp->Prop),Inv X pins σ H s->Vals vs us->t vs σ H Q ->
  wpAny (model X.prog X.w) X.A (assignInOrder ((assignEach ts X.env).map (·.2)) us) (λ_ s'=>∃ σ' H',Inv X pins σ' H' s'/\Q σ' H') X.xe s
abbrev TSet:=V->V->V->Hp->(Hp->Prop)->Prop
def PSet (X:Cx) (t:TSet):Prop :=
 ∀ (pins:List (Addr×Obj)) (s:Shared) (σ:St) (H:Hp) (o i v:V) (ov iv u:Value) (Q:Hp->Prop),Inv X pins σ H s->RelV o ov->RelV i iv->RelV v u->t o i v H Q ->
  wpAny (model X.prog X.w) X.A (setItem ov iv u) (λ_ s'=>∃ H',Inv X pins σ H' s'/\Q H') X.xe s
section
variable {X : Cx} {pos : Pos}
def gName (i:Nat):TG:=λv σ H Q=>Q (σ.set i (some v)) H
theorem pg_name {i:Nat} {x:Str} (hN:X.N.Nodup) (hi:X.N[i]?=some x) (hx:Loc X.env.scope x) (hf:X.fn x=true\/X.env.scope.names.lookup x=some .local:=by first | exact .inl rfl | exact .inr rfl | assumption):PG X (.Name x pos) (gName i):=by
 intro pins s σ H v u Q I r h
 exact wpAny_assign_Name (store_ok I hN hi hx r (λs' I'=>⟨_,H,I',h⟩) hf)
def gNil:TGs:=λvs σ H Q=>vs=[]/\Q σ H
inductive gConsR (t:TG) (u:TGs) (vs:(List V)) (σ:St) (H:Hp) (Q:(St->Hp->Prop)):Prop
 | mk (v r:_) (_:vs=v::r) (_:t v σ H λσ' H'=>u r σ' H' Q):gConsR t u vs σ H Q
def gCons (t:TG) (u:TGs):TGs:=λvs σ H Q=>gConsR t u vs σ H Q
theorem pgs_nil:PGs X [] gNil:=by
 intro pins s σ H vs us Q I r h
 obtain ⟨e,h⟩:=h
 subst e
 cases r
 exact assignInOrder_nil ⟨σ,H,I,h⟩
theorem pgs_cons {e:Expr} {es:List Expr} {t:TG} {u:TGs} (h1:PG X e t) (h2:PGs X es u)
  (hs:(assignEach (e::es) X.env).map (·.2)=assign e X.env::(assignEach es X.env).map (·.2):=by rfl):PGs X (e::es) (gCons t u):=by
 intro pins s σ H vs us Q I r h
 obtain ⟨v,vr,e1,h⟩:=h
 subst e1
 cases r with
 | cons r rr =>
  rw [hs]
  refine assignInOrder_cons (thn (h1 pins s σ H _ _ _ I r h) λ_ s1 hpat=>?_)
  obtain ⟨σ1,H1,I1,q1⟩:=hpat
  exact h2 pins s1 σ1 H1 _ _ Q I1 rr q1
inductive gTupR (K:PySem.W.Frag) (n:Nat) (t:TGs) (v:V) (σ:St) (H:Hp) (Q:(St->Hp->Prop)):Prop
 | mk (a xs:_) (_:v=.ref a) (_:SqT K H a xs) (_:xs.length=n) (_:t xs σ H Q):gTupR K n t v σ H Q
def gTup (K:PySem.W.Frag) (n:Nat) (t:TGs):TG:=λv σ H Q=>gTupR K n t v σ H Q
theorem pg_tup {es:List Expr} {k:Nat} {t:TGs} {n:Nat} (hc:X.calm=true) (h:PGs X es t)
  (hn:(assignEach es X.env).length=n:=by rfl) (hst:(assignEach es X.env).findIdx? (·.1)=none:=by rfl):PG X (.Tuple es k pos) (gTup X.K n t):=by
 intro pins s σ H v u Q I r hw
 obtain ⟨a,xs,e1,hq,hl,hw⟩:=hw
 subst e1
 cases r
 obtain ⟨its,rv,ht,hz⟩:=I.tuple hq
 refine assign_Tuple_tuple (I.ok.hd hc) ht (by simp [hn,<- hl,rv.length]) hst λh' hx=>?_
 have I1:Inv X pins σ H { s with heap:=h' }:=I.kept (t':=s.toks) λb o e=>hx b o (Nat.ne_of_lt (Heap.lt_size e)) e
 exact h pins _ σ H xs _ Q I1 (by simpa using rv) hw
def gSub (to ti:TE) (t:TSet):TG:=λv σ H Q=>to σ H λo H1=>ti σ H1 λi H2=>t o i v H2 λH3=>Q σ H3
theorem pg_sub {o i:Expr} {to ti:TE} {t:TSet} (ho:PE X o to) (hi:PE X i ti) (hs:PSet X t)
  (ha:∀ v,assign (.Subscript o i pos) X.env v=(do
   let ov <- holding [v] (eval o X.env)
   let iv <- holding [v,ov] (eval i X.env)
   standAt pos
   holding [v,ov,iv] (setItem ov iv v)
   release [v,ov,iv] []):=by intro _; rfl):PG X (.Subscript o i pos) (gSub to ti t):=by
 intro pins s σ H v u Q I r h
 rw [ha]
 refine wpAny_bind (wpAny_holding (thn (ho pins s σ H _ I h) λov s1 hpat=>?_))
 obtain ⟨x,H1,I1,r1,q1⟩:=hpat
 refine wpAny_bind (wpAny_holding (thn (hi pins s1 σ H1 _ I1 q1) λiv s2 hpat=>?_))
 obtain ⟨y,H2,I2,r2,q2⟩:=hpat
 refine wpAny_bind (wpAny_standAt (wpAny_bind (wpAny_holding (thn (hs pins s2 σ H2 x y v ov iv u _ I2 r1 r2 r q2) λ_ s3 hpat=>?_))))
 obtain ⟨H3,I3,q3⟩:=hpat
 exact wpAny_release ⟨σ,H3,I3,q3⟩
def tAsg (te:TE) (g:TG):TS:=λD σ H=>te σ H λx H1=>g x σ H1 D.nx
theorem ps_asg {tg e:Expr} {te:TE} {g:TG} (he:PE X e te) (hg:PG X tg g) (hs:swapsWithSole [tg] e pos.line X.env=pure false:=by rfl) (hw:swappedStores [tg] e X.env=pure none:=by rfl)
  (h1:(assignEach [tg] X.env).map (·.2)=[assign tg X.env]:=by rfl):PS X (.Assign [tg] e pos) (tAsg te g):=by
 intro pins s σ H D I h
 refine wpAny_Assign_stores (thn (he pins s σ H _ I h) λv s1 hpat=>?_) hs hw
 obtain ⟨x,H1,I1,r1,q1⟩:=hpat
 rw [h1]
 exact thn (hg pins s1 σ H1 x v _ I1 r1 q1) λ_ s2 q=>q
theorem ps_set {i:Nat} {x:Str} {e:Expr} {te:TE} {pos':Pos} (hN:X.N.Nodup) (hi:X.N[i]?=some x) (hx:Loc X.env.scope x) (he:PE X e te) (hs:swapsWith e (some (.Name x pos')) pos.line X.env=pure false:=by rfl) (hf:X.fn x=true\/X.env.scope.names.lookup x=some .local:=by first | exact .inl rfl | exact .inr rfl | assumption) :
  PS X (.Assign [.Name x pos'] e pos) (tAsg te (gName i)):=by
 intro pins s σ H D I h
 refine wpAny_Assign_Name (thn (he pins s σ H _ I h) λv s1 hpat=>?_) hs
 obtain ⟨y,H1,I1,r1,q1⟩:=hpat
 exact store_ok I1 hN hi hx r1 (λs2 I2=>⟨_,H1,I2,q1⟩) hf
end
section
variable {X : Cx} {pos : Pos}
end
structure It where
 go:Nat->Hp->Prop
 yld:Nat->Hp->V->Hp->Prop
 stop:Nat->Hp->Prop
def FpOk (X:Cx) (pins:List (Addr×Obj)) (H:Hp) (b:Addr):Prop :=
 H b=none/\b≠X.env.locals/\b ∉ X.fs/\(b ∈ X.ex\/X.s₀.heap.objs.size<=b)/\(∀ x c,X.env.cells.lookup x=some c->c≠b)/\∀ p ∈ X.pn++pins,p.1≠b
theorem Inv.fpOk {X:Cx} {pins:List (Addr×Obj)} {σ:St} {H H':Hp} {s:Shared} {b:Addr} (I:Inv X pins σ H s) (hb:s.heap.objs.size<=b) (hn:H' b=none):FpOk X pins H' b:=by
 refine ⟨hn,Nat.ne_of_gt (Nat.lt_of_lt_of_le I.lt hb),I.nofs hb,.inr (Nat.le_trans I.sz hb),λx c e z=>?_,λp hp z=>?_⟩
 ·obtain ⟨v,q⟩:=I.cell x c e
  exact absurd (Nat.lt_of_lt_of_le q.lt (by rw [z]; exact hb)) (Nat.lt_irrefl _)
 ·exact absurd (Nat.lt_of_lt_of_le (Heap.lt_size (I.pin p hp).1) (by rw [z]; exact hb)) (Nat.lt_irrefl _)
structure Turn (P:Program) (w:World) (K:PySem.W.Frag) (tg:Expr) (J:It) (fp:List Addr) (it:Addr) (tn:Nat->Heap->Prop):Prop where
 mem:it ∈ fp
 obj:∀ i h,tn i h->∀ b ∈ fp,∃ o,h.get? b=some o/\∀ v,o.data≠.cell v
 keep:∀ i h h',tn i h->(∀ b ∈ fp,∀ o,h.get? b=some o->h'.get? b=some o)->tn i h'
 item:∀ (X:Cx),X.prog=P->X.w=w->X.K=K->X.calm=true->∀ (i:Nat) (pins:List (Addr×Obj)) (s:Shared) (σ:St) (H:Hp) (E:Value->Shared->Prop),Inv X pins σ H s->(∀ b ∈ fp,FpOk X pins H b)->tn i s.heap->J.go i H ->
  wpAny (model P w) X.A (pyNext (.ref it)) (λr s1=>∃ u,r=some u /\
   wpAny (model P w) X.A (letOwnedTupleGo tg (.ref it) u) (λ_ s2=>∃ x H',Inv X pins σ H' s2/\RelV x u/\J.yld i H x H'/\tn (i+1) s2.heap/\∀ b ∈ fp,H' b=none) E s1) E s
 done:∀ (X:Cx),X.prog=P->X.w=w->X.K=K->X.calm=true->∀ (i:Nat) (pins:List (Addr×Obj)) (s:Shared) (σ:St) (H:Hp) (E:Value->Shared->Prop),Inv X pins σ H s->(∀ b ∈ fp,FpOk X pins H b)->tn i s.heap->J.stop i H ->
  wpAny (model P w) X.A (pyNext (.ref it)) (λr s1=>r=none/\Inv X pins σ H s1) E s
 self:∀ (A:Around) (i:Nat) (s:Shared) (Q:Value->Shared->Prop) (E:Value->Shared->Prop),tn i s.heap->Q (.ref it) s->wpAny (model P w) A (pyIter (.ref it)) Q E s
abbrev TI:=St->Hp->(It->Hp->Prop)->Prop
def PIE (X:Cx) (pins:List (Addr×Obj)) (σ:St) (tg:Expr) (R:It->Hp->Prop) (itv:Value) (s2:Shared):Prop :=
 ∃ (it:Addr) (fp:List Addr) (tn:Nat->Heap->Prop) (J:It) (H':Hp),itv=.ref it/\Inv X pins σ H' s2/\Turn X.prog X.w X.K tg J fp it tn/\tn 0 s2.heap/\(∀ b ∈ fp,FpOk X pins H' b)/\R J H'
def PI (X:Cx) (tg iter:Expr) (wi:TI):Prop :=
 ∀ (pins:List (Addr×Obj)) (s:Shared) (σ:St) (H:Hp) (R:It->Hp->Prop),Inv X pins σ H s->wi σ H R ->
  wpAny (model X.prog X.w) X.A (eval iter X.env) (λv s1=>wpAny (model X.prog X.w) X.A (pyIter v) (PIE X pins σ tg R) X.xe s1) X.xe s
theorem go_of {M:Model} {A:Around} {E:Value->Shared->Prop} {s:Shared} {tg:Expr} {it:Addr} {u:Value} {o:Obj} {n:String} {vs:Array Value} {Q:Unit->Shared->Prop} (ho:s.heap.get? it=some o) (hc:o.cls=.type n) (hd:o.data=.fields vs)
  (hn:["enumerate","zip","dict_itemiterator","dict_reverseitemiterator","odict_iterator","itertools.zip_longest","itertools.pairwise"].contains n=false) (hQ:Q () s):wpAny M A (letOwnedTupleGo tg (.ref it) u) Q E s:=by
 unfold letOwnedTupleGo
 cases tg <;> first
  | exact wpAny_pure hQ
  | (cases u <;> first
    | exact wpAny_pure hQ
    | (refine wpAny_bind (wpAny_load ho ?_)
       rw [hc,hd]
       show wpAny M A (if (["enumerate","zip","dict_itemiterator","dict_reverseitemiterator","odict_iterator","itertools.zip_longest","itertools.pairwise"].contains n && vs[0]? == some (rawInt _))=true then _ else _) Q E s
       rw [if_neg (by intro h; rw [hn,Bool.false_and] at h; cases h)]
       exact wpAny_pure hQ))
def Itl (K:PySem.W.Frag) (a:Addr):It :=
 ⟨λi H=>∃ xs x,SqL K H a xs/\xs[i]?=some x,λi H x H'=>H'=H/\∀ xs,SqL K H a xs->xs[i]?=some x,λi H=>∃ xs,SqL K H a xs/\xs.length<=i⟩
def Itr (lo:Int) (n:Nat):It:=⟨λi _=>i<n,λi H x H'=>H'=H/\x=.int (lo+i),λi _=>n<=i⟩
theorem turn_list {P:Program} {w:World} {K:PySem.W.Frag} {tg:Expr} (a it:Addr):Turn P w K tg (Itl K a) [it] it (λi h=>h.IsListIter it a i) where
 mem:=by simp
 obj:=λi h st b hb=>by
  have e:b=it:=by simpa using hb
  subst e
  obtain ⟨o,e,c,d⟩:=st
  exact ⟨o,e,λv z=>by rw [d] at z; cases z⟩
 keep:=λi h h' st k=>st.at λo e=>k it (by simp) o e
 item:=by
  intro X hP hw hK hc i pins s σ H E I hf st hg
  subst hP hw hK
  obtain ⟨xs,x,hq,hx⟩:=hg
  obtain ⟨its,rv,p,hz⟩:=I.list hq
  obtain ⟨u,hu,ru⟩:=rv.get hx
  obtain ⟨f0,f1,f2,f3,f4,f5⟩:=hf it (by simp)
  refine wpAny_pyNext_list_item st p.isList (x:=u) (by simpa using hu) λh' st' sb=>?_
  have I1:Inv X pins σ H { s with heap:=h' }:=I.turned (t':=s.toks) (λb o hb e=>(sb.2 b hb).trans e) f0 f1 f3 f4 f5
  obtain ⟨o,e,c,d⟩:=id st'
  exact ⟨u,rfl,go_of (s:={ s with heap:=h' }) e c d (by decide) ⟨x,H,I1,ru,⟨rfl,λys hy=>by rw [I.list_inj hy hq]; exact hx⟩,st',λb hb=>(hf b hb).1⟩⟩
 done:=by
  intro X hP hw hK hc i pins s σ H E I hf st hg
  subst hP hw hK
  obtain ⟨xs,hq,hx⟩:=hg
  obtain ⟨its,rv,p,hz⟩:=I.list hq
  obtain ⟨f0,f1,f2,f3,f4,f5⟩:=hf it (by simp)
  have hl:=rv.length
  exact wpAny_pyNext_list_end (I.ok.hd hc) st p.isList (by simp; omega) λh' eb=>⟨rfl,I.turned (t':=s.toks) (λb o hb e=>eb b o hb e) f0 f1 f3 f4 f5⟩
 self:=λ_ _ _ _ _ st h=>wpAny_pyIter_listiter st h
theorem turn_range {P:Program} {w:World} {K:PySem.W.Frag} {tg:Expr} (it:Addr) (lo:Int) (n:Nat):Turn P w K tg (Itr lo n) [it] it (λi h=>IsRangeIter h it (lo+(i:Nat) * 1) ((n:Int) - (i:Nat)) 1) where
 mem:=by simp
 obj:=λi h st b hb=>by
  have e:b=it:=by simpa using hb
  subst e
  exact ⟨_,st,λv z=>by
   have z':Data.fields _=Data.cell v:=z
   cases z'⟩
 keep:=λi h h' st k=>k it (by simp) _ st
 item:=by
  intro X hP hw hK hc i pins s σ H E I hf st hg
  subst hP hw hK
  obtain ⟨f0,f1,f2,f3,f4,f5⟩:=hf it (by simp)
  have W:=Walks.range (prog:=X.prog) (w:=X.w) (I.ok.hd hc) it lo 1 n
  refine W.item i s _ _ hg st λv h' tk hv st' kk=>?_
  obtain ⟨t,rfl⟩:=hv
  have I1:Inv X pins σ H { s with heap:=h',toks:=tk }:=I.turned (λb o hb e=>kk b o (by simpa using hb) e) f0 f1 f3 f4 f5
  refine ⟨_,rfl,go_of (s:={ s with heap:=h',toks:=tk }) (n:="range_iterator") st' rfl rfl (by decide) ⟨.int (lo+i),H,I1,⟨t,?_⟩,⟨rfl,rfl⟩,st',λb hb=>(hf b hb).1⟩⟩
  rw [Int.mul_one]
 done:=by
  intro X hP hw hK hc i pins s σ H E I hf st hg
  subst hP hw hK
  obtain ⟨f0,f1,f2,f3,f4,f5⟩:=hf it (by simp)
  exact wpAny_pyNext_range_end (I.ok.hd hc) st (by have:n<=i:=hg; omega) λh' eb=>⟨rfl,I.turned (t':=s.toks) (λb o hb e=>eb b o hb e) f0 f1 f3 f4 f5⟩
 self:=λ_ _ _ _ _ st h=>wpAny_pyIter_rangeiter st h
end L2
namespace L2
open PySem PySem.Spec PyProof.Rows
section
variable {X : Cx} {tg : Expr}
def iList (K:PySem.W.Frag) (tl:TE):TI:=λσ H R=>tl σ H λx H1=>∃ a,x=.ref a/\(∃ xs,SqL K H1 a xs)/\R (Itl K a) H1
theorem pi_list {l:Expr} {tl:TE} (hl:PE X l tl):PI X tg l (iList X.K tl):=by
 intro pins s σ H R I h
 refine thn (hl pins s σ H _ I h) λv s1 hpat=>?_
 obtain ⟨x,H1,I1,r1,q1⟩:=hpat
 obtain ⟨a,e,⟨xs,hq⟩,q⟩:=q1
 subst e
 cases r1
 obtain ⟨its,rv,p,hz⟩:=I1.list hq
 refine wpAny_pyIter_list p.isList ?_
 refine ⟨s1.heap.objs.size,[s1.heap.objs.size],_,_,H1,rfl,I1.kept (t':=s1.toks) λb o e=>Heap.get?_push_of_some _ e,turn_list a _,⟨_,Heap.get?_push_size _ rfl,rfl,rfl⟩,λb hb=>?_,q⟩
 have e:b=s1.heap.objs.size:=by simpa using hb
 subst e
 exact I1.fpOk (Nat.le_refl _) (I1.hok.fresh (Nat.le_refl _))
theorem range_it {pins:List (Addr×Obj)} {σ:St} {H:Hp} {s:Shared} {R:It->Hp->Prop} {E:Value->Shared->Prop} {lo hi:Int} {t u v:Tok} {tk:Nat} (I:Inv X pins σ H s) (h1:-(2 ^ 62)<=lo) (h2:lo<2 ^ 62) (h3:-(2 ^ 62)<=hi) (h4:hi<2 ^ 62)
  (q:R (Itr lo (hi - lo).toNat) H):wpAny (model X.prog X.w) X.A (pyIter (.ref s.heap.objs.size)) (PIE X pins σ tg R) E { s with heap:=s.heap.push { cls:=.type "range",data:=.fields #[.int lo t,.int hi u,.int 1 v] },toks:=tk }:=by
 refine wpAny_pyIter_range (IsRange.new ..) (small_one h1 h2 h3 h4) ?_
 have I1:Inv X pins σ H { s with heap:=s.heap.push { cls:=.type "range",data:=.fields #[.int lo t,.int hi u,.int 1 v] },toks:=tk }:=I.kept λb o e=>Heap.get?_push_of_some _ e
 refine ⟨(s.heap.push { cls:=.type "range",data:=.fields #[.int lo t,.int hi u,.int 1 v] }).objs.size,[(s.heap.push { cls:=.type "range",data:=.fields #[.int lo t,.int hi u,.int 1 v] }).objs.size],_,_,H,rfl,
  I1.kept (t':=tk) λb o e=>Heap.get?_push_of_some _ e,turn_range _ lo (hi - lo).toNat,?_,λb hb=>?_,q⟩
 ·have e1:lo+((0:Nat):Int) * 1=lo:=by simp
  have e2:(((hi - lo).toNat:Nat):Int) - ((0:Nat):Int)=Builtin.Range.rangeSize lo hi 1:=by rw [rangeSize_one]; split <;> omega
  show IsRangeIter _ _ (lo+((0:Nat):Int) * 1) ((((hi - lo).toNat:Nat):Int) - ((0:Nat):Int)) 1
  rw [e1,e2]
  exact Heap.get?_push_size _ rfl
 ·have e:b=(s.heap.push { cls:=.type "range",data:=.fields #[.int lo t,.int hi u,.int 1 v] }).objs.size:=by simpa using hb
  subst e
  exact I1.fpOk (Nat.le_refl _) (I1.hok.fresh (Nat.le_refl _))
def iRng1 (ta:TA):TI:=λσ H R=>ta σ H λvs H1=>∃ j:Int,vs=[.int j]/\-(2 ^ 62)<=j/\j<2 ^ 62/\R (Itr 0 j.toNat) H1
theorem pi_range1 {a:Expr} {ta:TA} {p pos:Pos} (hg:Gl X "range") (hm:X.mg "range"=none) (ha:PA X [a] ta) (hs:starEach [a] X.env=[(false,eval a X.env)]:=by rfl):PI X tg (.Call (.Name "range" p) [a] [] pos) (iRng1 ta):=by
 intro pins s σ H R I h
 refine Call_ (ld_blt I hg hm boot_range (PyProof.Rows.callWith_type1 (thn (ha pos pins s σ H _ I h) λus s1 hpat=>?_) hs rfl))
 obtain ⟨vs,H1,I1,r1,q1⟩:=hpat
 obtain ⟨j,e,q1,q2,q⟩:=q1
 subst e
 cases r1 with
 | cons r rr =>
  cases rr
  obtain ⟨t,rfl⟩:=r
  exact call_range_1 (range_it I1 (by omega) (by omega) q1 q2 (by simpa using q))
def tFor (wi:TI) (g:TG) (tb:TS):TS:=λD σ H=>wi σ H λJ H1=>∃ W:Nat->Nat->St->Hp->Prop,(∃ m,W 0 m σ H1)/\∀ i m σ H,W i m σ H ->
 (J.stop i H/\D.nx σ H)\/(J.go i H/\∃ N:St->Hp->Prop,(∀ σ' H',N σ' H'->∃ m',m'<m/\W (i+1) m' σ' H')/\∀ x H',J.yld i H x H'->g x σ H' λσ2 H2=>tb { D with nx:=N,ct:=N,bk:=D.nx } σ2 H2)
def pinsAt (fp:List Addr) (h:Heap):List (Addr×Obj):=fp.filterMap λb=>(h.get? b).map λo=>(b,o)
theorem mem_pinsAt {fp:List Addr} {h:Heap} {b:Addr} {o:Obj} (hb:b ∈ fp) (e:h.get? b=some o):(b,o) ∈ pinsAt fp h:=List.mem_filterMap.mpr ⟨b,hb,by rw [e]; rfl⟩
theorem of_pinsAt {fp:List Addr} {h:Heap} {p:Addr×Obj} (hp:p ∈ pinsAt fp h):p.1 ∈ fp/\h.get? p.1=some p.2:=by
 obtain ⟨b,hb,e⟩:=List.mem_filterMap.mp hp
 cases q:h.get? b with
 | none=>rw [q] at e; cases e
 | some o =>
  rw [q] at e
  have e':(b,o)=p:=Option.some.inj e
  subst e'
  exact ⟨hb,q⟩
theorem Inv.pinned {pins:List (Addr×Obj)} {σ:St} {H:Hp} {s:Shared} {fp:List Addr} (I:Inv X pins σ H s) (hf:∀ b ∈ fp,FpOk X pins H b) (ho:∀ b ∈ fp,∃ o,s.heap.get? b=some o/\∀ v,o.data≠.cell v):Inv X (pins++pinsAt fp s.heap) σ H s :=
 I.pins_of λp hp=>(List.mem_append.mp hp).elim (λz=>I.pin p (List.mem_append_right _ z)) λz=>by
  obtain ⟨hb,e⟩:=of_pinsAt z
  obtain ⟨f0,f1,f2,_⟩:=hf p.1 hb
  obtain ⟨o,e',d⟩:=ho p.1 hb
  rw [e] at e'; cases e'
  exact ⟨e,f0,f1,f2,d⟩
theorem Inv.unpinned {pins pl:List (Addr×Obj)} {σ:St} {H:Hp} {s:Shared} (I:Inv X (pins++pl) σ H s):Inv X pins σ H s:=I.pins_of λp hp=>I.pin p (List.mem_append_right _ (List.mem_append_left _ hp))
theorem ps_for {iter:Expr} {body:List Stmt} {wi:TI} {g:TG} {tb:TS} {pos:Pos} (hp:PassesOwn (model X.prog X.w) X.A X.env X.xe) (hc:X.calm=true) (hi:PI X tg iter wi) (hg:PG X tg g) (hb:PSs X body tb)
  (hs:∀ x,foldedSetIterable iter X.env x=pure x:=by intro _; rfl):PS X (.For tg iter body [] pos) (tFor wi g tb):=by
 intro pins s σ H D I h
 refine wpAny_For (thn (hi pins s σ H _ I h) λv s1 h1=>thn h1 λitv s2 h2=>?_) hs
 obtain ⟨it,fp,tn,J,H2,e,I2,T,st2,f2,W,⟨m0,w0⟩,turn⟩:=h2
 subst e
 have stat:∀ {H':Hp},(∀ b ∈ fp,H' b=none)->∀ b ∈ fp,FpOk X pins H' b:=λhn b hb=>⟨hn b hb,(f2 b hb).2⟩
 refine codeAny_forLoop_any (λn s'=>∃ i σ' H',Inv X pins σ' H' s'/\tn i s'.heap/\(∀ b ∈ fp,H' b=none)/\W i n σ' H') ?_ m0 ⟨0,σ,H2,I2,st2,λb hb=>(f2 b hb).1,w0⟩
 rintro n s3 ⟨i,σ3,H3,I3,st3,fr3,w3⟩
 rcases turn i n σ3 H3 w3 with ⟨stop,qn⟩ | ⟨go,N,hN,step⟩
 ·refine wpAny_passesOwn hp (thn (T.done X rfl rfl rfl hc i pins s3 σ3 H3 X.xe I3 (stat fr3) st3 stop) λr s4 ⟨hr,I4⟩=>?_)
  subst hr
  exact wpAny_execs_nil ⟨σ3,H3,I4,qn⟩
 ·refine wpAny_passesOwn hp (thn (T.item X rfl rfl rfl hc i pins s3 σ3 H3 X.xe I3 (stat fr3) st3 go) λr s4 hpat=>?_)
  obtain ⟨u,hr,h4⟩:=hpat
  subst hr
  refine wpAny_passesOwn hp (thn h4 λ_ s5 hpat=>?_)
  obtain ⟨x,H5,I5,r5,y5,st5,fr5⟩:=hpat
  have I5':=I5.pinned (stat fr5) (T.obj _ _ st5)
  refine wpAny_passesOwn hp (thn (hg _ s5 σ3 H5 x u _ I5' r5 (step x H5 y5)) λ_ s6 hpat=>?_)
  obtain ⟨σ6,H6,I6,q6⟩:=hpat
  refine wpAny_passesOwn hp (thn (hb _ s6 σ6 H6 _ I6 q6) λf s7 q7=>?_)
  have again:∀ {σ7:St} {H7:Hp},Inv X (pins++pinsAt fp s5.heap) σ7 H7 s7->N σ7 H7->∃ m,m<n/\∃ i σ' H',Inv X pins σ' H' s7/\tn i s7.heap/\(∀ b ∈ fp,H' b=none)/\W i m σ' H':=λ{σ7 H7} I7 n7=>by
   obtain ⟨m',hm,w7⟩:=hN σ7 H7 n7
   refine ⟨m',hm,i+1,σ7,H7,I7.unpinned,T.keep _ _ _ st5 λb hb o e=>(I7.pin (b,o) (List.mem_append_right _ (List.mem_append_right _ (mem_pinsAt hb e)))).1,λb hb=>?_,w7⟩
   obtain ⟨o,e,d⟩:=T.obj _ _ st5 b hb
   exact (I7.pin (b,o) (List.mem_append_right _ (List.mem_append_right _ (mem_pinsAt hb e)))).2.1
  cases f with
  | next=>obtain ⟨σ7,H7,I7,n7⟩:=q7; exact again I7 n7
  | cont=>obtain ⟨σ7,H7,I7,n7⟩:=q7; exact again I7 n7
  | brk=>obtain ⟨σ7,H7,I7,q7⟩:=q7; exact ⟨σ7,H7,I7.unpinned,q7⟩
  | ret v=>obtain ⟨x7,σ7,H7,I7,r7,q7⟩:=q7; exact ⟨x7,σ7,H7,I7.unpinned,r7,q7⟩
end
theorem for_list {K:PySem.W.Frag} {a:Addr} {xs:List V} {g:TG} {tb:TS} {D:Ends} {σ:St} {H:Hp} (Pv:Nat->St->Hp->Prop) (h0:Pv 0 σ H) (hl:∀ i σ H,i<=xs.length->Pv i σ H->SqL K H a xs)
  (hs:∀ i x σ H,xs[i]?=some x->Pv i σ H->g x σ H λσ2 H2=>tb { D with nx:=Pv (i+1),ct:=Pv (i+1),bk:=D.nx } σ2 H2) (hd:∀ σ H,Pv xs.length σ H->D.nx σ H) :
  ∃ W:Nat->Nat->St->Hp->Prop,(∃ m,W 0 m σ H)/\∀ i m σ H,W i m σ H ->
   ((Itl K a).stop i H/\D.nx σ H)\/((Itl K a).go i H/\∃ N:St->Hp->Prop,(∀ σ' H',N σ' H'->∃ m',m'<m/\W (i+1) m' σ' H')/\∀ x H',(Itl K a).yld i H x H'->g x σ H' λσ2 H2=>tb { D with nx:=N,ct:=N,bk:=D.nx } σ2 H2):=by
 refine ⟨λi m σ H=>m=xs.length - i/\i<=xs.length/\Pv i σ H,⟨xs.length,by simp,Nat.zero_le _,h0⟩,?_⟩
 rintro i m σ H ⟨rfl,hi,p⟩
 have q:=hl i σ H hi p
 by_cases hlt:i<xs.length
 ·refine .inr ⟨⟨xs,xs[i],q,by simp [hlt]⟩,Pv (i+1),λσ' H' p'=>⟨xs.length - (i+1),by omega,rfl,hlt,p'⟩,λx H' y=>?_⟩
  obtain ⟨e,y⟩:=y
  subst e
  exact hs i x σ _ (y xs q) p
 ·have e:i=xs.length:=by omega
  subst e
  exact .inl ⟨⟨xs,q,Nat.le_refl _⟩,hd σ H p⟩
theorem for_range {lo:Int} {n:Nat} {g:TG} {tb:TS} {D:Ends} {σ:St} {H:Hp} (Pv:Nat->St->Hp->Prop) (h0:Pv 0 σ H)
  (hs:∀ i σ H,i<n->Pv i σ H->g (.int (lo+i)) σ H λσ2 H2=>tb { D with nx:=Pv (i+1),ct:=Pv (i+1),bk:=D.nx } σ2 H2) (hd:∀ σ H,Pv n σ H->D.nx σ H) :
  ∃ W:Nat->Nat->St->Hp->Prop,(∃ m,W 0 m σ H)/\∀ i m σ H,W i m σ H ->
   ((Itr lo n).stop i H/\D.nx σ H)\/((Itr lo n).go i H/\∃ N:St->Hp->Prop,(∀ σ' H',N σ' H'->∃ m',m'<m/\W (i+1) m' σ' H')/\∀ x H',(Itr lo n).yld i H x H'->g x σ H' λσ2 H2=>tb { D with nx:=N,ct:=N,bk:=D.nx } σ2 H2):=by
 refine ⟨λi m σ H=>m=n - i/\i<=n/\Pv i σ H,⟨n,by simp,Nat.zero_le _,h0⟩,?_⟩
 rintro i m σ H ⟨rfl,hi,p⟩
 by_cases hlt:i<n
 ·refine .inr ⟨hlt,Pv (i+1),λσ' H' p'=>⟨n - (i+1),by omega,rfl,hlt,p'⟩,λx H' y=>?_⟩
  obtain ⟨e,y⟩:=y
  subst e y
  exact hs i σ _ hlt p
 ·have e:i=n:=by omega
  subst e
  exact .inl ⟨Nat.le_refl _,hd σ H p⟩
end L2
namespace L2
open PySem PySem.Spec PyProof.Rows
abbrev R2:=V->V->Hp->VK->Prop
def OpR (X:Cx) (f:Value->Value->Sem Value) (r:R2):Prop :=
 ∀ (pins:List (Addr×Obj)) (s:Shared) (σ:St) (H:Hp) (x y:V) (v u:Value) (Q:VK),Inv X pins σ H s->RelV x v->RelV y u->r x y H Q ->
  wpAny (model X.prog X.w) X.A (f v u) (EP X pins σ Q) X.xe s
def UnR (X:Cx) (f:Value->Sem Value) (r:V->Hp->VK->Prop):Prop :=
 ∀ (pins:List (Addr×Obj)) (s:Shared) (σ:St) (H:Hp) (x:V) (v:Value) (Q:VK),Inv X pins σ H s->RelV x v->r x H Q ->
  wpAny (model X.prog X.w) X.A (f v) (EP X pins σ Q) X.xe s
def CallR (X:Cx) (f:Value) (r:List V->Hp->VK->Prop):Prop :=
 ∀ (pins:List (Addr×Obj)) (s:Shared) (σ:St) (H:Hp) (xs:List V) (us:List Value) (Q:VK),Inv X pins σ H s->Vals xs us->r xs H Q ->
  wpAny (model X.prog X.w) X.A (call f us) (EP X pins σ Q) X.xe s
def tOp (r:R2) (ta tb:TE):TE:=λσ H Q=>ta σ H λx H1=>tb σ H1 λy H2=>r x y H2 Q
def tUn (r:V->Hp->VK->Prop) (ta:TE):TE:=λσ H Q=>ta σ H λx H1=>r x H1 Q
inductive rIR (C:Int->Int->Prop) (g:Int->Int->V) (x:V) (y:V) (H:Hp) (Q:VK):Prop
 | mk (i j:_) (_:x=.int i) (_:y=.int j) (_:C i j) (_:Q (g i j) H):rIR C g x y H Q
def rI (C:Int->Int->Prop) (g:Int->Int->V):R2:=λx y H Q=>rIR C g x y H Q
inductive rI0R (g:Int->Int->V) (x:V) (y:V) (H:Hp) (Q:VK):Prop
 | mk (i j:_) (_:x=.int i) (_:y=.int j) (_:Q (g i j) H):rI0R g x y H Q
def rI0 (g:Int->Int->V):R2:=λx y H Q=>rI0R g x y H Q
inductive rUR (g:Int->V) (x:V) (H:Hp) (Q:VK):Prop
 | mk (i:_) (_:x=.int i) (_:Q (g i) H):rUR g x H Q
def rU (g:Int->V):V->Hp->VK->Prop:=λx H Q=>rUR g x H Q
section
variable {X : Cx} {a b c : Expr} {ta tb tc : TE} {pos : Pos}
theorem binT (ha:PE X a ta) (hb:PE X b tb) {pins:List (Addr×Obj)} {s:Shared} {σ:St} {H:Hp} {R:V->V->Hp->Prop} (I:Inv X pins σ H s)
  (h:ta σ H λx H1=>tb σ H1 λy H2=>R x y H2) {Q:Value->Shared->Prop} {f:Value->Value->Sem Value}
  (hf:∀ v u s2 x y H2,Inv X pins σ H2 s2->RelV x v->RelV y u->R x y H2->wpAny (model X.prog X.w) X.A (f v u) Q X.xe s2) :
  wpAny (model X.prog X.w) X.A (eval a X.env) (λv s₁=>wpAny (model X.prog X.w) X.A (eval b X.env) (λu s₂=>wpAny (model X.prog X.w) X.A (f v u) Q X.xe s₂) X.xe s₁) X.xe s:=by
 refine thn (ha pins s σ H _ I h) λv s1 hpat=>?_
 obtain ⟨x,H1,I1,r1,q1⟩:=hpat
 refine thn (hb pins s1 σ H1 _ I1 q1) λu s2 hpat=>?_
 obtain ⟨y,H2,I2,r2,q2⟩:=hpat
 exact hf v u s2 x y H2 I2 r1 r2 q2
theorem pe_op {op:Operator} {r:R2} (ho:OpR X (binaryOp op) r) (ha:PE X a ta) (hb:PE X b tb):PE X (.BinOp a op b pos) (tOp r ta tb):=by
 intro pins s σ H Q I h
 exact wpAny_BinOp (binT ha hb I h λv u s2 x y H2 I2 rx ry q=>ho pins s2 σ H2 x y v u Q I2 rx ry q)
theorem pe_un {op:UnaryOp} {r:V->Hp->VK->Prop} (ho:UnR X (unaryOp op) r) (ha:PE X a ta):PE X (.UnaryOp op a pos) (tUn r ta):=by
 intro pins s σ H Q I h
 exact UnaryOp_ (thn (ha pins s σ H _ I h) λv s1 ⟨x,H1,I1,r1,q1⟩=>ho pins s1 σ H1 x v Q I1 r1 q1)
theorem opI {f:Value->Value->Sem Value} {C:Int->Int->Prop} {g:Int->Int->Int}
  (rule:∀ (i j:Int) (t u:Tok) (s:Shared) (Q:Value->Shared->Prop) (E:Value->Shared->Prop),C i j->Q (.int (g i j) s.toks) { s with toks:=s.toks+1 }->wpAny (model X.prog X.w) X.A (f (.int i t) (.int j u)) Q E s) :
  OpR X f (rI C λi j=>.int (g i j)):=by
 intro pins s σ H x y v u Q I rx ry h
 obtain ⟨i,j,rfl,rfl,hc,q⟩:=h
 obtain ⟨t,rfl⟩:=rx
 obtain ⟨t',rfl⟩:=ry
 exact rule i j t t' s _ _ hc ⟨.int (g i j),H,I.tok _,⟨_,rfl⟩,q⟩
theorem opI0 {f:Value->Value->Sem Value} {g:Int->Int->Int}
  (rule:∀ (i j:Int) (t u:Tok) (s:Shared) (Q:Value->Shared->Prop) (E:Value->Shared->Prop),Q (.int (g i j) s.toks) { s with toks:=s.toks+1 }->wpAny (model X.prog X.w) X.A (f (.int i t) (.int j u)) Q E s) :
  OpR X f (rI0 λi j=>.int (g i j)):=by
 intro pins s σ H x y v u Q I rx ry h
 obtain ⟨i,j,rfl,rfl,q⟩:=h
 obtain ⟨t,rfl⟩:=rx
 obtain ⟨t',rfl⟩:=ry
 exact rule i j t t' s _ _ ⟨.int (g i j),H,I.tok _,⟨_,rfl⟩,q⟩
theorem opB0 {f:Value->Value->Sem Value} {g:Int->Int->Bool}
  (rule:∀ (i j:Int) (t u:Tok) (s:Shared) (Q:Value->Shared->Prop) (E:Value->Shared->Prop),Q (.bool (g i j)) s->wpAny (model X.prog X.w) X.A (f (.int i t) (.int j u)) Q E s) :
  OpR X f (rI0 λi j=>.bl (g i j)):=by
 intro pins s σ H x y v u Q I rx ry h
 obtain ⟨i,j,rfl,rfl,q⟩:=h
 obtain ⟨t,rfl⟩:=rx
 obtain ⟨t',rfl⟩:=ry
 exact rule i j t t' s _ _ ⟨.bl (g i j),H,I,rfl,q⟩
def CDiv (i j:Int):Prop:=0<j/\j<1073741824
def CPow (i j:Int):Prop:=0<=j/\j<=1000000/\i.natAbs<2 ^ 64
def CMul (i j:Int):Prop:=(-(2 ^ 64)<i/\i<2 ^ 64)\/(-(2 ^ 64)<j/\j<2 ^ 64)
theorem CMul.ok {i j:Int} (h:CMul i j):IntMulOk i j:=by
 rcases h with ⟨h1,h2⟩ | ⟨h1,h2⟩
 ·exact .of_left (intBits_le_64 h1 h2)
 ·exact .of_right (intBits_le_64 h1 h2)
theorem op_add:OpR X (binaryOp .Add) (rI0 λi j=>.int (i+j)):=opI0 λ_ _ _ _ _ _ _ q=>add_int q
theorem op_sub:OpR X (binaryOp .Sub) (rI0 λi j=>.int (i - j)):=opI0 λ_ _ _ _ _ _ _ q=>sub_int q
theorem op_mul:OpR X (binaryOp .Mult) (rI CMul λi j=>.int (i * j)):=opI λ_ _ _ _ _ _ _ hc q=>mul_int q hc.ok
theorem op_fdiv:OpR X (binaryOp .FloorDiv) (rI CDiv λi j=>.int (i / j)):=opI λi j _ _ _ _ _ hc q=>by
 have h1:(0:Int)<j:=hc.1
 have h2:j<1073741824:=hc.2
 exact floordiv_int (by omega) (by rw [Int.fdiv_eq_ediv_of_nonneg i (by omega)]; exact q) (.inl (PyProof.noPylong_small (by omega)))
theorem op_mod:OpR X (binaryOp .Mod) (rI (λ_ j=>0<j) λi j=>.int (i % j)):=opI λi j _ _ _ _ _ hc q=>by
 have h1:(0:Int)<j:=hc
 exact mod_int' (by omega) (by rw [Int.fmod_eq_emod_of_nonneg i (by omega)]; exact q)
theorem op_pow:OpR X (binaryOp .Pow) (rI CPow λi j=>.int (i ^ j.toNat)):=opI λ_ _ _ _ _ _ _ hc q=>pow_int_small hc.1 hc.2.1 hc.2.2 q
theorem unI {f:Value->Sem Value} {g:Int->Int}
  (rule:∀ (i:Int) (t:Tok) (s:Shared) (Q:Value->Shared->Prop) (E:Value->Shared->Prop),Q (.int (g i) s.toks) { s with toks:=s.toks+1 }->wpAny (model X.prog X.w) X.A (f (.int i t)) Q E s) :
  UnR X f (rU λi=>.int (g i)):=by
 intro pins s σ H x v Q I rx h
 obtain ⟨i,rfl,q⟩:=h
 obtain ⟨t,rfl⟩:=rx
 exact rule i t s _ _ ⟨.int (g i),H,I.tok _,⟨_,rfl⟩,q⟩
theorem un_neg:UnR X (unaryOp .USub) (rU λi=>.int (-i)):=unI λ_ _ _ _ _ q=>neg_int q
end
def scal:V->V->Bool
 | .non,.non=>true | .non,.int _=>true | .int _,.non=>true | .non,.bl _=>true | .bl _,.non=>true | .non,.str _=>true | .str _,.non=>true
 | .int _,.int _=>true | .bl _,.bl _=>true | .str _,.str _=>true | .byt _,.byt _=>true
 | .int _,.str _=>true | .str _,.int _=>true | .bl _,.str _=>true | .str _,.bl _=>true
 | _,_=>false
def rEq:R2:=λx y H Q=>scal x y=true/\Q (.bl (decide (x=y))) H
def rNe:R2:=λx y H Q=>scal x y=true/\Q (.bl (!decide (x=y))) H
theorem dec_int {i j:Int}:decide (V.int i=V.int j)=(i == j):=by
 rw [Bool.eq_iff_iff]
 simp
theorem dec_bl {i j:Bool}:decide (V.bl i=V.bl j)=(i == j):=by
 rw [Bool.eq_iff_iff]
 simp
theorem dec_str {i j:Str}:decide (V.str i=V.str j)=(i == j):=by
 rw [Bool.eq_iff_iff]
 simp
theorem dec_byt {i j:Array UInt8}:decide (V.byt i=V.byt j)=(i.toList == j.toList):=by
 rw [Bool.eq_iff_iff]
 cases i
 cases j
 simp
section
variable {X : Cx} {a b c : Expr} {ta tb tc : TE} {pos : Pos}
theorem fin_bl {pins:List (Addr×Obj)} {σ:St} {H:Hp} {s:Shared} {Q:VK} {k k':Bool} (I:Inv X pins σ H s) (q:Q (.bl k) H) (e:k=k'):EP X pins σ Q (.bool k') s:=by
 subst e
 exact ⟨.bl k,H,I,rfl,q⟩
theorem op_eq:OpR X (compareOp .Eq) rEq:=by
 intro pins s σ H x y v u Q I rx ry h
 obtain ⟨hs,q⟩:=h
 cases x with
 | non =>
  cases rx
  cases y with
  | non=>cases ry; exact PySem.EqNone.eq_none_none (fin_bl I q (by simp))
  | bl j=>cases ry; exact PySem.EqNone.eq_none_bool (fin_bl I q (by simp))
  | int j=>obtain ⟨t',rfl⟩:=ry; exact PySem.EqNone.eq_none_int (fin_bl I q (by simp))
  | str j=>obtain ⟨t',rfl⟩:=ry; exact PySem.EqNone.eq_none_str (fin_bl I q (by simp))
  | _=>exact absurd (show false=true from hs) Bool.false_ne_true
 | bl i =>
  cases rx
  cases y with
  | non=>cases ry; exact PySem.EqNone.eq_bool_none (fin_bl I q (by simp))
  | bl j=>cases ry; exact eq_bool (fin_bl I q dec_bl)
  | str j=>obtain ⟨t',rfl⟩:=ry; exact PySem.EqMixed.eq_bool_str (fin_bl I q (by simp))
  | _=>exact absurd (show false=true from hs) Bool.false_ne_true
 | int i =>
  obtain ⟨t,rfl⟩:=rx
  cases y with
  | non=>cases ry; exact PySem.EqNone.eq_int_none (fin_bl I q (by simp))
  | int j=>obtain ⟨t',rfl⟩:=ry; exact eq_int (fin_bl I q dec_int)
  | str j=>obtain ⟨t',rfl⟩:=ry; exact PySem.EqMixed.eq_int_str (fin_bl I q (by simp))
  | _=>exact absurd (show false=true from hs) Bool.false_ne_true
 | str i =>
  obtain ⟨t,rfl⟩:=rx
  cases y with
  | non=>cases ry; exact PySem.EqNone.eq_str_none (fin_bl I q (by simp))
  | bl j=>cases ry; exact PySem.EqMixed.eq_str_bool (fin_bl I q (by simp))
  | int j=>obtain ⟨t',rfl⟩:=ry; exact PySem.EqMixed.eq_str_int (fin_bl I q (by simp))
  | str j=>obtain ⟨t',rfl⟩:=ry; exact eq_str (fin_bl I q dec_str)
  | _=>exact absurd (show false=true from hs) Bool.false_ne_true
 | byt i =>
  obtain ⟨t,rfl⟩:=rx
  cases y with
  | byt j=>obtain ⟨t',rfl⟩:=ry; exact PySem.W.eq_bytes (fin_bl I q dec_byt)
  | _=>exact absurd (show false=true from hs) Bool.false_ne_true
 | _=>cases y <;> exact absurd (show false=true from hs) Bool.false_ne_true
theorem op_ne:OpR X (compareOp .NotEq) rNe:=by
 intro pins s σ H x y v u Q I rx ry h
 obtain ⟨hs,q⟩:=h
 cases x with
 | non =>
  cases rx
  cases y with
  | non=>cases ry; exact PySem.EqNone.ne_none_none (fin_bl I q (by simp))
  | bl j=>cases ry; exact PySem.EqNone.ne_none_bool (fin_bl I q (by simp))
  | int j=>obtain ⟨t',rfl⟩:=ry; exact PySem.EqNone.ne_none_int (fin_bl I q (by simp))
  | str j=>obtain ⟨t',rfl⟩:=ry; exact PySem.EqNone.ne_none_str (fin_bl I q (by simp))
  | _=>exact absurd (show false=true from hs) Bool.false_ne_true
 | bl i =>
  cases rx
  cases y with
  | non=>cases ry; exact PySem.EqNone.ne_bool_none (fin_bl I q (by simp))
  | bl j=>cases ry; exact ne_bool (fin_bl I q (congrArg not dec_bl))
  | str j=>obtain ⟨t',rfl⟩:=ry; exact PySem.EqMixed.ne_bool_str (fin_bl I q (by simp))
  | _=>exact absurd (show false=true from hs) Bool.false_ne_true
 | int i =>
  obtain ⟨t,rfl⟩:=rx
  cases y with
  | non=>cases ry; exact PySem.EqNone.ne_int_none (fin_bl I q (by simp))
  | int j=>obtain ⟨t',rfl⟩:=ry; exact ne_int (fin_bl I q (congrArg not dec_int))
  | str j=>obtain ⟨t',rfl⟩:=ry; exact PySem.EqMixed.ne_int_str (fin_bl I q (by simp))
  | _=>exact absurd (show false=true from hs) Bool.false_ne_true
 | str i =>
  obtain ⟨t,rfl⟩:=rx
  cases y with
  | non=>cases ry; exact PySem.EqNone.ne_str_none (fin_bl I q (by simp))
  | bl j=>cases ry; exact PySem.EqMixed.ne_str_bool (fin_bl I q (by simp))
  | int j=>obtain ⟨t',rfl⟩:=ry; exact PySem.EqMixed.ne_str_int (fin_bl I q (by simp))
  | str j=>obtain ⟨t',rfl⟩:=ry; exact ne_str (fin_bl I q (congrArg not dec_str))
  | _=>exact absurd (show false=true from hs) Bool.false_ne_true
 | byt i =>
  obtain ⟨t,rfl⟩:=rx
  cases y with
  | byt j=>obtain ⟨t',rfl⟩:=ry; exact PySem.W.ne_bytes (fin_bl I q (congrArg not dec_byt))
  | _=>exact absurd (show false=true from hs) Bool.false_ne_true
 | _=>cases y <;> exact absurd (show false=true from hs) Bool.false_ne_true
theorem op_lt:OpR X (compareOp .Lt) (rI0 λi j=>.bl (decide (i<j))):=opB0 λ_ _ _ _ _ _ _ q=>lt_int q
theorem op_le:OpR X (compareOp .LtE) (rI0 λi j=>.bl (decide (i<=j))):=opB0 λ_ _ _ _ _ _ _ q=>le_int q
theorem op_gt:OpR X (compareOp .Gt) (rI0 λi j=>.bl (decide (j<i))):=opB0 λ_ _ _ _ _ _ _ q=>gt_int q
theorem op_ge:OpR X (compareOp .GtE) (rI0 λi j=>.bl (decide (j<=i))):=opB0 λ_ _ _ _ _ _ _ q=>ge_int q
theorem op_isN:OpR X (compareOp .Is) (λx y H Q=>y=.non/\Q (.bl (decide (x=.non))) H):=by
 intro pins s σ H x y v u Q I rx ry h
 obtain ⟨rfl,q⟩:=h
 cases ry
 refine is_none_gen (fin_bl I q ?_)
 cases x <;> first
  | (cases rx; rfl)
  | (obtain ⟨t,rfl⟩:=rx; rfl)
theorem op_notN:OpR X (compareOp .IsNot) (λx y H Q=>y=.non/\Q (.bl (!decide (x=.non))) H):=by
 intro pins s σ H x y v u Q I rx ry h
 obtain ⟨rfl,q⟩:=h
 cases ry
 refine isnot_none_gen (fin_bl I q ?_)
 cases x <;> first
  | (cases rx; rfl)
  | (obtain ⟨t,rfl⟩:=rx; rfl)
theorem nomark (b:Expr) {op:CmpOp} (h:op≠.In:=by decide) (h2:op≠.NotIn:=by decide):behindInMarks op b=false:=by
 have e1:(op == CmpOp.In)=false:=by cases op <;> first | rfl | exact absurd rfl h
 have e2:(op == CmpOp.NotIn)=false:=by cases op <;> first | rfl | exact absurd rfl h2
 cases b <;> simp [behindInMarks,e1,e2]
theorem pe_cmpR {op:CmpOp} {r:R2} (ho:OpR X (compareOp op) r) (ha:PE X a ta) (hb:PE X b tb) (hm:behindInMarks op b=false):PE X (.Compare a [op] [b] pos) (tOp r ta tb):=by
 intro pins s σ H Q I h
 exact wpAny_Compare1 (binT ha hb I h λv u s2 x y H2 I2 rx ry q=>ho pins s2 σ H2 x y v u Q I2 rx ry q) hm
inductive tTestR (Q:(Bool->Hp->Prop)) (x:V) (H':Hp):Prop
 | mk (k:_) (_:x=.bl k) (_:Q k H'):tTestR Q x H'
def tTest (t:TE):TT:=λσ H Q=>t σ H λx H'=>tTestR Q x H'
theorem pt_cmpR {op:CmpOp} {r:R2} (ho:OpR X (compareOp op) r) (ha:PE X a ta) (hb:PE X b tb) (hm:behindInMarks op b=false):PT X (.Compare a [op] [b] pos) (tTest (tOp r ta tb)):=by
 intro pins s σ H Q I h
 refine wpAny_isTrue_Compare1 (thn (ha pins s σ H _ I h) λv s1 ⟨x,H1,I1,r1,q1⟩=>thn (hb pins s1 σ H1 _ I1 q1) λu s2 ⟨y,H2,I2,r2,q2⟩ =>
  thn (ho pins s2 σ H2 x y v u _ I2 r1 r2 q2) λc s3 ⟨z,H3,I3,r3,k,e,q3⟩=>?_) hm
 subst e
 cases r3
 exact wpAny_truthy_bool ⟨H3,I3,q3⟩
inductive tChainR (r':R2) (tc:TE) (σ:St) (Q:VK) (y:V) (z:V) (H3:Hp):Prop
 | mk (k:_) (_:z=.bl k) (_:(if k=true then tc σ H3 λw' H4=>r' y w' H4 Q else Q (.bl false) H3)):tChainR r' tc σ Q y z H3
def tChain (r r':R2) (ta tb tc:TE):TE:=λσ H Q=>ta σ H λx H1=>tb σ H1 λy H2=>r x y H2 λz H3=>tChainR r' tc σ Q y z H3
theorem pe_chain {op op':CmpOp} {r r':R2} (ho:OpR X (compareOp op) r) (ho':OpR X (compareOp op') r') (ha:PE X a ta) (hb:PE X b tb) (hc:PE X c tc)
  (hm:lastMarks [op,op'] [b,c]=false:=by with_unfolding_all rfl):PE X (.Compare a [op,op'] [b,c] pos) (tChain r r' ta tb tc):=by
 intro pins s σ H Q I h
 refine Compare_chain (thn (ha pins s σ H _ I h) λv s1 ⟨x,H1,I1,r1,q1⟩=>chain_link (thn (hb pins s1 σ H1 _ I1 q1) λu s2 ⟨y,H2,I2,r2,q2⟩ =>
  thn (ho pins s2 σ H2 x y v u _ I2 r1 r2 q2) λd s3 ⟨z,H3,I3,r3,k,e,q3⟩=>?_)) hm
 subst e
 cases r3
 refine wpAny_truthy_bool ?_
 cases k with
 | false=>exact ite_ff ⟨.bl false,H3,I3,rfl,q3⟩
 | true=>exact ite_tt (chain_last (thn (hc pins s3 σ H3 _ I3 q3) λw' s4 ⟨z',H4,I4,r4,q4⟩=>ho' pins s4 σ H4 y z' u w' Q I4 r2 r4 q4))
theorem pt_chain {op op':CmpOp} {r r':R2} (ho:OpR X (compareOp op) r) (ho':OpR X (compareOp op') r') (ha:PE X a ta) (hb:PE X b tb) (hc:PE X c tc)
  (hm:lastMarks [op,op'] [b,c]=false:=by with_unfolding_all rfl):PT X (.Compare a [op,op'] [b,c] pos) (tTest (tChain r r' ta tb tc)):=by
 intro pins s σ H Q I h
 refine isTrue_chain (thn (ha pins s σ H _ I h) λv s1 ⟨x,H1,I1,r1,q1⟩=>test_link (thn (hb pins s1 σ H1 _ I1 q1) λu s2 ⟨y,H2,I2,r2,q2⟩ =>
  thn (ho pins s2 σ H2 x y v u _ I2 r1 r2 q2) λd s3 ⟨z,H3,I3,r3,k,e,q3⟩=>?_)) hm
 subst e
 cases r3
 refine wpAny_truthy_bool ?_
 cases k with
 | false =>
  obtain ⟨k',e',q'⟩:=q3
  cases e'
  exact ite_ff ⟨H3,I3,q'⟩
 | true =>
  refine ite_tt (test_last (thn (hc pins s3 σ H3 _ I3 q3) λw' s4 ⟨z',H4,I4,r4,q4⟩=>thn (ho' pins s4 σ H4 y z' u w' _ I4 r2 r4 q4) λd' s5 hpat=>?_))
  obtain ⟨z2,H5,I5,r5,k2,e2,q5⟩:=hpat
  subst e2
  cases r5
  exact wpAny_truthy_bool ⟨H5,I5,q5⟩
theorem line63:(sizeLine:Nat)<2 ^ 63:=by rw [sizeLine_eq]; decide
theorem vals1 {x:V} {us:List Value} (r:Vals [x] us):∃ u,us=[u]/\RelV x u:=by
 cases r with
 | cons r1 r2=>cases r2; exact ⟨_,rfl,r1⟩
end
end L2
namespace L2
open PySem PySem.Spec PyProof.Rows
structure ObjM (h:Heap) (x dx C:Addr) (mA:Str->Option Value):Prop where
 obj:h.get? x=some (PySem.W.instObj C dx)
 ns:h.Ns1 dx mA
 ne:dx≠x
theorem lookIn_ns {h:Heap} {dx:Addr} {mA:Str->Option Value} (n:h.Ns1 dx mA):∃ od,h.get? dx=some od/\∀ name,PySem.W.lookIn name od=some (mA name):=by
 obtain ⟨o,es,ep,ho,hd,hk,_,hm⟩:=n
 refine ⟨o,ho,λname=>?_⟩
 have e:=hm name
 unfold nsFind findBy at e
 rw [<- Array.find?_toList] at e
 unfold PySem.W.lookIn
 rw [hd]
 dsimp only
 split
 ·rename_i y q
  rw [q] at e
  exact congrArg some e
 ·rename_i q
  rw [q] at e
  have a:es.toList.any (·.refKey)=false:=by
   rw [List.any_eq_false]
   intro y hy
   obtain ⟨z,t,hkey⟩:=hk y (Array.mem_toList_iff.mp hy)
   simp [DictEntry.refKey,hkey]
  have a':¬ es.toList.any (·.refKey)=true:=by rw [a]; exact Bool.false_ne_true
  rw [if_neg a']
  exact congrArg some e
theorem ObjM.look {h:Heap} {x dx C:Addr} {mA:Str->Option Value} (I:ObjM h x dx C mA):∃ od,PySem.W.InstAt h x (PySem.W.instObj C dx) C (some od)/\∀ name,PySem.W.lookIn name od=some (mA name) :=
 let ⟨od,ho,hl⟩:=lookIn_ns I.ns
 ⟨od,⟨I.obj,rfl,rfl,ho⟩,hl⟩
section
variable {prog : Program} {w : World} {A : Around} {E : Value → Shared → Prop} {s : Shared} {K : PySem.W.Frag} {x dx C f : Addr} {mA : Str → Option Value} {name : Str} {v : Value}
theorem get_map {expr:Bool} {Q:Value->Shared->Prop} (X:K.In s.heap) (I:ObjM s.heap x dx C mA) (hg:PySem.W.plainGet K C name=true) (hh:PySem.W.hasDictIn K C=true)
  (ha:PySem.W.findIn K (.ref C) name=some none) (hv:mA name=some v) (hv':PySem.W.handedIn v=true) (h:Q v { s with toks:=s.toks+1 }) :
  wpAny (model prog w) A (getAttr (.ref x) name expr) Q E s:=by
 obtain ⟨od,J,hl⟩:=I.look
 exact PySem.W.get_value X J (PySem.W.plainGet_of hg).1 (PySem.W.findObj_own hh ha rfl (by rw [hl,hv])) hv' h
theorem get_meth {pl:Sem Bool} {Q:Value×List Value->Shared->Prop} (X:K.In s.heap) (I:ObjM s.heap x dx C mA) (hg:PySem.W.plainGet K C name=true)
  (hf:PySem.W.findIn K (.ref C) name=some (some (.ref f))) (ht:PySem.W.isFn K (.ref f)=true) (hv:mA name=none) (h:Q (.ref f,[.ref x]) s) :
  wpAny (model prog w) A (getMethod (.ref x) name pl) Q E s:=by
 obtain ⟨od,J,hl⟩:=I.look
 exact PySem.W.method_fn X J (PySem.W.plainGet_of hg).1 (PySem.W.plainGet_of hg).2 hf (beq_iff_eq.mp ht) (by show (PySem.W.lookIn name od).map (·.isSome)=some false; rw [hl,hv]; rfl) h
theorem set_map {ns:List Str} {Q:Unit->Shared->Prop} (X:K.In s.heap) (I:ObjM s.heap x dx C mA)
  (hs:PySem.W.findIn K (.ref C) "__setattr__"=some (some (.builtin "object.__setattr__"))) (hp:PySem.W.plainOver K C=true) (ht:PySem.W.takerIn K C name=some none) (hh:PySem.W.hasDictIn K C=true)
  (hw:PySem.Within mA ns) (hsz:ns.length<=sizeLine)
  (h:∀ h',ObjM h' x dx C (λy=>if y=name then some v else mA y)->Heap.SameBut dx s.heap h'->Q () { s with heap:=h',toks:=s.toks+2 }) :
  wpAny (model prog w) A (setAttr (.ref x) name v) Q E s:=by
 obtain ⟨od,J,hl⟩:=I.look
 refine PySem.W.set_plain X J hs (PySem.W.osa_open (s:={ s with toks:=s.toks+1 }) (r:=none) X J hp ht λb=>?_)
 obtain ⟨cd,hc,hd'⟩:=PySem.W.any_some hh
 have hx:s.heap.get? x=some ⟨.ref C,some dx,.plain,#[]⟩:=I.obj
 refine wpAny_bind (wpAny_pure (wpAny_bind (wpAny_bind (wpAny_loadPart hx (wpAny_bind (PySem.W.Looks.here (s:={ s with toks:=s.toks+1 }) (PySem.W.looks_clsIn X hc) ?_))))))
 rw [hd']
 refine wpAny_pure (a:=some dx) (wpAny_bind (wpAny_pure (wpAny_bind ?_)))
 refine wpAny_nsSet1 (s:={ s with toks:=s.toks+1 }) I.ns λh' hn2 hs2=>?_
 obtain ⟨oD,esD,epD,hoD,hdD,hcD⟩:=hn2.count (PySem.Within.cons name v hw)
 refine wpAny_bind (wpAny_lookBehind hoD (by rw [hdD]; exact pastItsLine_dict (Nat.le_trans hcD (by rw [List.length_cons]; omega))) ?_)
 exact wpAny_pure (h _ ⟨(hs2.2 _ (Ne.symm I.ne)).trans I.obj,hn2,I.ne⟩ hs2)
theorem make_map {R:Result->Shared->Prop} {vs:List Value} {kw:List (Str×Value)} (X:K.In s.heap) (hm:PySem.W.makesIn K C=true)
  (hi:PySem.W.findIn K (.ref C) "__init__"=some (some (.ref f))) (hf:PySem.W.typeIn K (.ref f)=some (.type "function"))
  (h:codeAny (model prog w) (A.under (.builtin "type.__call__" ⟨.ref C::vs,kw⟩)) (.call (.ref f) ⟨.ref (s.heap.objs.size+1)::vs,kw⟩) (PySem.W.InitBack (s.heap.objs.size+1) R)
   { s with heap:=(s.heap.push PySem.W.emptyDict).push (PySem.W.instObj C s.heap.objs.size) }) :
  codeAny (model prog w) A (.call (.ref C) ⟨vs,kw⟩) R s:=by
 obtain ⟨hh,g,d,t,os⟩:=s
 exact PySem.W.make_core (PySem.W.makes_of X hm) (PySem.W.looks_findIn X hi) (λself=>PySem.W.bind_fn X self hf) (.inl rfl) h
end
def putF (f:Str) (v:V):List (Str×V)->List (Str×V)
 | []=>[(f,v)]
 | (g,x)::r=>if g=f then (g,v)::r else (g,x)::putF f v r
theorem lookup_putF (f g:Str) (v:V):∀ fs:List (Str×V),(putF f v fs).lookup g=if g=f then some v else fs.lookup g
 | []=>by
  show List.lookup g [(f,v)]=_
  by_cases h:g=f
  ·have hb:(g == f)=true:=beq_iff_eq.mpr h
   simp only [List.lookup,hb,if_pos h]
  ·have hb:(g == f)=false:=beq_eq_false_iff_ne.mpr h
   simp only [List.lookup,hb,if_neg h]
 | (k,x)::r=>by
  have ih:=lookup_putF f g v r
  rw [show putF f v ((k,x)::r)=(if k=f then (k,v)::r else (k,x)::putF f v r) from rfl]
  by_cases hk:k=f
  ·rw [if_pos hk]
   by_cases h:g=k
   ·have hb:(g == k)=true:=beq_iff_eq.mpr h
    simp only [List.lookup,hb,if_pos (h.trans hk)]
   ·have hb:(g == k)=false:=beq_eq_false_iff_ne.mpr h
    simp only [List.lookup,hb,if_neg (λe:g=f=>h (e.trans hk.symm))]
  ·rw [if_neg hk]
   by_cases h:g=k
   ·have hb:(g == k)=true:=beq_iff_eq.mpr h
    simp only [List.lookup,hb,if_neg (λe:g=f=>hk (h.symm.trans e))]
   ·have hb:(g == k)=false:=beq_eq_false_iff_ne.mpr h
    simp only [List.lookup,hb]
    exact ih
theorem keys_putF (f:Str) (v:V):∀ fs:List (Str×V),f ∈ (putF f v fs).map (·.1)/\∀ g,g ∈ fs.map (·.1)->g ∈ (putF f v fs).map (·.1)
 | []=>⟨by simp [putF],λg h=>by simp at h⟩
 | (k,x)::r=>by
  obtain ⟨i1,i2⟩:=keys_putF f v r
  rw [show putF f v ((k,x)::r)=(if k=f then (k,v)::r else (k,x)::putF f v r) from rfl]
  by_cases hk:k=f
  ·rw [if_pos hk]
   subst hk
   exact ⟨by simp,λg h=>by simpa using h⟩
  ·rw [if_neg hk]
   refine ⟨?_,λg h=>?_⟩
   ·rw [List.map_cons]
    exact List.mem_cons_of_mem _ i1
   ·rw [List.map_cons] at h ⊢
    rcases List.mem_cons.mp h with e | e
    ·exact List.mem_cons.mpr (.inl e)
    ·exact List.mem_cons_of_mem _ (i2 g e)
theorem length_putF (f:Str) (v:V):∀ fs:List (Str×V),(putF f v fs).length<=fs.length+1
 | []=>by simp [putF]
 | (k,x)::r=>by
  have ih:=length_putF f v r
  rw [show putF f v ((k,x)::r)=(if k=f then (k,v)::r else (k,x)::putF f v r) from rfl]
  by_cases hk:k=f
  ·rw [if_pos hk,List.length_cons,List.length_cons]; omega
  ·rw [if_neg hk,List.length_cons,List.length_cons]; omega
theorem RelO.some_of {v:V} {o:Option Value} (r:RelO (some v) o):∃ u,o=some u/\RelV v u:=by
 cases o with
 | none=>exact (show False from r).elim
 | some u=>exact ⟨u,rfl,r⟩
theorem RelO.none_of {o:Option Value} (r:RelO none o):o=none:=by
 cases o with
 | none=>rfl
 | some u=>exact (show False from r).elim
theorem handed_of {v:V} {u:Value} (r:RelV v u):PySem.W.handedIn u=true:=by
 cases v with
 | non=>cases (show u=Value.none from r); rfl
 | bl b=>cases (show u=Value.bool b from r); rfl
 | int i=>obtain ⟨t,e⟩:=(show ∃ t,u=Value.int i t from r); cases e; rfl
 | str x=>obtain ⟨t,e⟩:=(show ∃ t,u=Value.str x t from r); cases e; rfl
 | byt b=>obtain ⟨t,e⟩:=(show ∃ t,u=Value.bytes b t from r); cases e; rfl
 | flt b=>obtain ⟨t,e⟩:=(show ∃ t,u=Value.float b t from r); cases e; rfl
 | ref a=>cases (show u=Value.ref a from r); rfl
 | ty n=>cases (show u=Value.type n from r); rfl
section
variable {P : Program} {w : World} {H H' : Hp} {h h' : Heap} {a C dx : Addr} {fs fs' : List (Str × V)}
theorem ins_get (hok:HOk P w H h) (e:H a=some (.ins C dx fs)):∃ mA,ObjM h a dx C mA/\(∀ f,RelO (fs.lookup f) (mA f))/\PySem.Within mA (fs.map (·.1))/\fs.length<=1000/\H dx=some (.own a):=by
 obtain ⟨d,z,ne,ob,mA,n,r,q⟩:=(show ObjOk P w H h a (.ins C dx fs) from hok a _ e)
 exact ⟨mA,⟨ob,n,ne⟩,r,q,z,d⟩
end
structure Cls (K:PySem.W.Frag) (C:Addr):Prop where
 pg:PySem.W.plainGet K C Str.empty=true
 hd:PySem.W.hasDictIn K C=true
 po:PySem.W.plainOver K C=true
 sa:PySem.W.findIn K (.ref C) "__setattr__"=some (some (.builtin "object.__setattr__"))
theorem Cls.get {K:PySem.W.Frag} {C:Addr} (c:Cls K C) (f:Str):PySem.W.plainGet K C f=true:=c.pg
def NoAttr (K:PySem.W.Frag) (C:Addr) (f:Str):Prop:=PySem.W.findIn K (.ref C) f=some none
theorem NoAttr.taker {K:PySem.W.Frag} {C:Addr} {f:Str} (n:NoAttr K C f):PySem.W.takerIn K C f=some none:=by
 unfold PySem.W.takerIn
 rw [show PySem.W.findIn K (.ref C) f=some none from n]
 rfl
structure Con (K:PySem.W.Frag) (C:Addr) (f:Str) (v:V) (u:Value):Prop where
 at_:PySem.W.findIn K (.ref C) f=some (some u)
 rel:RelV v u
 get:PySem.W.specialIn K u "__get__"=some none
 cp:PySem.W.copiedNames.contains f=false
structure Meth (K:PySem.W.Frag) (C:Addr) (m:Str) (f:Addr):Prop where
 at_:PySem.W.findIn K (.ref C) m=some (some (.ref f))
 fn:PySem.W.isFn K (.ref f)=true
 kp:PySem.W.keepIn K (.ref f)=true
section
variable {X : Cx} {pins : List (Addr × Obj)} {σ : St} {H : Hp} {s : Shared} {a C dx : Addr} {fs : List (Str × V)} {f : Str} {v : V} {A : Around} {E : Value → Shared → Prop}
theorem getattr_ok {b:Bool} {Q:Value->Shared->Prop} (I:Inv X pins σ H s) (e:H a=some (.ins C dx fs)) (c:Cls X.K C) (n:NoAttr X.K C f) (l:fs.lookup f=some v)
  (h:∀ u s',Inv X pins σ H s'->RelV v u->Q u s'):wpAny (model X.prog X.w) A (getAttr (.ref a) f b) Q E s:=by
 obtain ⟨mA,O,r,_,_,_⟩:=ins_get I.hok e
 obtain ⟨u,hu,ru⟩:=RelO.some_of (v:=v) (o:=mA f) (by rw [<- l]; exact r f)
 exact get_map I.kIn O (c.get f) c.hd n hu (handed_of ru) (h u _ (I.tok _) ru)
theorem getmeth_ok {m:Str} {g:Addr} {pl:Sem Bool} {Q:Value×List Value->Shared->Prop} (I:Inv X pins σ H s) (e:H a=some (.ins C dx fs)) (c:Cls X.K C) (k:Meth X.K C m g) (l:fs.lookup m=none)
  (h:Q (.ref g,[.ref a]) s):wpAny (model X.prog X.w) A (getMethod (.ref a) m pl) Q E s:=by
 obtain ⟨mA,O,r,_,_,_⟩:=ins_get I.hok e
 have hn:mA m=none:=RelO.none_of (by rw [<- l]; exact r m)
 exact get_meth I.kIn O (c.get m) k.at_ k.fn hn h
theorem setattr_ok {y:V} {u:Value} {Q:Unit->Shared->Prop} (I:Inv X pins σ H s) (e:H a=some (.ins C dx fs)) (c:Cls X.K C) (n:NoAttr X.K C f) (hl:fs.length<1000) (ry:RelV y u)
  (h:∀ s',Inv X pins σ (upd H a (.ins C dx (putF f y fs))) s'->Q () s'):wpAny (model X.prog X.w) A (setAttr (.ref a) f u) Q E s:=by
 obtain ⟨mA,O,r,wi,_,ho⟩:=ins_get I.hok e
 have hz:(fs.map (·.1)).length<=sizeLine:=by rw [List.length_map,sizeLine_eq]; omega
 refine set_map I.kIn O c.sa c.po n.taker c.hd wi hz λh' O' sb=>h _ ?_
 have hd:∃ o,h'.get? dx=some o:=let ⟨o,_,_,e',_⟩:=O'.ns; ⟨o,e'⟩
 refine I.write (x:=a) (e:=dx) (by rw [e]; exact True.intro) (.inr ho) (λb q hb z=>(sb.2 b hb).trans z) hd ?_
 refine ⟨by rw [upd_ne O.ne]; exact ho,?_,O.ne,O'.obj,_,O'.ns,λg=>?_,λg hg=>?_⟩
 ·have:=length_putF f y fs; omega
 ·show RelO ((putF f y fs).lookup g) (if g=f then some u else mA g)
  rw [lookup_putF]
  by_cases q:g=f
  ·rw [if_pos q,if_pos q]; exact ry
  ·rw [if_neg q,if_neg q]; exact r g
 ·by_cases q:g=f
  ·rw [q]; exact (keys_putF f y fs).1
  ·refine (keys_putF f y fs).2 g (wi g λz=>hg ?_)
   show (if g=f then some u else mA g)=none
   rw [if_neg q]; exact z
theorem Inv.made (I:Inv X pins σ H s):Inv X pins σ (upd (upd H s.heap.objs.size (.own (s.heap.objs.size+1))) (s.heap.objs.size+1) (.ins C s.heap.objs.size []))
  { s with heap:=(s.heap.push PySem.W.emptyDict).push (PySem.W.instObj C s.heap.objs.size) }:=by
 have e1:(s.heap.push PySem.W.emptyDict).get? s.heap.objs.size=some PySem.W.emptyDict:=Heap.get?_push_size s.heap rfl
 have e2:((s.heap.push PySem.W.emptyDict).push (PySem.W.instObj C s.heap.objs.size)).get? (s.heap.objs.size+1)=some (PySem.W.instObj C s.heap.objs.size):=by
  have:=Heap.get?_push_size (s.heap.push PySem.W.emptyDict) (o:=PySem.W.instObj C s.heap.objs.size) rfl
  rwa [Heap.size_push] at this
 have e3:(s.heap.push PySem.W.emptyDict).Ns s.heap.objs.size (λ_=>none):=⟨PySem.W.emptyDict,#[],_,e1,rfl,(λe he=>absurd he (by simp)),λ_=>rfl⟩
 have I1:=I.laid (a:=s.heap.objs.size) (o:=.own (s.heap.objs.size+1)) (h':=s.heap.push PySem.W.emptyDict) (t':=s.toks) (λb u q=>Heap.get?_push_of_some _ q) (Nat.le_refl _) ⟨_,e1⟩
 refine I1.laid (a:=s.heap.objs.size+1) (o:=.ins C s.heap.objs.size []) (t':=s.toks) (λb u q=>Heap.get?_push_of_some _ q) (Nat.le_of_eq (Heap.size_push _ _)) ?_
 have ne:s.heap.objs.size≠s.heap.objs.size+1:=Nat.ne_of_lt (Nat.lt_succ_self _)
 refine ⟨by rw [upd_ne ne,upd_same],Nat.zero_le _,ne,e2,λ_=>none,(Heap.Ns1.of_empty e3).at λo q=>Heap.get?_push_of_some _ q,λ_=>True.intro,λy hy=>absurd rfl hy⟩
theorem attr_of {prog:Program} {w:World} {env:Env} {e:Expr} {f:Str} {pos:Pos} {s:Shared} {Q:Value->Shared->Prop} (hb:attributeBase e f env (eval e env)=eval e env)
  (h:wpAny (model prog w) A (eval e env) (λo s₁=>wpAny (model prog w) A (getAttr o f true) Q E s₁) E s):wpAny (model prog w) A (eval (.Attribute e f pos) env) Q E s :=
 Attribute_any_ h (by rw [arm_eval_Attribute,hb])
end
inductive tFldR (K:PySem.W.Frag) (f:Str) (Q:VK) (x:V) (H1:Hp):Prop
 | mk (a C dx fs v:_) (_:x=.ref a) (_:H1 a=some (.ins C dx fs)) (_:Cls K C) (_:NoAttr K C f) (_:fs.lookup f=some v) (_:Q v H1):tFldR K f Q x H1
def tFld (K:PySem.W.Frag) (ta:TE) (f:Str):TE:=λσ H Q=>ta σ H λx H1=>tFldR K f Q x H1
inductive sFldR (K:PySem.W.Frag) (f:Str) (D:Ends) (σ:St) (y:V) (x:V) (H2:Hp):Prop
 | mk (a C dx fs:_) (_:x=.ref a) (_:H2 a=some (.ins C dx fs)) (_:Cls K C) (_:NoAttr K C f) (_:fs.length<1000) (_:D.nx σ (upd H2 a (.ins C dx (putF f y fs)))):sFldR K f D σ y x H2
def sFld (K:PySem.W.Frag) (ta tv:TE) (f:Str):TS:=λD σ H=>tv σ H λy H1=>ta σ H1 λx H2=>sFldR K f D σ y x H2
section
variable {X : Cx} {o e value : Expr} {f : Str} {pos pos' tpos : Pos} {ta tv : TE}
theorem pe_fld (he:PE X e ta) (hb:attributeBase e f X.env (eval e X.env)=eval e X.env):PE X (.Attribute e f pos) (tFld X.K ta f):=by
 intro pins s σ H Q I h
 refine attr_of hb (thn (he pins s σ H _ I h) λu s1 hpat=>?_)
 obtain ⟨x,H1,I1,rx,a,C,dx,fs,v,ex,ea,c,n,l,q⟩:=hpat
 subst ex
 obtain rfl:u=Value.ref a:=rx
 exact getattr_ok I1 ea c n l λu' s2 I2 ru=>⟨v,H1,I2,ru,q⟩
theorem ps_fld (ha:PE X o ta) (hv:PE X value tv) (hs:swapsWith value (some (.Attribute o f pos')) pos.line X.env=pure false):PS X (.Assign [.Attribute o f pos'] value pos) (sFld X.K ta tv f):=by
 intro pins s σ H D I h
 refine plainObj_wpAny_Assign_Attribute (thn (hv pins s σ H _ I h) λu s1 ⟨y,H1,I1,ry,q⟩=>thn (ha pins s1 σ H1 _ I1 q) λov s2 hpat=>?_) hs
 obtain ⟨x,H2,I2,rx,a,C,dx,fs,ex,ea,c,n,l,q2⟩:=hpat
 subst ex
 obtain rfl:ov=Value.ref a:=rx
 exact setattr_ok I2 ea c n l ry λs3 I3=>⟨σ,_,I3,q2⟩
end
section
variable {X : Cx} {pins : List (Addr × Obj)} {σ : St} {H : Hp} {s : Shared} {A : Around} {E : Value → Shared → Prop} {Q : Value → Shared → Prop} {c : Value} {b : Bool}
inductive TyOf (K:PySem.W.Frag) (H:Hp):V->Value->Prop where
 | non:TyOf K H .non (.type "NoneType")
 | bl (x:Bool):TyOf K H (.bl x) (.type "bool")
 | int (i:Int):TyOf K H (.int i) (.type "int")
 | str (x:Str):TyOf K H (.str x) (.type "str")
 | flt (x:UInt64):TyOf K H (.flt x) (.type "float")
 | lst {a:Addr} {xs:List V} (e:H a=some (.lst xs)):TyOf K H (.ref a) (.type "list")
 | frz {a:Addr} {o:Obj} {xs:List V} (e:H a=some (.frz o (.lst xs))):TyOf K H (.ref a) (.type "list")
 | tup {a:Addr} {xs:List V} (e:H a=some (.tup xs)):TyOf K H (.ref a) (.type "tuple")
 | dK {a:Addr} {kvs:List (Key×V)} (e:H a=some (.dK kvs)):TyOf K H (.ref a) (.type "dict")
 | dT {a:Addr} {kvs:List (List Key×V)} (e:H a=some (.dT kvs)):TyOf K H (.ref a) (.type "dict")
 | ins {a C dx:Addr} {fs:List (Str×V)} (e:H a=some (.ins C dx fs)) (cl:Cls K C) (ha:PySem.W.findIn K (.ref C) "__class__"=some (some (.builtin "object.__class__")))
   (hn:PySem.W.specialIn K (.builtin "object.__class__") "__get__"=some (some (.builtin "getset_descriptor.__get__"))) (htk:PySem.W.takesIn K (.builtin "object.__class__")=some true)
   (hm:PySem.W.mroIn K C (.type "object")=some true):TyOf K H (.ref a) (.ref C)
theorem isinst_ok {x:V} {u t:Value} (I:Inv X pins σ H s) (rx:RelV x u) (ty:TyOf X.K H x t) (e:PySem.W.kitOne X.K t c=some b) (h:∀ tk,Q (.bool b) { s with toks:=tk }) :
  wpAny (model X.prog X.w) A (call (.builtin "isinstance") [u,c]) Q E s:=by
 cases ty with
 | non=>cases (show u=Value.none from rx); exact PySem.W.kia_one PySem.W.kitx_none I.kIn True.intro e (λz=>nomatch z) h
 | bl y=>cases (show u=Value.bool y from rx); exact PySem.W.kia_one PySem.W.kitx_bool I.kIn True.intro e (λz=>nomatch z) h
 | int i=>obtain ⟨t,q⟩:=(show ∃ t,u=Value.int i t from rx); cases q; exact PySem.W.kia_one PySem.W.kitx_int I.kIn True.intro e (λz=>nomatch z) h
 | str y=>obtain ⟨t,q⟩:=(show ∃ t,u=Value.str y t from rx); cases q; exact PySem.W.kia_one PySem.W.kitx_str I.kIn True.intro e (λz=>nomatch z) h
 | flt y=>obtain ⟨t,q⟩:=(show ∃ t,u=Value.float y t from rx); cases q; exact PySem.W.kia_one PySem.W.kitx_float I.kIn True.intro e (λz=>nomatch z) h
 | @lst a xs ea =>
  cases (show u=Value.ref a from rx)
  obtain ⟨_,_,n,_,h1⟩:=(show ObjOk X.prog X.w H s.heap a (.lst xs) from I.hok a _ ea)
  exact PySem.W.kia_one PySem.W.kitx_list I.kIn ⟨_,h1,rfl⟩ e (λz=>nomatch z) h
 | @frz a ob xs ea =>
  cases (show u=Value.ref a from rx)
  obtain ⟨_,_,_,n,_,h1⟩:=(show ObjOk X.prog X.w H s.heap a (.frz ob (.lst xs)) from I.hok a _ ea)
  exact PySem.W.kia_one PySem.W.kitx_list I.kIn ⟨_,h1,rfl⟩ e (λz=>nomatch z) h
 | @tup a xs ea =>
  cases (show u=Value.ref a from rx)
  obtain ⟨_,_,_,p⟩:=(show ObjOk X.prog X.w H s.heap a (.tup xs) from I.hok a _ ea)
  obtain ⟨o,h1,h2,_⟩:=p
  exact PySem.W.kia_one PySem.W.kitx_tuple I.kIn ⟨o,h1,h2⟩ e (λz=>nomatch z) h
 | @dK a kvs ea =>
  cases (show u=Value.ref a from rx)
  obtain ⟨_,_,vs,_,p⟩:=(show ObjOk X.prog X.w H s.heap a (.dK kvs) from I.hok a _ ea)
  obtain ⟨o,es,ep,h1,h2,_⟩:=p
  exact PySem.W.kia_one PySem.W.kitx_dict I.kIn ⟨o,h1,h2.1⟩ e (λz=>nomatch z) h
 | @dT a kvs ea =>
  cases (show u=Value.ref a from rx)
  obtain ⟨_,_,xs,_,o,es,ep,h1,h2,_⟩:=(show ObjOk X.prog X.w H s.heap a (.dT kvs) from I.hok a _ ea)
  exact PySem.W.kia_one PySem.W.kitx_dict I.kIn ⟨o,h1,h2.1⟩ e (λz=>nomatch z) h
 | @ins a C dx fs ea cl ha hn htk hm =>
  cases (show u=Value.ref a from rx)
  obtain ⟨mA,O,_⟩:=ins_get I.hok ea
  obtain ⟨od,J,_⟩:=O.look
  exact PySem.W.kia_one (PySem.W.kitx_own (cl.get _) cl.hd ha hn htk hm) I.kIn J e (λz=>nomatch z) h
end
end L2
namespace L2
open PySem PySem.Spec PyProof.Rows
structure Room (k:Nat) (A:Around):Prop where
 hd:A.handled=none
 dp:A.depth+3 * k+5<recursionLimit
 un:A.units+16 * k+200<cLine
theorem Room.mono {j k:Nat} {A:Around} (r:Room k A) (h:j<=k):Room j A:=⟨r.hd,by have:=r.dp; omega,by have:=r.un; omega⟩
theorem Room.deeper {k:Nat} {A:Around} (r:Room (k+1) A) (env:Env):Room k (A.deeper env) :=
 ⟨r.hd,by have:=r.dp; show A.depth+1+3 * k+5<_; omega,by have:=r.un; show A.units+3+16 * k+200<_; omega⟩
theorem make_depth {A:Around} {C:Addr} {us:List Value} {kw:List (Str×Value)}:(A.under (.builtin "type.__call__" ⟨.ref C::us,kw⟩)).depth=A.depth+1:=by
 first | rfl | simp [Around.under,Code.weight,Code.isCreation,Code.isGuard,Code.isCaller,Code.frames,Code.isFrame,guardIds]
theorem make_units {A:Around} {C:Addr} {us:List Value} {kw:List (Str×Value)}:(A.under (.builtin "type.__call__" ⟨.ref C::us,kw⟩)).units=A.units+1:=by
 first | rfl | simp [Around.under,Code.cUnits,Code.frames,Code.isFrame]
theorem Room.make {k:Nat} {A:Around} (r:Room (k+1) A) (C:Addr) (us:List Value) (kw:List (Str×Value)):Room k (A.under (.builtin "type.__call__" ⟨.ref C::us,kw⟩)) :=
 ⟨r.hd,by have:=r.dp; rw [make_depth]; omega,by have:=r.un; rw [make_units]; omega⟩
theorem Room.depth {k:Nat} {A:Around} (r:Room k A):A.depth<recursionLimit:=by have:=r.dp; omega
theorem Room.units {k:Nat} {A:Around} (r:Room k A):A.units+64<cLine:=by have:=r.un; omega
def tNil:TA:=λ_ H Q=>Q [] H
def tCons (ta:TE) (tr:TA):TA:=λσ H Q=>ta σ H λx H1=>tr σ H1 λxs H2=>Q (x::xs) H2
section
variable {X : Cx} {e : Expr} {es : List Expr} {te : TE} {t : TA} {pos : Pos}
theorem pa_nil:PA X [] tNil:=λ_ _ _ _ H Q I h=>Calls.spliced_nil ⟨[],H,I,.nil,h⟩
theorem pa_cons (ha:PE X e te) (hr:PA X es t) (hs:starEach (e::es) X.env=(false,eval e X.env)::starEach es X.env:=by rfl):PA X (e::es) (tCons te t):=by
 intro pos pins s σ H Q I h
 rw [hs]
 show wpAny _ _ (spliced ((false,eval e X.env)::backTo pos (starEach es X.env))) _ _ s
 refine Calls.spliced_cons (thn (ha pins s σ H _ I h) λu s1 hpat=>?_)
 obtain ⟨x,H1,I1,r1,q1⟩:=hpat
 exact thn (hr pos pins s1 σ H1 _ I1 q1) λus s2 ⟨xs,H2,I2,r2,q2⟩=>⟨x::xs,H2,I2,.cons r1 r2,q2⟩
def tTup (t:TA):TE:=λσ H Q=>t σ H λxs H1=>xs.length<=sizeLine/\∀ p,H1 p=none->Q (.ref p) (upd H1 p (.tup xs))
def tLst (t:TA):TE:=λσ H Q=>t σ H λxs H1=>xs.length<=sizeLine/\∀ p,H1 p=none->Q (.ref p) (upd H1 p (.lst xs))
theorem pe_tup {x1} (h:PA X es t):PE X (.Tuple es x1 pos) (tTup t):=by
 intro pins s σ H Q I hq
 refine wpAny_Tuple_spliced (thn (h pos pins s σ H _ I hq) λus s1 ⟨xs,H1,I1,r,z,q⟩=>⟨by rw [<- r.length]; exact z,?_⟩)
 have hf:H1 s1.heap.objs.size=none:=I1.hok.fresh (Nat.le_refl _)
 refine ⟨.ref s1.heap.objs.size,upd H1 s1.heap.objs.size (.tup xs),I1.laid (t':=s1.toks) (λb u e=>Heap.get?_push_of_some _ e) (Nat.le_refl _) ?_,rfl,q _ hf⟩
 exact ⟨z,us,r,⟨_,Heap.get?_push_size _ rfl,rfl,_,rfl⟩⟩
theorem pe_lst (h:PA X es t):PE X (.List es pos) (tLst t):=by
 intro pins s σ H Q I hq
 refine wpAny_List_spliced (thn (h pos pins s σ H _ I hq) λus s1 ⟨xs,H1,I1,r,z,q⟩=>⟨by rw [<- r.length]; exact z,?_⟩)
 have hf:H1 s1.heap.objs.size=none:=I1.hok.fresh (Nat.le_refl _)
 refine ⟨.ref s1.heap.objs.size,upd H1 s1.heap.objs.size (.lst xs),I1.laid (t':=s1.toks) (λb u e=>Heap.get?_push_of_some _ e) (Nat.le_refl _) ?_,rfl,q _ hf⟩
 exact ⟨z,us,0,r,Heap.get?_push_size _ rfl⟩
end
abbrev Sp:=List V->Hp->VK->XK->Prop
abbrev CXT:=List Env->Hp->Shared->XK->Value->Shared->Prop
structure Env0 (P:Program) (w:World) (K:PySem.W.Frag) (mg:Str->Option Value) (base:Heap) (A:Around) (outer:List Env) (s:Shared) (H:Hp):Prop where
 frames:A.frames=some outer
 mod:Mod K mg base
 bs:∀ b o,base.get? b=some o->s.heap.get? b=some o/\H b=none
 bsz:base.objs.size<=s.heap.objs.size
 funs:s.heap.FunFrames base outer
 frf:∀ b ∈ frs outer,H b=none
 hok:HOk P w H s.heap
 bare:AllBare s.gens
def CE (outer:List Env) (P:Program) (w:World) (H:Hp) (s:Shared) (Q:VK) (u:Value) (s':Shared):Prop :=
 ∃ v H',s'.os=s.os/\AllBare s'.gens/\Un (frs outer) [] H H' s.heap s'.heap/\HOk P w H' s'.heap/\RelV v u/\Q v H'
def CR (CX:CXT) (outer:List Env) (P:Program) (w:World) (H:Hp) (s:Shared) (Q:VK) (E:XK) (r:Result) (s':Shared):Prop :=
 match r with
 | .ok (.ret u)=>CE outer P w H s Q u s'
 | .ok _=>False
 | .error e=>CX outer H s E e s'
structure FnOk (P:Program) (w:World) (K:PySem.W.Frag) (mg:Str->Option Value) (base:Heap) (CX:CXT) (k:Nat) (f:Addr) (fd:FuncData) (ps:List Str) (sp:Sp):Prop where
 len:∀ vs H Q E,sp vs H Q E->vs.length=ps.length
 run:∀ (A:Around) (outer:List Env) (s:Shared) (H:Hp) (args:Args) (us:List Value) (vs:List V) (Q:VK) (E:XK),Room k A->Env0 P w K mg base A outer s H->BindsTo s fd args (ps.zip us)->Vals vs us->sp vs H Q E ->
  codeAny (model P w) A (.call (.ref f) args) (CR CX outer P w H s Q E) s
theorem Env0.make {P:Program} {w:World} {K:PySem.W.Frag} {mg:Str->Option Value} {base:Heap} {A:Around} {outer:List Env} {s:Shared} {H:Hp} (e:Env0 P w K mg base A outer s H) (C:Addr) (us:List Value) (kw:List (Str×Value)) :
  Env0 P w K mg base (A.under (.builtin "type.__call__" ⟨.ref C::us,kw⟩)) outer s H:=⟨by first | exact e.frames | (simpa [Around.under,Code.envs,Code.isFrame,pushEnvs] using e.frames),e.mod,e.bs,e.bsz,e.funs,e.frf,e.hok,e.bare⟩
section
variable {X : Cx} {pins : List (Addr × Obj)} {σ : St} {H : Hp} {s s' : Shared}
theorem Inv.env0 (I:Inv X pins σ H s):Env0 X.prog X.w X.K X.mg X.base X.A X.stack s H :=
 ⟨I.ok.frames,I.ok.mod,I.bs,Nat.le_trans I.ok.bsz I.sz,I.stack,I.stkFree,I.hok,I.bare⟩
theorem Inv.after {Q:VK} {u:Value} (I:Inv X pins σ H s) (h:CE X.stack X.prog X.w H s Q u s'):EP X pins σ Q u s':=by
 obtain ⟨v,H',os,bare,un,hok,r,q⟩:=h
 obtain ⟨hh,g,d,t,os'⟩:=s'
 obtain rfl:os'=s.os:=os
 exact ⟨v,H',I.call (h':=hh) (g':=g) (d':=d) (t':=t) (ch:=[]) un hok bare (λb z=>absurd z (by simp)),r,q⟩
end
def tCall (sp:Sp) (dvs:List V) (E:XK) (t:TA):TE:=λσ H Q=>t σ H λvs H1=>sp (vs++dvs) H1 Q E
inductive tMethR (C:Addr) (m:Str) (sp:Sp) (dvs:List V) (E:XK) (t:TA) (σ:St) (Q:VK) (x:V) (H1:Hp):Prop
 | mk (a dx fs:_) (_:x=.ref a) (_:H1 a=some (.ins C dx fs)) (_:fs.lookup m=none) (_:t σ H1 λvs H2=>sp (x::(vs++dvs)) H2 Q E):tMethR C m sp dvs E t σ Q x H1
def tMeth (C:Addr) (m:Str) (sp:Sp) (dvs:List V) (E:XK) (ta:TE) (t:TA):TE:=λσ H Q=>ta σ H λx H1=>tMethR C m sp dvs E t σ Q x H1
def tMake (C:Addr) (sp:Sp) (dvs:List V) (E:XK) (t:TA):TE:=λσ H Q=>t σ H λvs H1=>∀ x dx,H1 x=none->H1 dx=none->dx≠x ->
 sp (.ref x::(vs++dvs)) (upd (upd H1 dx (.own x)) x (.ins C dx [])) (λv H2=>v=.non/\Q (.ref x) H2) E
def Binds (K:PySem.W.Frag) (fd:FuncData) (ps:List Str) (ds:List Value):Prop :=
 ∀ (s:Shared) (us:List Value),K.In s.heap->(us++ds).length=ps.length->BindsTo s fd ⟨us,[]⟩ (ps.zip (us++ds))
theorem Binds.all {K:PySem.W.Frag} {fd:FuncData} {ps:List Str} (h:∀ us:List Value,us.length=ps.length->bindArgs fd ⟨us,[]⟩=pure (ps.zip us)):Binds K fd ps []:=λs us _ hl=>by
 rw [List.append_nil] at hl ⊢
 exact .of_eq (h us hl)
def Passes (CX:CXT) (X:Cx) (E:XK):Prop:=∀ (pins:List (Addr×Obj)) (σ:St) (H:Hp) (s:Shared) (e:Value) (s':Shared),Inv X pins σ H s->CX X.stack H s E e s'->X.xe e s'
section
variable {X : Cx} {CX : CXT} {k : Nat} {f C : Addr} {fd : FuncData} {ps : List Str} {sp : Sp} {dvs : List V} {ds : List Value} {E : XK} {x m : Str} {p pos apos : Pos} {e o : Expr} {es : List Expr} {ta : TE} {t : TA}
theorem run_fn {pins:List (Addr×Obj)} {σ:St} {H:Hp} {s:Shared} {Q:VK} {us:List Value} {vs:List V} (F:FnOk X.prog X.w X.K X.mg X.base CX k f fd ps sp) (hr:Room k X.A) (hb:Binds X.K fd ps ds) (hd:Vals dvs ds) (hx:Passes CX X E)
  (I:Inv X pins σ H s) (r:Vals vs us) (h:sp (vs++dvs) H Q E):wpAny (model X.prog X.w) X.A (call (.ref f) us) (EP X pins σ Q) X.xe s:=by
 have r2:Vals (vs++dvs) (us++ds):=r.append hd
 have hl:(us++ds).length=ps.length:=by rw [<- r2.length]; exact F.len _ _ _ _ h
 refine wpAny_call (codeAny_mono (F.run X.A X.stack s H ⟨us,[]⟩ (us++ds) (vs++dvs) Q E hr I.env0 (hb s us I.kIn hl) r2 h) λr s' hq=>?_)
 cases r with
 | error e=>exact hx pins σ H s e s' I hq
 | ok fl =>
  cases fl with
  | ret u=>exact I.after hq
  | next=>exact False.elim hq
  | brk=>exact False.elim hq
  | cont=>exact False.elim hq
theorem pe_call (F:FnOk X.prog X.w X.K X.mg X.base CX k f fd ps sp) (hr:Room k X.A) (hg:Gl X x) (hm:X.mg x=some (.ref f)) (hk:PySem.W.keepIn X.K (.ref f)=true) (hb:Binds X.K fd ps ds) (hd:Vals dvs ds) (hx:Passes CX X E)
  (ha:PA X (e::es) t) (hdb:(x == ("__debug__":Str))=false:=by decide) (he:starEach (e::es) X.env=(false,eval e X.env)::starEach es X.env:=by rfl) (hpl:(backTo pos (starEach es X.env)).any (·.1)=false:=by rfl) :
  PE X (.Call (.Name x p) (e::es) [] pos) (tCall sp dvs E t):=by
 intro pins s σ H Q I h
 refine wpAny_Call_Name_kw (ld_glob I hg hm ?_ hdb)
 refine PySem.W.callWith_K (h₀:=X.base) I.ok.mod.kin hk (thn (ha pos pins s σ H _ I h) λus s1 ⟨vs,H1,I1,r,q⟩=>⟨I1.kIn,?_⟩) he hpl
 exact run_fn F hr hb hd hx I1 r q
theorem pe_call0 (F:FnOk X.prog X.w X.K X.mg X.base CX k f fd ps sp) (hr:Room k X.A) (hg:Gl X x) (hm:X.mg x=some (.ref f)) (hk:PySem.W.keepIn X.K (.ref f)=true) (hb:Binds X.K fd ps ds) (hd:Vals dvs ds) (hx:Passes CX X E)
  (hdb:(x == ("__debug__":Str))=false:=by decide):PE X (.Call (.Name x p) [] [] pos) (tCall sp dvs E tNil):=by
 intro pins s σ H Q I h
 refine wpAny_Call_Name_kw (ld_glob I hg hm ?_ hdb)
 exact PySem.W.callWith_K0 I.kIn hk (run_fn (us:=[]) F hr hb hd hx I .nil h)
theorem pe_meth {pl:Sem Bool} (he:PE X o ta) (c:Cls X.K C) (hm:Meth X.K C m f) (F:FnOk X.prog X.w X.K X.mg X.base CX k f fd ps sp) (hr:Room k X.A) (hb:Binds X.K fd ps ds) (hd:Vals dvs ds) (hx:Passes CX X E) (ha:PA X (e::es) t)
  (hst:starEach (e::es) X.env=(false,eval e X.env)::starEach es X.env:=by rfl) (hpl:(backTo pos (starEach es X.env)).any (·.1)=false:=by rfl)
  (ht:eval (.Call (.Attribute o m apos) (e::es) [] pos) X.env=(do
   let ov <- eval o X.env
   standAt apos.atName
   let (f,first) <- holding [ov] (getMethod ov m pl)
   callWith pos f first (backTo pos (starEach (e::es) X.env)) (backToKw pos (keywordEach [] X.env))):=by rfl) :
  PE X (.Call (.Attribute o m apos) (e::es) [] pos) (tMeth C m sp dvs E ta t):=by
 intro pins s σ H Q I h
 refine PySem.W.methodCall_KW (pl:=pl) (thn (he pins s σ H _ I h) λu s1 hpat=>?_) ht
 obtain ⟨x,H1,I1,rx,a,dx,fs,ex,ea,l,q⟩:=hpat
 subst ex
 obtain rfl:u=Value.ref a:=rx
 refine getmeth_ok I1 ea c hm l ?_
 refine PySem.W.callWith_K (first:=[.ref a]) (h₀:=X.base) I.ok.mod.kin hm.kp (thn (ha pos pins s1 σ H1 _ I1 q) λus s2 ⟨vs,H2,I2,r,q2⟩=>⟨I2.kIn,?_⟩) hst hpl
 exact run_fn (us:=.ref a::us) (vs:=.ref a::vs) F hr hb hd hx I2 (.cons rfl r) q2
theorem pe_meth0 {pl:Sem Bool} (he:PE X o ta) (c:Cls X.K C) (hm:Meth X.K C m f) (F:FnOk X.prog X.w X.K X.mg X.base CX k f fd ps sp) (hr:Room k X.A) (hb:Binds X.K fd ps ds) (hd:Vals dvs ds) (hx:Passes CX X E)
  (ht:eval (.Call (.Attribute o m apos) [] [] pos) X.env=(do
   let ov <- eval o X.env
   standAt apos.atName
   let (f,first) <- holding [ov] (getMethod ov m pl)
   callWith pos f first (backTo pos (starEach [] X.env)) (backToKw pos (keywordEach [] X.env))):=by rfl) :
  PE X (.Call (.Attribute o m apos) [] [] pos) (tMeth C m sp dvs E ta tNil):=by
 intro pins s σ H Q I h
 refine PySem.W.methodCall_KW (pl:=pl) (thn (he pins s σ H _ I h) λu s1 hpat=>?_) ht
 obtain ⟨x,H1,I1,rx,a,dx,fs,ex,ea,l,q⟩:=hpat
 subst ex
 obtain rfl:u=Value.ref a:=rx
 refine getmeth_ok I1 ea c hm l ?_
 exact PySem.W.callWith_K0 (first:=[.ref a]) I1.kIn hm.kp (run_fn (us:=[.ref a]) (vs:=[.ref a]) F hr hb hd hx I1 (.cons rfl .nil) q)
structure Mk (K:PySem.W.Frag) (C f:Addr):Prop where
 makes:PySem.W.makesIn K C=true
 init:PySem.W.findIn K (.ref C) "__init__"=some (some (.ref f))
 fn:PySem.W.isFn K (.ref f)=true
 kp:PySem.W.keepIn K (.ref C)=true
theorem run_make {pins:List (Addr×Obj)} {σ:St} {H:Hp} {s:Shared} {Q:VK} {us:List Value} {vs:List V} (M:Mk X.K C f) (F:FnOk X.prog X.w X.K X.mg X.base CX k f fd ps sp) (hr:Room (k+1) X.A) (hb:Binds X.K fd ps ds) (hd:Vals dvs ds)
  (hx:Passes CX X E) (I:Inv X pins σ H s) (r:Vals vs us)
  (h:∀ x dx,H x=none->H dx=none->dx≠x->sp (.ref x::(vs++dvs)) (upd (upd H dx (.own x)) x (.ins C dx [])) (λv H2=>v=.non/\Q (.ref x) H2) E) :
  wpAny (model X.prog X.w) X.A (call (.ref C) us) (EP X pins σ Q) X.xe s:=by
 have hq:=h (s.heap.objs.size+1) s.heap.objs.size (I.hok.fresh (Nat.le_succ _)) (I.hok.fresh (Nat.le_refl _)) (Nat.ne_of_lt (Nat.lt_succ_self _))
 have I2:=Inv.made (C:=C) I
 have r2:Vals (V.ref (s.heap.objs.size+1)::(vs++dvs)) (Value.ref (s.heap.objs.size+1)::(us++ds)):=.cons rfl (r.append hd)
 have hl:(Value.ref (s.heap.objs.size+1)::us++ds).length=ps.length:=by
  have e:=r2.length
  rw [F.len _ _ _ _ hq] at e
  exact e.symm
 refine wpAny_call (make_map (f:=f) I.kIn M.makes M.init (beq_iff_eq.mp M.fn) (codeAny_mono (F.run _ X.stack _ _ ⟨Value.ref (s.heap.objs.size+1)::us,[]⟩ (Value.ref (s.heap.objs.size+1)::(us++ds)) _ _ E (hr.make C us [])
  (I2.env0.make C us []) (hb _ (Value.ref (s.heap.objs.size+1)::us) I2.kIn hl) r2 hq) λr s' hq'=>?_))
 cases r with
 | error e=>exact hx pins σ _ _ e s' I2 hq'
 | ok fl =>
  cases fl with
  | ret u =>
   obtain ⟨v,H',I3,rv,ev,q3⟩:=I2.after hq'
   subst ev
   exact ⟨rv,⟨V.ref (s.heap.objs.size+1),H',I3,rfl,q3⟩⟩
  | next=>exact False.elim hq'
  | brk=>exact False.elim hq'
  | cont=>exact False.elim hq'
theorem pe_make (M:Mk X.K C f) (F:FnOk X.prog X.w X.K X.mg X.base CX k f fd ps sp) (hr:Room (k+1) X.A) (hg:Gl X x) (hm:X.mg x=some (.ref C)) (hb:Binds X.K fd ps ds) (hd:Vals dvs ds) (hx:Passes CX X E)
  (ha:PA X (e::es) t) (hdb:(x == ("__debug__":Str))=false:=by decide) (he:starEach (e::es) X.env=(false,eval e X.env)::starEach es X.env:=by rfl) (hpl:(backTo pos (starEach es X.env)).any (·.1)=false:=by rfl) :
  PE X (.Call (.Name x p) (e::es) [] pos) (tMake C sp dvs E t):=by
 intro pins s σ H Q I h
 refine wpAny_Call_Name_kw (ld_glob I hg hm ?_ hdb)
 refine PySem.W.callWith_K (h₀:=X.base) I.ok.mod.kin M.kp (thn (ha pos pins s σ H _ I h) λus s1 ⟨vs,H1,I1,r,q⟩=>⟨I1.kIn,?_⟩) he hpl
 exact run_make M F hr hb hd hx I1 r q
end
section
variable {X : Cx} {CX : CXT} {k : Nat} {f C : Addr} {fd : FuncData} {ps ks : List Str} {sp : Sp} {E : XK} {x m : Str} {p pos apos kpos : Pos} {e o : Expr} {es : List Expr} {kws : List Keyword} {te ta : TE} {t tk : TA} {nm : Option Str}
structure KBinds (K:PySem.W.Frag) (fd:FuncData) (ps ks:List Str) (g:List Value->List Value->List Value) (gV:List V->List V->List V):Prop where
 to:∀ (s:Shared) (us ws:List Value),K.In s.heap->(g us ws).length=ps.length->BindsTo s fd ⟨us,ks.zip ws⟩ (ps.zip (g us ws))
 rel:∀ {vs:List V} {us:List Value} {zs:List V} {ws:List Value},Vals vs us->Vals zs ws->Vals (gV vs zs) (g us ws)
variable {g : List Value → List Value → List Value} {gV : List V → List V → List V}
end
structure FnScope (N P:List Str) (sc:Scope):Prop where
 kind:sc.kind=.function
 co:sc.isCoroutine=false
 gen:sc.isGenerator=false
 nd:N.Nodup
 pre:N.take P.length=P
 par:∀ x ∈ P,sc.names.lookup x=some .local\/sc.names.lookup x=some .cell
 nofree:∀ y ∈ sc.names,y.2≠.free
theorem FSc {N P:List Str} {sc:Scope} (a:sc.kind=.function:=by rfl) (b:sc.isCoroutine=false:=by rfl) (c:sc.isGenerator=false:=by rfl) (d:N.Nodup:=by decide +kernel) (e:N.take P.length=P:=by rfl) (f:∀ x ∈ P,sc.names.lookup x=some .local\/sc.names.lookup x=some .cell:=by decide +kernel) (g:∀ y ∈ sc.names,y.2≠.free:=by decide +kernel):FnScope N P sc:=⟨a,b,c,d,e,f,g⟩
theorem bindL_out {kindOf:Str->Option NameKind} {x:Str}:∀ {binds:List (Str×Value)} {m:Str->Option Value},(∀ v,(x,v) ∉ binds)->bindL kindOf binds m x=m x
 | [],_,_=>rfl
 | (n,v)::r,m,h=>by
  unfold bindL
  rw [bindL_out λw hw=>h w (List.mem_cons_of_mem _ hw)]
  split
  ·have:x≠n:=by rintro rfl; exact h v List.mem_cons_self
   simp [this]
  ·rfl
theorem bindC_out {kindOf:Str->Option NameKind} {x:Str}:∀ {binds:List (Str×Value)} {m:Str->Option Value},(∀ v,(x,v) ∉ binds)->bindC kindOf binds m x=m x
 | [],_,_=>rfl
 | (n,v)::r,m,h=>by
  unfold bindC
  rw [bindC_out λw hw=>h w (List.mem_cons_of_mem _ hw)]
  split
  ·rfl
  ·have:x≠n:=by rintro rfl; exact h v List.mem_cons_self
   simp [this]
theorem bindL_get {kindOf:Str->Option NameKind} {x:Str} {v:Value}:∀ {P:List Str} {vs:List Value} {i:Nat} {m:Str->Option Value},P.Nodup->P[i]?=some x->vs[i]?=some v->kindOf x=some .local ->
  bindL kindOf (P.zip vs) m x=some v
 | [],_,_,_,_,h,_,_=>by simp at h
 | _::_,[],_,_,_,_,h,_=>by simp at h
 | p::P,w::vs,0,m,nd,h1,h2,hk=>by
  simp at h1 h2; subst h1; subst h2
  show bindL kindOf ((p,w)::P.zip vs) m p=_
  unfold bindL
  rw [bindL_out λv hv=>(List.nodup_cons.mp nd).1 (List.of_mem_zip hv).1,if_pos hk]
  simp
 | p::P,w::vs,i+1,m,nd,h1,h2,hk=>by
  show bindL kindOf ((p,w)::P.zip vs) m x=_
  unfold bindL
  exact bindL_get (i:=i) (List.nodup_cons.mp nd).2 (by simpa using h1) (by simpa using h2) hk
theorem bindC_get {kindOf:Str->Option NameKind} {x:Str} {v:Value}:∀ {P:List Str} {vs:List Value} {i:Nat} {m:Str->Option Value},P.Nodup->P[i]?=some x->vs[i]?=some v->kindOf x≠some .local ->
  bindC kindOf (P.zip vs) m x=some v
 | [],_,_,_,_,h,_,_=>by simp at h
 | _::_,[],_,_,_,_,h,_=>by simp at h
 | p::P,w::vs,0,m,nd,h1,h2,hk=>by
  simp at h1 h2; subst h1; subst h2
  show bindC kindOf ((p,w)::P.zip vs) m p=_
  unfold bindC
  rw [bindC_out λv hv=>(List.nodup_cons.mp nd).1 (List.of_mem_zip hv).1,if_neg hk]
  simp
 | p::P,w::vs,i+1,m,nd,h1,h2,hk=>by
  show bindC kindOf ((p,w)::P.zip vs) m x=_
  unfold bindC
  exact bindC_get (i:=i) (List.nodup_cons.mp nd).2 (by simpa using h1) (by simpa using h2) hk
def start (N:List Str) (vs:List V):St:=vs.map some++List.replicate (N.length - vs.length) none
def cxOf (CX:CXT) (P:Program) (w:World) (K:PySem.W.Frag) (mg:Str->Option Value) (base:Heap) (N:List Str) (qual:Str) (scope:Scope) (f:Addr) (cd:Value) (A:Around) (outer:List Env) (s:Shared) (H:Hp) (E:XK):Cx where
 prog:=P
 w:=w
 K:=K
 mg:=mg
 base:=base
 A:=A.deeper (envOfC qual scope s.heap.objs.size f cd)
 N:=N
 s₀:=s
 H₀:=H
 env:=envOfC qual scope s.heap.objs.size f cd
 outer:=outer
 stack:=envOfC qual scope s.heap.objs.size f cd::outer
 ex:=[]
 calm:=true
 fn:=λ_=>true
 pn:=[]
 xe:=λe s'=>wpAny (model P w) (A.deeper (envOfC qual scope s.heap.objs.size f cd)) (leaving (envOfC qual scope s.heap.objs.size f cd) e) (λ_ s''=>CX outer H s E e s'') (λe' s''=>CX outer H s E e' s'') s'
theorem cell_has {sc:Scope} {n:Nat} {x:Str} (h:sc.names.lookup x=some .cell):∃ c,(cellsFrom n sc.names []).lookup x=some c:=by
 have q:=PySem.W.cellsFrom_some sc.names n [] (.inl h)
 exact Option.isSome_iff_exists.mp q
theorem inv_start {CX:CXT} {P:Program} {w:World} {K:PySem.W.Frag} {mg:Str->Option Value} {base:Heap} {N ps:List Str} {qual:Str} {scope:Scope} {f:Addr} {cd:Value} {A:Around} {outer:List Env} {s s1:Shared} {H:Hp} {E:XK} {us:List Value} {vs:List V}
  (S:FnScope N ps scope) (hd:A.handled=none) (e0:Env0 P w K mg base A outer s H) (hl:vs.length=ps.length) (r:Vals vs us)
  (x:InCallC s s.heap.objs.size (bindL (envOfC qual scope s.heap.objs.size f cd).kindOf (ps.zip us) λ_=>none) (cellsFrom (s.heap.objs.size+1) scope.names []) (bindC (envOfC qual scope s.heap.objs.size f cd).kindOf (ps.zip us) λ_=>none) s1) :
  Inv (cxOf CX P w K mg base N qual scope f cd A outer s H E) [] (start N vs) H s1:=by
 have hpl:ps.length<=N.length:=by have:=congrArg List.length S.pre; rw [List.length_take] at this; omega
 obtain ⟨h1,tk,rfl,hk⟩:=x.done
 have noA:∀ b:Addr,b ∉ (cxOf CX P w K mg base N qual scope f cd A outer s H E).ex:=λb z=>absurd (show b ∈ ([]:List Addr) from z) (by simp)
 refine ⟨⟨e0.mod,S.kind,rfl,rfl,Nat.le_refl _,λy z c h1 h2=>?_,λy hy=>?_,λy c _ h=>?_,λ_=>hd,Around.frames_deeper e0.frames,.inr ⟨rfl,rfl⟩,λb z=>absurd z (noA b),e0.bs,e0.bsz,λb _ _=>noA b,λb z=>absurd z (noA b),e0.funs,e0.frf⟩,
  rfl,e0.bare,Un.kept hk,⟨_,x.toInCall.ns,λi y v h1 h2 h3=>?_⟩,λy c h=>⟨_,x.cell y c h⟩,e0.hok.fresh (Nat.le_refl _),λy c h=>?_,λp hp=>absurd (show p ∈ ([]:List (Addr×Obj)) from hp) (by simp),e0.hok.kept hk,?_⟩
 ·exact name_of_addr x.apart (PySem.mem_of_lookup h1) (PySem.mem_of_lookup h2)
 ·have hy:scope.names.lookup y=some .cell\/scope.names.lookup y=some .free:=hy
  rcases hy with hy | hy
  ·exact cell_has hy
  ·exact absurd rfl (S.nofree _ (PySem.mem_of_lookup hy))
 ·exact Nat.le_of_lt (x.above y c (PySem.mem_of_lookup h))
 ·have hi:i<vs.length:=by
   unfold start at h2
   by_cases hi:i<vs.length
   ·exact hi
   ·rw [List.getElem?_append_right (by simpa using hi)] at h2
    rw [List.getElem?_replicate] at h2
    split at h2 <;> cases h2
  have ha:vs[i]?=some v:=by
   unfold start at h2
   rw [List.getElem?_append_left (by simpa using hi),List.getElem?_map] at h2
   cases e:vs[i]? with
   | none=>rw [e] at h2; cases h2
   | some a=>rw [e] at h2; cases h2; rfl
  obtain ⟨u,hu,rv⟩:=r.get ha
  have hp:ps[i]?=some y:=by
   rw [<- S.pre,List.getElem?_take_of_lt (by omega)]; exact h1
  have ndP:ps.Nodup:=by rw [<- S.pre]; exact S.nd.sublist (List.take_sublist _ _)
  refine ⟨u,rv,?_⟩
  rcases S.par y (List.mem_of_getElem? hp) with k | k
  ·exact .inl ⟨k,bindL_get ndP hp hu k⟩
  ·obtain ⟨c,e⟩:=cell_has (n:=s.heap.objs.size+1) k
   refine .inr ⟨.inl k,c,e,?_⟩
   have q:=x.cell y c e
   rw [bindC_get ndP hp hu (by show scope.names.lookup y≠_; rw [k]; decide)] at q
   exact q
 ·exact e0.hok.fresh (Nat.le_of_lt (x.above y c (PySem.mem_of_lookup h)))
 ·unfold start
  show _=N.length
  rw [List.length_append,List.length_map,List.length_replicate]
  omega
theorem fn_of {CX:CXT} {P:Program} {w:World} {K:PySem.W.Frag} {mg:Str->Option Value} {base:Heap} {k:Nat} {f:Addr} {name qual:Str} {params:Arguments} {body:List Stmt} {scope:Scope} {dV kV doc pm cdv ct oc:Value} {an od:Option Addr}
  {osl:Array (Option Value)} {N ps:List Str} {sp:Sp} (lk:K.lookup f=some ⟨oc,od,.func (PySem.W.fnOf name qual params body scope dV kV doc pm an cdv ct),osl⟩) (hcd:PySem.W.codeIn K cdv qual=true) (S:FnScope N ps scope)
  (len:∀ vs H Q E,sp vs H Q E->vs.length=ps.length)
  (hbody:∀ (A:Around) (outer:List Env) (s:Shared) (H:Hp) (vs:List V) (Q:VK) (E:XK),Room k (A.deeper (envOfC qual scope s.heap.objs.size f cdv))->sp vs H Q E ->
   ∃ t,PSs (cxOf CX P w K mg base N qual scope f cdv A outer s H E) body t/\t { nx:=λ_ H'=>Q .non H',rt:=Q } (start N vs) H) :
  FnOk P w K mg base CX (k+1) f (PySem.W.fnOf name qual params body scope dV kV doc pm an cdv ct) ps sp:=by
 refine ⟨len,λA outer s H args us vs Q E hr e0 hb r hsp=>?_⟩
 have hl:=len _ _ _ _ hsp
 have KX:K.In s.heap:=e0.mod.kin.keeps λb o e=>(e0.bs b o e).1
 have lim:s.heap.NoLimit:=e0.mod.nolimit.keeps λb o e=>(e0.bs b o e).1
 have hkind:∀ y ∈ ps.zip us,scope.names.lookup y.1=some .local\/(scope.names.lookup y.1=some .cell/\((cellsFrom (s.heap.objs.size+1) scope.names []).lookup y.1).isSome=true):=λ⟨n,v⟩ hy=>by
  rcases S.par n (List.of_mem_zip hy).1 with q | q
  ·exact .inl q
  ·exact .inr ⟨q,PySem.W.cellsFrom_some _ _ _ (.inl q)⟩
 refine codeAny_call_function hr.depth (KX _ _ lk) rfl S.co S.gen rfl (PySem.W.codeRec_of KX hcd) (hb _ _ _ _ ?_)
 refine wpAny_newFunctionEnv_cells S.kind hkind λenv he s1 x=>?_
 subst he
 refine ⟨lim.keeps x.toInCall.keep,codeAny_func ?_⟩
 obtain ⟨t,ht,hq⟩:=hbody A outer s H vs Q E (hr.deeper _) hsp
 have I:Inv (cxOf CX P w K mg base N qual scope f cdv A outer s H E) [] (start N vs) H s1:=inv_start S hr.hd e0 hl r x
 refine wpAny_mono (ht [] s1 (start N vs) H _ I hq) (λfl s' hs=>?_) λe s' hs=>hs
 have fin:∀ {σ':St} {H':Hp} {v:V} {u:Value},Inv (cxOf CX P w K mg base N qual scope f cdv A outer s H E) [] σ' H' s'->RelV v u->Q v H'->CE outer P w H s Q u s' :=
  λ{σ' H' v u} J rv q=>⟨v,H',J.os,J.bare,J.base,J.hok,rv,q⟩
 cases fl with
 | ret u =>
  obtain ⟨v,σ',H',J,rv,q⟩:=hs
  exact fin J rv q
 | next =>
  obtain ⟨σ',H',J,q⟩:=hs
  exact fin (v:=V.non) (u:=Value.none) J rfl q
 | brk =>
  obtain ⟨_,_,_,q⟩:=hs
  exact False.elim q
 | cont =>
  obtain ⟨_,_,_,q⟩:=hs
  exact False.elim q
end L2
namespace L2
open PySem PySem.Spec PyProof.Rows
section
variable {X : Cx} {x : Str} {p pos : Pos} {e : Expr} {es : List Expr} {t : TA} {id T : String} {r : List V → Hp → VK → Prop}
def tCB (r:List V->Hp->VK->Prop) (t:TA):TE:=λσ H Q=>t σ H λvs H1=>r vs H1 Q
theorem pe_callB (hc:CallR X (.builtin id) r) (hg:Gl X x) (hm:X.mg x=none) (hv:bootBuiltins x=some (.builtin id)) (ha:PA X (e::es) t) (hn:x≠"__name__":=by decide) (hdb:(x == ("__debug__":Str))=false:=by decide)
  (he:starEach (e::es) X.env=(false,eval e X.env)::starEach es X.env:=by rfl) (hpl:(backTo pos (starEach es X.env)).any (·.1)=false:=by rfl):PE X (.Call (.Name x p) (e::es) [] pos) (tCB r t):=by
 intro pins s σ H Q I h
 refine wpAny_Call_Name_kw (ld_blt I hg hm hv ?_ hn hdb)
 exact PyProof.Rows.callWith_builtin1 (thn (ha pos pins s σ H _ I h) λus s1 ⟨vs,H1,I1,r1,q1⟩=>hc pins s1 σ H1 vs us Q I1 r1 q1) he hpl
theorem pe_callTy (hc:CallR X (.type T) r) (hg:Gl X x) (hm:X.mg x=none) (hv:bootBuiltins x=some (.type T)) (ha:PA X (e::es) t) (hn:x≠"__name__":=by decide) (hdb:(x == ("__debug__":Str))=false:=by decide)
  (he:starEach (e::es) X.env=(false,eval e X.env)::starEach es X.env:=by rfl) (hpl:(backTo pos (starEach es X.env)).any (·.1)=false:=by rfl):PE X (.Call (.Name x p) (e::es) [] pos) (tCB r t):=by
 intro pins s σ H Q I h
 refine wpAny_Call_Name_kw (ld_blt I hg hm hv ?_ hn hdb)
 exact PyProof.Rows.callWith_type1 (thn (ha pos pins s σ H _ I h) λus s1 ⟨vs,H1,I1,r1,q1⟩=>hc pins s1 σ H1 vs us Q I1 r1 q1) he hpl
end
end L2
namespace HT
open PySem PyProof.Rows
section
open PySem.SeqAt
open PySem.AutoSeq1 (wpAny_loadPart')
open PySem.MeetsSeq PySem.MeetsSeq2 PySem.MeetsSeq3
end
section
variable {prog : Program} {w : World} {A : Around} {E : Value → Shared → Prop} {s : Shared}
def sIx (n d:Nat):Option Int->Nat
 | none=>d
 | some v=>if v<0 then (v+(n:Int)).toNat else min v.toNat n
theorem sIx_none (n d:Nat):sIx n d none=d:=rfl
theorem sIx_nat (n d k:Nat):sIx n d (some (k:Int))=min k n:=by
 show (if (k:Int)<0 then ((k:Int)+(n:Int)).toNat else min (k:Int).toNat n)=min k n
 rw [if_neg (by omega),Int.toNat_natCast]
theorem sIx_le (n d:Nat) (hd:d<=n) (o:Option Int):sIx n d o<=n:=by
 cases o with
 | none=>exact hd
 | some v =>
  show (if v<0 then (v+(n:Int)).toNat else min v.toNat n)<=n
  by_cases hv:v<0
  ·rw [if_pos hv]; omega
  ·rw [if_neg hv]; exact Nat.min_le_right _ _
theorem clip_eq (v:Int) (n d:Nat):(if v<0 then max (v+(n:Int)) 0 else min v (n:Int))=((sIx n d (some v):Nat):Int):=by
 show (if v<0 then max (v+(n:Int)) 0 else min v (n:Int))=(((if v<0 then (v+(n:Int)).toNat else min v.toNat n):Nat):Int)
 by_cases hv:v<0
 ·simp only [if_pos hv]; omega
 ·simp only [if_neg hv]; omega
theorem adjust_gen (lo hi:Option Int) (n:Nat):Builtin.Slice.sliceAdjust lo hi 1 (n:Int)=(((sIx n 0 lo:Nat):Int),((sIx n n hi:Nat):Int)):=by
 have h1:¬ ((1:Int)<0):=by omega
 unfold Builtin.Slice.sliceAdjust
 simp only [h1,if_false]
 refine Prod.ext ?_ ?_
 ·cases lo with
  | none=>rfl
  | some v=>exact clip_eq v n 0
 ·cases hi with
  | none=>rfl
  | some v=>exact clip_eq v n n
theorem places_gen (i j:Nat):Builtin.Slice.slicePlaces (i:Int) (j:Int) 1=j - i:=by
 unfold Builtin.Slice.slicePlaces
 have h1:(1:Int) > 0:=by omega
 simp only [h1,if_true,Int.ediv_one]
 split <;> omega
theorem slicePart_ {v:Value} {o:Option Int} {Q:Option Int->Shared->Prop} (p:IsPart v o) (h:Q o s):wpAny (model prog w) A (Builtin.Slice.slicePartIndex v) Q E s:=by
 cases p with
 | none=>exact slicePart_none h
 | int i t=>exact slicePart_int h
theorem sliceApplied_gen {sl:Addr} {vl vu:Value} {lo hi:Option Int} {n:Nat} {Q:Int×Int×Nat->Shared->Prop} (hs:s.heap.IsSliceOf sl vl vu .none) (pl:IsPart vl lo) (pu:IsPart vu hi)
  (h:Q (((sIx n 0 lo:Nat):Int),1,sIx n n hi - sIx n 0 lo) s):wpAny (model prog w) A (Builtin.Slice.sliceApplied (.ref sl) (pure (n:Int))) Q E s:=by
 obtain ⟨os,hos,hcs,hds⟩:=id hs
 unfold Builtin.Slice.sliceApplied Builtin.Slice.sliceFields
 refine wpAny_bind (wpAny_bind (wpAny_field hos hds (x:=vl) rfl (wpAny_bind (wpAny_field hos hds (x:=vu) rfl (wpAny_bind (wpAny_field hos hds (x:=.none) rfl (wpAny_pure ?_)))))))
 refine wpAny_bind (slicePart_none ?_)
 show wpAny _ _ (if ((1:Int) == 0)=true then _ else _) _ _ s
 rw [if_neg (by decide)]
 refine wpAny_bind (slicePart_ pl (wpAny_bind (slicePart_ pu (wpAny_bind (wpAny_pure ?_)))))
 show wpAny _ _ (match Builtin.Slice.sliceAdjust lo hi 1 (n:Int) with | (lo,hi)=>pure (lo,(1:Int),Builtin.Slice.slicePlaces lo hi 1)) _ _ s
 rw [adjust_gen lo hi n]
 show wpAny _ _ (pure (((sIx n 0 lo:Nat):Int),(1:Int),Builtin.Slice.slicePlaces ((sIx n 0 lo:Nat):Int) ((sIx n n hi:Nat):Int) 1)) _ _ s
 rw [places_gen]
 exact wpAny_pure h
theorem pick_gen (xs:Array Value) (i k:Nat):((List.range k).filterMap λ(m:Nat)=>xs[((i:Int)+(m:Int) * 1).toNat]?).toArray=((xs.toList.drop i).take k).toArray:=by
 have e:(λ(m:Nat)=>xs[((i:Int)+(m:Int) * 1).toNat]?)=λm=>xs[i+m]?:=by
  funext m
  have:((i:Int)+(m:Int) * 1).toNat=i+m:=by omega
  rw [this]
 rw [e]
 have:=pick_run xs i k
 rw [List.filterMap_map] at this
 have e2:((λx=>xs[x]?) ∘ λx=>i+x)=λm=>xs[i+m]?:=rfl
 rw [e2] at this
 rw [this]
theorem getItem_tuple_cut {t sl:Addr} {items:Array Value} {vl vu:Value} {lo hi:Option Int} {Q:Value->Shared->Prop} (ht:IsTup s.heap t items) (hs:s.heap.IsSliceOf sl vl vu .none) (pl:IsPart vl lo) (pu:IsPart vu hi)
  (hw:¬ (sIx items.size 0 lo=0/\sIx items.size items.size hi=items.size))
  (h:Q (.ref s.heap.objs.size) { s with heap:=s.heap.push { cls:=.type "tuple",data:=.seq ((items.toList.drop (sIx items.size 0 lo)).take (sIx items.size items.size hi - sIx items.size 0 lo)).toArray } })
  (hsz:items.size<=sizeLine):wpAny (model prog w) A (getItem (.ref t) (.ref sl)) Q E s:=by
 have htake:sizeOk (.seq ((items.toList.drop (sIx items.size 0 lo)).take (sIx items.size items.size hi - sIx items.size 0 lo)).toArray):=by
  show ((items.toList.drop (sIx items.size 0 lo)).take (sIx items.size items.size hi - sIx items.size 0 lo)).toArray.size<=sizeLine
  rw [List.size_toArray,List.length_take,List.length_drop,Array.length_toList]
  omega
 have hj:sIx items.size items.size hi<=items.size:=sIx_le _ _ (Nat.le_refl _) hi
 obtain ⟨os,hos,hcs,hds⟩:=id hs
 have hTs:s.TypeIs (.ref sl) "slice":=⟨os,hos,hcs⟩
 unfold getItem
 try with_reducible refine wpAny_holding ?_
 first | refine wpAny_bind (wpAny_pure ?_) | skip
 refine wpAny_bind (wpAny_sequenceKey ht.typeIs (by decide) ?_)
 refine wpAny_bind (wpAny_callSpecial?_slot (name:=Str.ofString "__getitem__") ht.typeIs PyProof.Rows.slot_tuple_getitem
  (wpAny_call_entry PyProof.Rows.slot_tuple_getitem ht.typeIs entry_tuple_getitem ?_ (args_tuple_getitem _ _)))
 show wpAny _ _ (Builtin.Tuple.tupleItemsOf (.ref t) >>= _) _ _ s
 refine wpAny_bind (tupleItemsOf_ ht ?_)
 refine wpAny_bind (wpAny_typeOf hTs ?_)
 rw [if_pos (by decide)]
 refine wpAny_bind (sliceApplied_gen hs pl pu ?_)
 have hno:¬ ((((sIx items.size 0 lo:Nat):Int) == 0 && (1:Int) == 1 && (sIx items.size items.size hi - sIx items.size 0 lo) == items.size)=true):=by
  intro q
  rw [Bool.and_eq_true,Bool.and_eq_true] at q
  have q1:((sIx items.size 0 lo:Nat):Int)=0:=eq_of_beq q.1.1
  have q2:sIx items.size items.size hi - sIx items.size 0 lo=items.size:=eq_of_beq q.2
  exact hw ⟨by omega,by omega⟩
 show wpAny _ _ (if (((sIx items.size 0 lo:Nat):Int) == 0 && (1:Int) == 1 && (sIx items.size items.size hi - sIx items.size 0 lo) == items.size)=true then _ else _) _ _ s
 rw [if_neg hno,pick_gen]
 first
  | exact wpAny_bind (m:=Builtin.Tuple.tupleExact _) (wpAny_newObj_type (wpAny_pure ⟨_,rfl,wpAny_pure h⟩) htake)
  | exact wpAny_bind (m:=Builtin.Tuple.tupleExact _) (wpAny_newObj_type (wpAny_bind (wpAny_pure (wpAny_pure ⟨_,rfl,wpAny_pure h⟩))) htake)
  | exact wpAny_bind (wpAny_bind (m:=Builtin.Tuple.tupleExact _) (wpAny_newObj_type (wpAny_pure (wpAny_pure ⟨_,rfl,wpAny_pure h⟩)) htake))
  | exact wpAny_bind (wpAny_bind (m:=Builtin.Tuple.tupleExact _) (wpAny_newObj_type (wpAny_pure ⟨_,rfl,wpAny_pure h⟩) htake))
end
end HT
namespace L2
open PySem PySem.Spec PyProof.Rows
abbrev TO:=St->Hp->(Option Int->Hp->Prop)->Prop
def PO (X:Cx) (e:Option Expr) (t:TO):Prop :=
 ∀ (pins:List (Addr×Obj)) (s:Shared) (σ:St) (H:Hp) (Q:Option Int->Hp->Prop),Inv X pins σ H s->t σ H Q ->
  wpAny (model X.prog X.w) X.A (evalPart e X.env) (λu s'=>∃ o H',Inv X pins σ H' s'/\IsPart u o/\Q o H') X.xe s
def tNoPart:TO:=λ_ H Q=>Q none H
inductive tPartR (Q:(Option Int->Hp->Prop)) (x:V) (H1:Hp):Prop
 | mk (i:_) (_:x=.int i) (_:Q (some i) H1):tPartR Q x H1
def tPart (t:TE):TO:=λσ H Q=>t σ H λx H1=>tPartR Q x H1
section
variable {X : Cx} {e : Expr} {te : TE} {lo hi : Option Expr} {tl th : TO} {pos p2 : Pos}
theorem po_none:PO X none tNoPart:=by
 intro pins s σ H Q I h
 rw [evalPart_none]
 exact wpAny_pure ⟨none,H,I,.none,h⟩
theorem po_some (h:PE X e te):PO X (some e) (tPart te):=by
 intro pins s σ H Q I hw
 rw [evalPart_some]
 refine thn (h pins s σ H _ I hw) λu s1 hpat=>?_
 obtain ⟨x,H1,I1,r1,q1⟩:=hpat
 obtain ⟨i,rfl,q⟩:=q1
 obtain ⟨t,rfl⟩:=r1
 exact ⟨some i,H1,I1,.int i t,q⟩
def SlR (X:Cx) (r:V->Option Int->Option Int->Hp->VK->Prop):Prop :=
 ∀ (pins:List (Addr×Obj)) (s:Shared) (σ:St) (H:Hp) (x:V) (v vl vu:Value) (lo hi:Option Int) (sl:Addr) (Q:VK),Inv X pins σ H s->RelV x v->s.heap.IsSliceOf sl vl vu .none->IsPart vl lo->IsPart vu hi->r x lo hi H Q ->
  ∃ T id,typeLookup (.type T) "__getitem__"=pure (some (.builtin id))/\s.TypeIs v T/\wpAny (model X.prog X.w) X.A (getItem v (.ref sl)) (EP X pins σ Q) X.xe s
def tSl (r:V->Option Int->Option Int->Hp->VK->Prop) (te:TE) (tl th:TO):TE:=λσ H Q=>te σ H λx H1=>tl σ H1 λl H2=>th σ H2 λu H3=>r x l u H3 Q
theorem pe_slice {r:V->Option Int->Option Int->Hp->VK->Prop} (hr:SlR X r) (he:PE X e te) (hl:PO X lo tl) (hu:PO X hi th):PE X (.Subscript e (.Slice lo hi none p2) pos) (tSl r te tl th):=by
 intro pins s σ H Q I h
 refine Subscript_ (thn (he pins s σ H _ I h) λv s1 hpat=>?_)
 obtain ⟨x,H1,I1,r1,q1⟩:=hpat
 refine wpAny_Slice (thn (hl pins s1 σ H1 _ I1 q1) λvl s2 ⟨l,H2,I2,pl,q2⟩=>thn (hu pins s2 σ H2 _ I2 q2) λvu s3 hpat=>?_)
 obtain ⟨u,H3,I3,pu,q3⟩:=hpat
 rw [evalPart_none]
 refine wpAny_pure ?_
 have I4:Inv X pins σ H3 { s3 with heap:=s3.heap.push { cls:=.type "slice",data:=.fields #[vl,vu,.none] } }:=I3.kept (t':=s3.toks) λb ob q=>Heap.get?_push_of_some _ q
 obtain ⟨T,id,hT,ht,hg⟩:=hr pins { s3 with heap:=s3.heap.push { cls:=.type "slice",data:=.fields #[vl,vu,.none] } } σ H3 x v vl vu l u s3.heap.objs.size Q I4 r1 (Heap.IsSliceOf.new ..) pl pu q3
 show wpAny (model X.prog X.w) X.A (subscriptTail e (.Slice lo hi none p2) v (.ref s3.heap.objs.size)) (EP X pins σ Q) X.xe { s3 with heap:=s3.heap.push { cls:=.type "slice",data:=.fields #[vl,vu,.none] } }
 exact tail_any (ops:=[.ref s3.heap.objs.size,v]) ht hT hg (by with_unfolding_all rfl)
def cutV (xs:List V) (lo hi:Option Int):List V:=(xs.drop (HT.sIx xs.length 0 lo)).take (HT.sIx xs.length xs.length hi - HT.sIx xs.length 0 lo)
theorem cutV_length (xs:List V) (lo hi:Option Int):(cutV xs lo hi).length<=xs.length:=by
 unfold cutV
 rw [List.length_take,List.length_drop]
 omega
def rSlT (K:PySem.W.Frag):V->Option Int->Option Int->Hp->VK->Prop:=λx lo hi H Q=>∃ a xs,x=.ref a/\SqT K H a xs /\
 ¬ (HT.sIx xs.length 0 lo=0/\HT.sIx xs.length xs.length hi=xs.length)/\∀ p,H p=none->Q (.ref p) (upd H p (.tup (cutV xs lo hi)))
theorem sl_tup:SlR X (rSlT X.K):=by
 intro pins s σ H x v vl vu lo hi sl Q I rx hs pl pu h
 obtain ⟨a,xs,rfl,hx,hw,q⟩:=h
 cases rx
 obtain ⟨its,r,ht,hz⟩:=I.tuple hx
 have hlen:its.toArray.size=xs.length:=by rw [List.size_toArray]; exact r.length.symm
 refine ⟨"tuple",_,PyProof.Rows.slot_tuple_getitem.lookup,ht.typeIs,?_⟩
 refine HT.getItem_tuple_cut ht hs pl pu (by rw [hlen]; exact hw) ?_ (by rw [hlen]; exact hz)
 rw [hlen]
 refine ⟨.ref s.heap.objs.size,_,I.laid (t':=s.toks) (o:=.tup (cutV xs lo hi)) (λb ob q=>Heap.get?_push_of_some _ q) (Nat.le_refl _) ?_,rfl,q _ (I.hok.fresh (Nat.le_refl _))⟩
 exact ⟨Nat.le_trans (cutV_length xs lo hi) hz,_,(r.drop (HT.sIx xs.length 0 lo)).take (HT.sIx xs.length xs.length hi - HT.sIx xs.length 0 lo),IsTup.new _ _⟩
end
end L2
namespace L2
open PySem PySem.Spec PyProof.Rows
def ixN (n:Nat) (i:Int):Option Nat:=if 0<=i then (if i<n then some i.toNat else none) else if -(n:Int)<=i then some (i+n).toNat else none
def atI {α:Type} (xs:List α) (i:Int):Option α:=(ixN xs.length i).bind λj=>xs[j]?
theorem ixN_seq {n:Nat} {i:Int} {j:Nat} (h:ixN n i=some j):seqIndex? i n=some j/\j<n/\-(n:Int)<=i/\i<n:=by
 unfold ixN at h
 by_cases h0:0<=i
 ·rw [if_pos h0] at h
  by_cases h1:i<n
  ·rw [if_pos h1] at h
   have e:i.toNat=j:=Option.some.inj h
   exact ⟨by rw [seqIndex_of h0 h1,e],by omega,by omega,h1⟩
  ·rw [if_neg h1] at h; cases h
 ·rw [if_neg h0] at h
  by_cases h1:-(n:Int)<=i
  ·rw [if_pos h1] at h
   have e:(i+n).toNat=j:=Option.some.inj h
   exact ⟨by rw [seqIndex_neg (by omega) h1,e],by omega,h1,by omega⟩
  ·rw [if_neg h1] at h; cases h
theorem atI_get {α:Type} {xs:List α} {i:Int} {v:α} (h:atI xs i=some v):∃ j,seqIndex? i xs.length=some j/\xs[j]?=some v/\j<xs.length/\-(xs.length:Int)<=i/\i<xs.length:=by
 unfold atI at h
 cases e:ixN xs.length i with
 | none=>rw [e] at h; cases h
 | some j =>
  rw [e] at h
  obtain ⟨h1,h2,h3,h4⟩:=ixN_seq e
  exact ⟨j,h1,h,h2,h3,h4⟩
theorem atI_nat {α:Type} {xs:List α} {j:Nat} {v:α} (h:xs[j]?=some v):atI xs (j:Int)=some v:=by
 have hj:j<xs.length:=(List.getElem?_eq_some_iff.mp h).1
 have e:ixN xs.length (j:Int)=some j:=by
  unfold ixN
  rw [if_pos (by omega),if_pos (by omega)]; simp
 unfold atI; rw [e]; exact h
def PlainIx (b:Expr):Prop:=∀ o i,subscripted b false o i=operate [o,i] (getItem o i)
def IxR (X:Cx) (r:R2):Prop :=
 ∀ (value slice:Expr) (pins:List (Addr×Obj)) (s:Shared) (σ:St) (H:Hp) (x y:V) (v u:Value) (Q:VK),Inv X pins σ H s->RelV x v->RelV y u->r x y H Q ->
  subscripted slice false v u=operate [v,u] (getItem v u)->wpAny (model X.prog X.w) X.A (subscriptTail value slice v u) (EP X pins σ Q) X.xe s
def MtR (X:Cx) (id:String) (r:V->List V->Hp->VK->Prop):Prop :=
 ∀ (pins:List (Addr×Obj)) (s:Shared) (σ:St) (H:Hp) (x:V) (xs:List V) (v:Value) (us:List Value) (Q:VK),Inv X pins σ H s->RelV x v->Vals xs us->r x xs H Q ->
  wpAny (model X.prog X.w) X.A (call (.builtin id) (v::us)) (EP X pins σ Q) X.xe s
section
variable {X : Cx} {a b : Expr} {ta tb : TE} {pos : Pos}
theorem pe_ix {r:R2} (hr:IxR X r) (ha:PE X a ta) (hb:PE X b tb) (hs:PlainIx b):PE X (.Subscript a b pos) (tOp r ta tb):=by
 intro pins s σ H Q I h
 exact Subscript_ (binT ha hb I h λv u s2 x y H2 I2 rx ry q=>hr a b pins s2 σ H2 x y v u Q I2 rx ry q (hs _ _))
inductive rIxLR (K:PySem.W.Frag) (x:V) (y:V) (H:Hp) (Q:VK):Prop
 | mk (p xs i v:_) (_:x=.ref p) (_:y=.int i) (_:SqL K H p xs) (_:atI xs i=some v) (_:Q v H):rIxLR K x y H Q
def rIxL (K:PySem.W.Frag):R2:=λx y H Q=>rIxLR K x y H Q
inductive rIxTR (K:PySem.W.Frag) (x:V) (y:V) (H:Hp) (Q:VK):Prop
 | mk (p xs i v:_) (_:x=.ref p) (_:y=.int i) (_:SqT K H p xs) (_:atI xs i=some v) (_:Q v H):rIxTR K x y H Q
def rIxT (K:PySem.W.Frag):R2:=λx y H Q=>rIxTR K x y H Q
theorem ix_list:IxR X (rIxL X.K):=by
 intro value slice pins s σ H x y v u Q I rx ry h hs
 obtain ⟨p,xs,i,z,rfl,rfl,hq,he,q⟩:=h
 cases rx
 obtain ⟨t,rfl⟩:=ry
 obtain ⟨its,r,pl,hz⟩:=I.list hq
 obtain ⟨j,h1,h2,h3,h4,h5⟩:=atI_get he
 obtain ⟨w,ew,rw'⟩:=r.get h2
 have hl:=r.length
 have hn:=line63
 have fin:EP X pins σ Q w s:=⟨z,H,I,rw',q⟩
 by_cases h0:0<=i
 ·have hj:i.toNat=j:=by
   rw [seqIndex_of h0 h5] at h1
   exact Option.some.inj h1
  exact item_listR pl.isList h0 (by omega) (by rw [hj]; simpa using ew) fin hs
 ·have hj:(i+(its.toArray.size:Int)).toNat=j:=by
   rw [seqIndex_neg (by omega) h4] at h1
   rw [List.size_toArray,<- hl]
   exact Option.some.inj h1
  exact subscriptTail_builtinR (x:=w) pl.isList.typeIs slot_list_getitem.lookup
   (wpAny_getItem_list_neg (Q:=λr s'=>r=w/\EP X pins σ Q r s') pl.isList (by omega) (by rw [List.size_toArray] <;> omega) (by omega) (by rw [hj]; simpa using ew) ⟨rfl,fin⟩) hs
theorem ix_tup:IxR X (rIxT X.K):=by
 intro value slice pins s σ H x y v u Q I rx ry h hs
 obtain ⟨p,xs,i,z,rfl,rfl,hq,he,q⟩:=h
 cases rx
 obtain ⟨t,rfl⟩:=ry
 obtain ⟨its,r,pl,hz⟩:=I.tuple hq
 obtain ⟨j,h1,h2,h3,h4,h5⟩:=atI_get he
 obtain ⟨w,ew,rw'⟩:=r.get h2
 have hl:=r.length
 have hn:=line63
 have fin:EP X pins σ Q w s:=⟨z,H,I,rw',q⟩
 exact subscriptTail_builtinR (x:=w) pl.typeIs slot_tuple_getitem.lookup
  (getItem_tuple (j:=j) (Q:=λr s'=>r=w/\EP X pins σ Q r s') pl (by omega) (by omega) (by rw [List.size_toArray,<- hl]; exact h1) (by simpa using ew) ⟨rfl,fin⟩) hs
theorem mapSeq_set (its:List Value) (n j:Nat) (u:Value):Obj.mapSeq (·.setIfInBounds j u) { cls:=.type "list",data:=.seq its.toArray n }={ cls:=.type "list",data:=.seq (its.set j u).toArray n }:=by
 simp [Obj.mapSeq]
theorem Inv.lst {pins:List (Addr×Obj)} {σ:St} {H:Hp} {s:Shared} {p:Addr} {xs:List V} (I:Inv X pins σ H s) (h:H p=some (.lst xs)) :
  ∃ (its:List Value) (n:Nat),Vals xs its/\s.heap.get? p=some { cls:=.type "list",data:=.seq its.toArray n }/\xs.length<=sizeLine:=by
 obtain ⟨z,its,n,r,e⟩:=I.hok p _ h
 exact ⟨its,n,r,e,z⟩
theorem Inv.lstUpd {pins:List (Addr×Obj)} {σ:St} {H:Hp} {s:Shared} {p:Addr} {xs ys:List V} {its its':List Value} {n n':Nat} {f:Obj->Obj} (I:Inv X pins σ H s) (h:H p=some (.lst xs))
  (ho:s.heap.get? p=some { cls:=.type "list",data:=.seq its.toArray n }) (hf:f { cls:=.type "list",data:=.seq its.toArray n }={ cls:=.type "list",data:=.seq its'.toArray n' }) (r:Vals ys its') (hz:ys.length<=sizeLine) (t:Nat) :
  Inv X pins σ (upd H p (.lst ys)) { s with heap:=s.heap.update p f,toks:=t }:=by
 have e:(s.heap.update p f).get? p=some { cls:=.type "list",data:=.seq its'.toArray n' }:=by
  rw [Heap.get?_update_self f ho (by rw [hf] <;> rfl),hf]
 refine I.write (x:=p) (e:=p) (by rw [h]; trivial) (.inl rfl) (λb u hb q=>(Heap.get?_update_other _ _ (Ne.symm hb)).trans q) ⟨_,e⟩ ?_
 exact ⟨hz,its',n',r,e⟩
inductive rSetLR (o:V) (i:V) (v:V) (H:Hp) (Q:(Hp->Prop)):Prop
 | mk (p xs k j:_) (_:o=.ref p) (_:i=.int k) (_:H p=some (.lst xs)) (_:ixN xs.length k=some j) (_:Q (upd H p (.lst (xs.set j v)))):rSetLR o i v H Q
def rSetL:V->V->V->Hp->(Hp->Prop)->Prop:=λo i v H Q=>rSetLR o i v H Q
theorem set_list:PSet X rSetL:=by
 intro pins s σ H o i v ov iv u Q I ro ri rv h
 obtain ⟨p,xs,k,j,rfl,rfl,hp,hj,q⟩:=h
 cases ro
 obtain ⟨t,rfl⟩:=ri
 obtain ⟨its,n,r,ho,hz⟩:=I.lst hp
 obtain ⟨h1,h2,h3,h4⟩:=ixN_seq hj
 have hl:=r.length
 have hn:=line63
 have I':Inv X pins σ (upd H p (.lst (xs.set j v))) { s with heap:=s.heap.update p (Obj.mapSeq (·.setIfInBounds j u)) } :=
  I.lstUpd hp ho (mapSeq_set its n j u) (r.set rv j) (by rw [List.length_set]; exact hz) s.toks
 by_cases h0:0<=k
 ·have hk:k.toNat=j:=by
   rw [seqIndex_of h0 h4] at h1
   exact Option.some.inj h1
  exact PySem.W.ki_setAt ho h0 (by omega) (by rw [List.size_toArray,<- hl]; exact h4) (by rw [hk]; exact ⟨_,I',q⟩)
 ·have hk:(k+(its.toArray.size:Int)).toNat=j:=by
   rw [seqIndex_neg (by omega) h3] at h1
   rw [List.size_toArray,<- hl]
   exact Option.some.inj h1
  exact PySem.W.ki_setBack ho (by omega) (by rw [List.size_toArray,<- hl]; exact h3) (by omega) (by rw [hk]; exact ⟨_,I',q⟩)
theorem slice_bounds (lo hi:Option Int) (n:Nat):(sliceBounds lo hi none n).1=((HT.sIx n 0 lo:Nat):Int)/\(sliceBounds lo hi none n).2.1=((HT.sIx n n hi:Nat):Int)/\(sliceBounds lo hi none n).2.2=1:=by
 refine ⟨?_,?_,rfl⟩
 ·cases lo with
  | none=>simp [sliceBounds,HT.sIx]
  | some i =>
   simp only [sliceBounds,HT.sIx,Option.getD_none,show (1:Int) > 0 by decide,if_true]
   by_cases h:i<0
   ·simp only [h,if_true] <;> omega
   ·simp only [h,if_false] <;> omega
 ·cases hi with
  | none=>simp [sliceBounds,HT.sIx]
  | some i =>
   simp only [sliceBounds,HT.sIx,Option.getD_none,show (1:Int) > 0 by decide,if_true]
   by_cases h:i<0
   ·simp only [h,if_true] <;> omega
   ·simp only [h,if_false] <;> omega
theorem slicePick_cut (its:List Value) (lo hi:Option Int):slicePick its.toArray lo hi none=((its.drop (HT.sIx its.length 0 lo)).take (HT.sIx its.length its.length hi - HT.sIx its.length 0 lo)).toArray:=by
 obtain ⟨h1,h2,h3⟩:=slice_bounds lo hi its.toArray.size
 unfold slicePick
 rw [h1,h2,h3]
 simp only [sliceRange_one,pick_run,List.size_toArray] <;> rfl
inductive rSlLR (K:PySem.W.Frag) (x:V) (lo:(Option Int)) (hi:(Option Int)) (H:Hp) (Q:VK):Prop
 | mk (a xs:_) (_:x=.ref a) (_:SqL K H a xs) (_:∀ p,H p=none->Q (.ref p) (upd H p (.lst (cutV xs lo hi)))):rSlLR K x lo hi H Q
def rSlL (K:PySem.W.Frag):V->Option Int->Option Int->Hp->VK->Prop:=λx lo hi H Q=>rSlLR K x lo hi H Q
theorem sl_list:SlR X (rSlL X.K):=by
 intro pins s σ H x v vl vu lo hi sl Q I rx hs pl pu h
 obtain ⟨a,xs,rfl,hx,q⟩:=h
 cases rx
 obtain ⟨its,r,ht,hz⟩:=I.list hx
 have hlen:=r.length
 refine ⟨"list",_,slot_list_getitem.lookup,ht.isList.typeIs,?_⟩
 refine wpAny_getItem_list_slice ht.isList hs pl pu .none (by simp) ?_ (by rw [List.size_toArray] <;> omega)
 rw [slicePick_cut,<- hlen]
 refine ⟨.ref s.heap.objs.size,_,I.laid (t':=s.toks) (o:=.lst (cutV xs lo hi)) (λb ob q=>Heap.get?_push_of_some _ q) (Nat.le_refl _) ?_,rfl,q _ (I.hok.fresh (Nat.le_refl _))⟩
 exact ⟨Nat.le_trans (cutV_length xs lo hi) hz,_,0,(r.drop (HT.sIx xs.length 0 lo)).take (HT.sIx xs.length xs.length hi - HT.sIx xs.length 0 lo),Heap.get?_push_size _ rfl⟩
theorem call_len_seq:CallR X (.builtin "len") (λxs H Q=>∃ p ys,xs=[.ref p]/\(SqL X.K H p ys\/SqT X.K H p ys)/\Q (.int ys.length) H):=by
 intro pins s σ H xs us Q I r h
 obtain ⟨p,ys,rfl,hq,q⟩:=h
 obtain ⟨u,rfl,rx⟩:=vals1 r
 cases rx
 have hn:=line63
 rcases hq with hq | hq
 ·obtain ⟨its,r',pl,hz⟩:=I.list hq
  have hlen:=r'.length
  exact Calls.call_len_list pl.isList (by simp only [List.size_toArray] <;> omega) ⟨.int ys.length,H,I.tok _,⟨s.toks+1,by rw [List.size_toArray,hlen]⟩,q⟩
 ·obtain ⟨its,r',pl,hz⟩:=I.tuple hq
  have hlen:=r'.length
  exact len_tuple pl (by simp only [List.size_toArray] <;> omega) ⟨.int ys.length,H,I.tok _,⟨s.toks+1,by rw [List.size_toArray,hlen]⟩,q⟩
theorem call_list_of:CallR X (.type "list") (λxs H Q=>∃ p ys,xs=[.ref p]/\(SqL X.K H p ys\/SqT X.K H p ys)/\∀ l,H l=none->Q (.ref l) (upd H l (.lst ys))):=by
 intro pins s σ H xs us Q I r h
 obtain ⟨p,ys,rfl,hq,q⟩:=h
 obtain ⟨u,rfl,rx⟩:=vals1 r
 cases rx
 have fin:∀ (its:List Value),Vals ys its->ys.length<=sizeLine->∀ (h':Heap) (c':Nat),(∀ b o',s.heap.get? b=some o'->h'.get? b=some o') ->
   h'.get? s.heap.objs.size=some { cls:=.type "list",dict:=none,data:=.seq its.toArray c',slots:=#[] }->EP X pins σ Q (.ref s.heap.objs.size) { s with heap:=h' }:=λits r' hz h' c' kp e =>
  ⟨.ref s.heap.objs.size,_,I.laid (t':=s.toks) kp (Nat.le_refl _) (show ObjOk X.prog X.w _ h' _ (.lst ys) from ⟨hz,its,c',r',e⟩),rfl,q _ (I.hok.fresh (Nat.le_refl _))⟩
 rcases hq with hq | hq
 ·obtain ⟨its,r',pl,hz⟩:=I.list hq
  have hlen:=r'.length
  obtain ⟨o,ho,hc,n,hd⟩:=pl.isList
  exact call_list_seq p (.inl rfl) ho hc hd (λh' c' kp e=>fin its r' hz h' c' kp e) (by simp only [List.size_toArray] <;> omega)
 ·obtain ⟨its,r',pl,hz⟩:=I.tuple hq
  have hlen:=r'.length
  obtain ⟨o,ho,hc,n,hd⟩:=pl
  exact call_list_seq p (.inr rfl) ho hc hd (λh' c' kp e=>fin its r' hz h' c' kp e) (by simp only [List.size_toArray] <;> omega)
theorem call_tuple_of:CallR X (.type "tuple") (λxs H Q=>∃ p ys,xs=[.ref p]/\((SqL X.K H p ys/\∀ l,H l=none->Q (.ref l) (upd H l (.tup ys)))\/(SqT X.K H p ys/\Q (.ref p) H))):=by
 intro pins s σ H xs us Q I r h
 obtain ⟨p,ys,rfl,h⟩:=h
 obtain ⟨u,rfl,rx⟩:=vals1 r
 cases rx
 rcases h with ⟨hq,q⟩ | ⟨hq,q⟩
 ·obtain ⟨its,r',pl,hz⟩:=I.list hq
  have hlen:=r'.length
  refine call_tuple_list pl.isList (λh' kp=>?_) (by simp only [List.size_toArray] <;> omega)
  have I1:Inv X pins σ H { s with heap:=h' }:=I.kept (t':=s.toks) kp
  have I2:Inv X pins σ (upd H h'.objs.size (.tup ys)) { s with heap:=h'.push { cls:=.type "tuple",data:=.seq its.toArray } } :=
   I1.laid (t':=s.toks) (λb o e=>Heap.get?_push_of_some _ e) (Nat.le_refl _) (show ObjOk X.prog X.w _ _ _ (.tup ys) from ⟨hz,its,r',IsTup.new _ _⟩)
  exact ⟨.ref h'.objs.size,_,I2,rfl,q _ (I1.hok.fresh (Nat.le_refl _))⟩
 ·obtain ⟨its,r',pl,hz⟩:=I.tuple hq
  exact call_tuple_same pl ⟨.ref p,H,I,rfl,q⟩
def tyV (K:PySem.W.Frag) (T:String) (x:V) (H:Hp):Prop:=match x with
 | .str _=>T = "str"
 | .int _=>T = "int"
 | .ref p=>(T = "list"/\∃ xs,SqL K H p xs)\/(T = "tuple"/\∃ o,K.lookup p=some o/\o.cls=.type "tuple"/\o.dict=none) \/
   (T = "dict"/\((∃ kvs,H p=some (.dK kvs))\/∃ kvs,H p=some (.dT kvs)))\/(T = "set"/\∃ S n,H p=some (.set S n))
 | _=>False
theorem tyV_is {pins:List (Addr×Obj)} {σ:St} {H:Hp} {s:Shared} {T:String} {x:V} {v:Value} (I:Inv X pins σ H s) (r:RelV x v) (ty:tyV X.K T x H) :
  s.TypeIs v T/\∀ a,v=.ref a->∃ ob,s.heap.get? a=some ob/\ob.dict=none:=by
 cases x with
 | str z =>
  obtain ⟨t,rfl⟩:=r
  cases (show T = "str" from ty)
  exact ⟨typeIs_str s z t,λ_ e=>nomatch e⟩
 | int i =>
  obtain ⟨t,rfl⟩:=r
  cases (show T = "int" from ty)
  exact ⟨typeIs_int s i t,λ_ e=>nomatch e⟩
 | ref p =>
  cases r
  rcases ty with ⟨rfl,xs,hq⟩ | ⟨rfl,o,hk,hc,hd⟩ | ⟨rfl,hk⟩ | ⟨rfl,S,n,hk⟩
  ·obtain ⟨its,_,pl,_⟩:=I.list hq
   refine ⟨pl.isList.typeIs,λa e=>?_⟩
   cases e
   obtain ⟨o,n,e,c,hd,_⟩:=pl
   exact ⟨o,e,hd⟩
  ·refine ⟨⟨o,I.kIn p o hk,hc⟩,λa e=>?_⟩
   cases e
   exact ⟨o,I.kIn _ o hk,hd⟩
  ·have z:∃ o,s.heap.get? p=some o/\o.ExactDict:=by
    rcases hk with ⟨kvs,hk⟩ | ⟨kvs,hk⟩
    ·obtain ⟨_,_,_,_,o,_,_,e,ex,_⟩:=I.hok p _ hk
     exact ⟨o,e,ex⟩
    ·obtain ⟨_,_,_,_,o,_,_,e,ex,_⟩:=I.hok p _ hk
     exact ⟨o,e,ex⟩
   obtain ⟨o,e,ex⟩:=z
   refine ⟨⟨o,e,ex.1⟩,λa e2=>?_⟩
   cases e2
   exact ⟨o,e,ex.2.1⟩
  ·obtain ⟨o,_,_,_,e,ex,_⟩:=I.hok p _ hk
   refine ⟨⟨o,e,ex.1⟩,λa e2=>?_⟩
   cases e2
   exact ⟨o,e,ex.2.1⟩
 | _=>exact False.elim ty
def tBM (K:PySem.W.Frag) (T:String) (r:V->List V->Hp->VK->Prop) (to:TE) (t:TA):TE:=λσ H Q=>to σ H λx H1=>tyV K T x H1/\t σ H1 λxs H2=>r x xs H2 Q
variable {o e : Expr} {es : List Expr} {to : TE} {t : TA} {name : Str} {apos cpos : Pos} {T id : String} {r : V → List V → Hp → VK → Prop}
theorem pe_bm (pa:PlainAttrs T) (slot:Slot T name id) (hty:typeOf (.builtin id)=pure (.type "method_descriptor")) (hm:MtR X id r) (ho:PE X o to) (ha:PA X (e::es) t)
  (hbase:attributeBase o name X.env (eval o X.env)=eval o X.env:=by rfl)
  (hfew:((backTo cpos (starEach (e::es) X.env)).all (λx=>!x.1) && (backToKw cpos (keywordEach [] X.env)).all (λx=>x.1.isSome)
   && decide ((e::es).length+([]:List Keyword).length+(if ([]:List Keyword).isEmpty then 0 else 1)<30))=true:=by rfl)
  (hline:(apos.endLine == cpos.line)=true:=by rfl) (hs:starEach (e::es) X.env=(false,eval e X.env)::starEach es X.env:=by rfl) (hplain:(backTo cpos (starEach es X.env)).any (·.1)=false:=by rfl) :
  PE X (.Call (.Attribute o name apos) (e::es) [] cpos) (tBM X.K T r to t):=by
 intro pins s σ H Q I h
 refine wpAny_Call_method_late hbase hfew hline rfl (thn (ho pins s σ H _ I h) λv s1 hpat=>?_)
 obtain ⟨x,H1,I1,r1,ty,q1⟩:=hpat
 obtain ⟨h1,h2⟩:=tyV_is I1 r1 ty
 refine ⟨T,id,pa,slot,hty,h1,h2,?_⟩
 have hA:=ha cpos pins s1 σ H1 _ I1 q1
 rw [hs] at hA ⊢
 refine Calls.callWith_builtin (by show (false || (backTo cpos (starEach es X.env)).any (·.1))=false; rw [hplain] <;> rfl) (Calls.evalArgs_plain ?_)
 exact thn hA λus s2 ⟨vs,H2,I2,r2,q2⟩=>hm pins s2 σ H2 x vs v us Q I2 r1 r2 q2
/- xs.append(e),list.index on a module's tuple .. are MtR facts of 06m -/
end
end L2
namespace L2
open PySem PySem.Spec PyProof.Rows
def MtM (X:Cx) (id:String) (r:V->List V->Hp->VK->Prop):Prop :=
 ∀ (pins:List (Addr×Obj)) (s:Shared) (σ:St) (H:Hp) (x:V) (xs:List V) (v:Value) (us:List Value) (Q:VK),Inv X pins σ H s->RelV x v->Vals xs us->r x xs H Q ->
  wpAny (model X.prog X.w) X.A (call (.builtin id) (v::us)) (EP X pins σ Q) X.xe s
theorem Vals.one {x:V} {us:List Value} (h:Vals [x] us):∃ u,us=[u]/\RelV x u:=by
 cases h with
 | cons r h=>cases h; exact ⟨_,rfl,r⟩
theorem Vals.two {x y:V} {us:List Value} (h:Vals [x,y] us):∃ u v,us=[u,v]/\RelV x u/\RelV y v:=by
 cases h with
 | cons r h=>cases h with
  | cons q h=>cases h; exact ⟨_,_,rfl,r,q⟩
theorem Vals.rep {xs:List V} {us:List Value} (h:Vals xs us):∀ k:Nat,Vals (List.replicate k xs).flatten (List.replicate k us).flatten
 | 0=>.nil
 | k+1=>by
  rw [List.replicate_succ,List.replicate_succ,List.flatten_cons,List.flatten_cons]
  exact Vals.append h (Vals.rep h k)
theorem foldl_rep (its:List Value):∀ (k:Nat) (acc:List Value),
  List.foldl (λx1 x2=>x1++x2) acc.toArray (List.replicate k its.toArray)=(acc++(List.replicate k its).flatten).toArray
 | 0,acc=>by simp
 | k+1,acc=>by
  have e:acc.toArray++its.toArray=(acc++its).toArray:=by simp
  have e2:(acc++its)++(List.replicate k its).flatten=acc++(List.replicate (k+1) its).flatten:=by
   rw [List.replicate_succ,List.flatten_cons,List.append_assoc]
  rw [<- e2,<- foldl_rep its k (acc++its),<- e,List.replicate_succ,List.foldl_cons]
section
variable {X : Cx} {pins : List (Addr × Obj)} {σ : St} {H : Hp} {s : Shared} {l b : Addr} {xs ys zs : List V}
theorem Inv.lset {its its':List Value} {n:Nat} {f:Array Value->Array Value} {t':Nat} (I:Inv X pins σ H s) (hH:H l=some (.lst xs))
  (e:s.heap.get? l=some { cls:=.type "list",data:=.seq its.toArray n }) (hf:f its.toArray=its'.toArray) (hv:Vals ys its') (hz:ys.length<=sizeLine) :
  Inv X pins σ (upd H l (.lst ys)) { s with heap:=s.heap.update l (Obj.mapSeq f),toks:=t' }:=by
 have q:=PySem.IsL.update e f
 rw [hf] at q
 refine I.write (x:=l) (e:=l) (by rw [hH]; exact trivial) (.inl rfl) (λb' u hb hu=>(Heap.get?_update_other s.heap (Obj.mapSeq f) (Ne.symm hb)).trans hu) ⟨_,q⟩ ?_
 exact ⟨hz,its',_,hv,q⟩
theorem Inv.lnew {its:List Value} {t':Nat} (I:Inv X pins σ H s) (hv:Vals ys its) (hz:ys.length<=sizeLine) :
  Inv X pins σ (upd H s.heap.objs.size (.lst ys)) { s with heap:=s.heap.push { cls:=.type "list",data:=.seq its.toArray },toks:=t' } :=
 I.laid (λ_ _ q=>Heap.get?_push_of_some _ q) (Nat.le_refl _) ⟨hz,its,0,hv,Heap.get?_push_size _ rfl⟩
theorem Inv.fresh (I:Inv X pins σ H s):H s.heap.objs.size=none:=I.hok.fresh (Nat.le_refl _)
theorem Inv.lstM (I:Inv X pins σ H s) (hH:H l=some (.lst xs)):xs.length<=sizeLine/\∃ (its:List Value) (n:Nat),Vals xs its/\xs.length=its.length/\s.heap.get? l=some { cls:=.type "list",data:=.seq its.toArray n }:=by
 obtain ⟨z,its,n,r,e⟩:=I.hok l _ hH
 exact ⟨z,its,n,r,r.length,e⟩
theorem notLongL {n:Nat} (h:n<=sizeLine):Builtin.List.listTooLong n=false:=by
 unfold Builtin.List.listTooLong
 exact decide_eq_false (by omega)
end
section
variable {X : Cx}
inductive rAppendR (x:V) (vs:(List V)) (H:Hp) (Q:VK):Prop
 | mk (l xs y:_) (_:x=.ref l) (_:vs=[y]) (_:H l=some (.lst xs)) (_:xs.length<sizeLine) (_:Q .non (upd H l (.lst (xs++[y])))):rAppendR x vs H Q
def rAppend:V->List V->Hp->VK->Prop:=λx vs H Q=>rAppendR x vs H Q
theorem mt_append:MtM X "list.append" rAppend:=by
 intro pins s σ H x vs v us Q I rx rv h
 obtain ⟨l,xs,y,rfl,rfl,hH,hz,q⟩:=h
 cases rx
 obtain ⟨u,rfl,ru⟩:=rv.one
 obtain ⟨z,its,n,r,hl,e⟩:=I.lstM hH
 refine call_meets F.slot_list_append ⟨_,e,rfl⟩ F.entry_list_append (F.args_list_append_2 _ _) (PySem.list_append l its.toArray n u (by rw [List.size_toArray]; omega)) ⟨e,?_⟩
 refine ⟨.non,_,I.lset (its':=its++[u]) hH e (by simp) (r.append (.cons ru .nil)) ?_,rfl,q⟩
 rw [List.length_append,List.length_singleton]
 omega
inductive rCatR (x:V) (y:V) (H:Hp) (Q:VK):Prop
 | mk (l b xs zs:_) (_:x=.ref l) (_:y=.ref b) (_:H l=some (.lst xs)) (_:H b=some (.lst zs)) (_:xs.length+zs.length<=sizeLine) (_:∀ p,H p=none->Q (.ref p) (upd H p (.lst (xs++zs)))):rCatR x y H Q
def rCat:R2:=λx y H Q=>rCatR x y H Q
theorem op_cat:OpR X (binaryOp .Add) rCat:=by
 intro pins s σ H x y v u Q I rx ry h
 obtain ⟨l,b,xs,zs,rfl,rfl,hH,hB,hz,q⟩:=h
 cases rx
 cases ry
 obtain ⟨z,its,n,r,hl,e⟩:=I.lstM hH
 obtain ⟨z2,its2,n2,r2,hl2,e2⟩:=I.lstM hB
 refine PySem.P.add_list e e2 ?_ (by rw [List.size_toArray,List.size_toArray]; omega)
 have ea:its.toArray++its2.toArray=(its++its2).toArray:=by simp
 rw [ea]
 exact ⟨.ref _,_,I.lnew (t':=s.toks) (r.append r2) (by rw [List.length_append]; omega),rfl,q _ I.fresh⟩
inductive rRepR (x:V) (y:V) (H:Hp) (Q:VK):Prop
 | mk (l k xs:_) (_:x=.ref l) (_:y=.int k) (_:H l=some (.lst xs)) (_:-(2 ^ 63)<=k) (_:k<2 ^ 63) (_:xs.length * k.toNat<=sizeLine) (_:∀ p,H p=none->Q (.ref p) (upd H p (.lst (List.replicate k.toNat xs).flatten))):rRepR x y H Q
def rRep:R2:=λx y H Q=>rRepR x y H Q
theorem len_rep {α:Type} (xs:List α) (k:Nat):(List.replicate k xs).flatten.length=k * xs.length:=by
 induction k with
 | zero=>simp
 | succ k ih=>rw [List.replicate_succ,List.flatten_cons,List.length_append,ih,Nat.succ_mul,Nat.add_comm]
theorem op_rep:OpR X (binaryOp .Mult) rRep:=by
 intro pins s σ H x y v u Q I rx ry h
 obtain ⟨l,k,xs,rfl,rfl,hH,h1,h2,hz,q⟩:=h
 cases rx
 obtain ⟨t,rfl⟩:=ry
 obtain ⟨z,its,n,r,hl,e⟩:=I.lstM hH
 have hlen:its.toArray.size * k.toNat<=sizeLine:=by rw [List.size_toArray,<- hl]; exact hz
 have hcap:¬ its.toArray.size * k.toNat > (2 ^ 63 - 1) / 8:=by
  have:(sizeLine:Nat)<=(2 ^ 63 - 1) / 8:=by decide
  omega
 have hfit:¬ (!Builtin.List.listFitsIndex k)=true:=by
  rw [fitsIndex_both h1 h2]
  exact Bool.false_ne_true
 have hlong:¬ Builtin.List.listTooLong (its.toArray.size * k.toNat)=true:=by
  rw [notLongL hlen]
  exact Bool.false_ne_true
 have hnew:List.foldl (λx1 x2=>x1++x2) #[] (List.replicate (if its.toArray.isEmpty=true then 0 else k.toNat) its.toArray)=(List.replicate k.toNat its).flatten.toArray:=by
  have f0:∀ m:Nat,List.foldl (λx1 x2=>x1++x2) #[] (List.replicate m its.toArray)=(List.replicate m its).flatten.toArray:=λm=>by
   have:=foldl_rep its m []
   rw [List.nil_append] at this
   exact this
  rw [f0]
  cases its with
  | nil=>simp
  | cons a r'=>rw [if_neg (by simp)]
 refine wpAny_binaryOp_repeat_ref (T:="list") (U:="int") (by decide) ⟨_,e,rfl⟩ (λs'=>typeIs_int s' k t) noFill_list_mul F.fills_int_mul F.slot_int_rmul repeat_list F.slot_int_index.lookup
  (call_meets F.slot_int_rmul (typeIs_int s k t) F.entry_int_rmul (F.args_int_rmul_2 _ _) (int___rmul___int_list k t l its.toArray n)
   ⟨e,rfl,⟨_,e,rfl⟩,call_meets F.slot_list_mul ⟨_,e,rfl⟩ F.entry_list_mul (F.args_list_mul_2 _ _) (AutoListH.list___mul___list_int_3 l its.toArray n k t hfit hcap hlong) ⟨e,?_⟩⟩)
 rw [hnew]
 exact ⟨.ref _,_,I.lnew (t':=s.toks) (r.rep k.toNat) (by rw [len_rep,Nat.mul_comm]; exact hz),rfl,q _ I.fresh⟩
end
section
variable {prog : Program} {w : World} {A : Around} {E : Value → Shared → Prop} {s : Shared}
set_option maxRecDepth 100000 in
end
section
variable {X : Cx}
end
end L2
namespace Att
open PySem PySem.W PySem.Calls PyProof.Rows
theorem ints_of_wellAll {P:Params} {h:Heap}:∀ (ns:List Int) (vs:List Value),WellAll P h vs (ns.map WData.int)->IntsAre vs ns:=by
 intro ns
 induction ns with
 | nil =>
  intro vs w
  rw [List.map_nil] at w
  cases w
  exact .nil
 | cons n ns ih =>
  intro vs w
  rw [List.map_cons] at w
  cases w with
  | cons a b =>
   cases a
   exact .cons _ _ (ih _ b)
theorem script_of {l:OpenLaw} {n:Nat} (hn:l.most=some n) {P:Params} {h:Heap} {args:List WData} {vals:List Value}
  (hpre:l.row.toRowW.claim.pre args=true) (hwl:WellAll P h vals args) :
  ∃ a vs ns,vals=[Value.ref a]/\args=[WData.list (ns.map WData.int)]/\h.get? a=some { cls:=.type "list",data:=.seq vs.toArray }/\IntsAre vs ns/\ns.length<=n:=by
 have hsh:WShape.hasAll [] args [.list .int]=true:=(pre_splitW hpre).1
 have hc:l.pre.holds [] { args:=args }=true:=(pre_splitW hpre).2
 obtain ⟨d,r,rfl,h1,h2⟩:=hasAllW_cons hsh
 obtain rfl:=hasAllW_nil h2
 obtain ⟨xs,rfl,h3⟩:=hasW_list h1
 obtain ⟨ns,rfl⟩:=items_int h3
 have hlen:ns.length<=n:=by
  unfold OpenLaw.pre at hc
  have h4:(WTm.not (.lt (.lit (.int (n:Int))) (.len (.arg 0)))).holds [] { args:=[.list (ns.map .int)] }=true:=by
   have h4:=(holds_andW hc).1
   rw [hn] at h4
   exact h4
  have h5:=condW_of h4 (w_not (w_lt w_lit (w_len_list (w_arg rfl))))
  rw [List.length_map] at h5
  refine Nat.le_of_not_lt λq=>?_
  have q':(n:Int)<((ns.length:Nat):Int):=by omega
  first
   | (rw [decide_eq_true q'] at h5; exact absurd h5 (by decide))
   | (simp at h5; omega)
 cases hwl with
 | cons w1 w2 =>
  cases w2
  cases w1 with
  | list ho hall=>exact ⟨_,_,ns,rfl,rfl,ho,ints_of_wellAll ns _ hall,hlen⟩
theorem post_true (l:OpenLaw) (args:List WData):l.row.toRowW.claim.post args (.bool true) args=true :=
 postW_of (r:=l.row.toRowW) (X:=(true == true))
  (show WShape.has [] (.bool true) .bool=true by first | rfl | decide | simp [WShape.has,WShape.arms,WShape.armsAll])
  (show (WTm.eq .res (.lit (.bool true))).value [] { args:=args,res:=some (.bool true),after:=args }=some (.bool (true == true)) from w_eq_bool (w_res rfl) w_lit) rfl
theorem attach_call {l:OpenLaw} {n:Nat} {q:Program} {loose:List Str} {XP:(Str->Option Value)->Heap->Prop} {YP:World->Heap->Prop} {d:DefRec}
  (hn:l.most=some n) (hdf:d.params.defaults=[])
  (call:∀ (w:World) (s₀ s₁:Shared) (mg mb:Str->Option Value) (fa:Addr) (o:Obj) (pm cd doc:Value) (a:Addr) (vs:List Value) (ns:List Int),
   Ground q loose [] XP w s₀ mg mb s₁.heap->YP w s₁.heap ->
   s₁.heap.get? fa=some o->o.data=.func (docDef d.name d.params d.body d.scope pm cd doc)->s₁.heap.CodeRec cd d.name->mg d.name=some (.ref fa) ->
   s₁.heap.get? a=some { cls:=.type "list",data:=.seq vs.toArray }->IntsAre vs ns->ns.length<=n->s₁.gens=#[] ->
   codeAny (model l.prog w) callerA (.call (.ref fa) ⟨[.ref a],[]⟩) (λr s'=>r=.ok (.ret (.bool true))/\OldK s₁.heap s'.heap/\s'.os=s₁.os/\AllBare s'.gens) s₁) :
  WalkO q loose XP YP l.row.toRowW d [] (λf vs=>PySem.call f vs):=by
 intro w s₀ s₁ mg mb G Y fa o pm cd doc dV kV ho hd hcd hD hmg hg args vals as hpre hlay hrd hwl hlo
 obtain rfl:dV=.none:=Dflts.none hD hdf
 obtain rfl:kV=.none:=Dflts.noKw hD
 obtain ⟨a,vs,ns,rfl,rfl,hobj,hints,hlen⟩:=script_of hn hpre hwl
 refine enter_call (codeAny_mono (call w s₀ s₁ mg mb fa o pm cd doc a vs ns G Y ho (fd_plain hd) hcd hmg hobj hints hlen hg) λr s' hq=>?_)
 obtain ⟨rfl,h2,h3,h4⟩:=hq
 exact ⟨.inl ⟨.bool true,.bool true,[],rfl,λ_=>rfl,.bool true,post_true l _,λ_=>⟨List.Pairwise.nil,λ_ hm=>(nomatch hm)⟩⟩,h2,h3,h4⟩
section
variable {prog : Program} {w : World} {A : Around} {E : Value → Shared → Prop} {s : Shared} {K : Frag}
end
end Att
namespace L2
open PySem PySem.Spec PyProof.Rows
theorem vals_ints:∀ {vs:List Value} {ns:List Int},IntsAre vs ns->Vals (ns.map V.int) vs
 | _,_,.nil=>.nil
 | _,_,.cons n t h=>.cons ⟨t,rfl⟩ (vals_ints h)
def Only (H:Hp):Prop:=∀ b,H b=none\/∃ o xs,H b=some (.frz o (.lst xs))
theorem law_call {P:Program} {w:World} {K:PySem.W.Frag} {mg mb:Str->Option Value} {CX:CXT} {k:Nat} {fa a:Addr} {fd:FuncData} {x:Str} {sp:Sp} {s₁:Shared} {vs:List Value} {ns:List Int}
  (KX:K.In s₁.heap) (hns:s₁.heap.Ns mainGlobals mg) (hb:s₁.heap.Ns builtinsNs mb) (hbb:∀ x:Str,x≠"__name__"->mb x=bootBuiltins x) (hlim:s₁.heap.NoLimit) (hg:s₁.gens=#[])
  (ha:s₁.heap.get? a=some { cls:=.type "list",data:=.seq vs.toArray }) (hi:IntsAre vs ns) (hl:ns.length<=sizeLine) (hr:Room k callerA)
  (F:∀ base:Heap,K.In base->base.Ns mainGlobals mg->FnOk P w K mg base CX k fa fd [x] sp) (hbind:∀ (s:Shared) (u:Value),BindsTo s fd ⟨[u],[]⟩ [(x,u)])
  (hsp:∀ H:Hp,Only H->SqL K H a (ns.map V.int)->sp [.ref a] H (λv _=>v=.bl true) λ_ _ _=>False)
  (hCX:∀ H e s',CX [] H s₁ (λ_ _ _=>False) e s'->False) :
  codeAny (model P w) callerA (.call (.ref fa) ⟨[.ref a],[]⟩) (λr s'=>r=.ok (.ret (.bool true))/\OldK s₁.heap s'.heap/\s'.os=s₁.os/\AllBare s'.gens) s₁:=by
 have rv:=vals_ints hi
 have lenV:=hi.length
 have core:∀ H:Hp,Only H->SqL K H a (ns.map V.int)->HOk P w H s₁.heap->(∀ b,H b≠none->b=a)->(H a≠none->K.lookup a=none) ->
   codeAny (model P w) callerA (.call (.ref fa) ⟨[.ref a],[]⟩) (λr s'=>r=.ok (.ret (.bool true))/\OldK s₁.heap s'.heap/\s'.os=s₁.os/\AllBare s'.gens) s₁:=by
  intro H hO hS hok hA hK
  have base_of:∀ {b:Addr} {o:Obj},s₁.heap.get? b=some o->H b=none->(hidT s₁.heap H).get? b=some o:=λe n=>hidT_get e n
  have noA:∀ {b:Addr} {o:Obj} {es:Array DictEntry} {ep:Nat},s₁.heap.get? b=some o->o.data=.dict es ep->H b=none:=λ{b o es ep} e d=>by
   cases q:H b with
   | none=>rfl
   | some u =>
    have e':b=a:=hA b (by rw [q]; simp)
    subst e'
    rw [ha] at e; cases e
    have d':Data.seq vs.toArray _=Data.dict es ep:=d
    cases d'
  have nsK:∀ {b:Addr} {m:Str->Option Value},s₁.heap.Ns b m->(hidT s₁.heap H).Ns b m:=λ{b m} ⟨o,es,ep,e,d,r⟩=>⟨o,es,ep,base_of e (noA e d),d,r⟩
  have hKb:K.In (hidT s₁.heap H):=λb o e=>base_of (KX b o e) (by
   cases q:H b with
   | none=>rfl
   | some u =>
    have e':b=a:=hA b (by rw [q]; simp)
    subst e'
    rw [hK (by rw [q]; simp)] at e; cases e)
  have hM:Mod K mg (hidT s₁.heap H):=⟨hKb,nsK hns,⟨mb,nsK hb,hbb⟩,let ⟨mc,h1,h2⟩:=hlim; ⟨mc,nsK h1,h2⟩⟩
  have e0:Env0 P w K mg (hidT s₁.heap H) callerA [] s₁ H:=⟨rfl,hM,λb o e=>of_hidT e,Nat.le_of_eq (hidT_size _ _),trivial,λb hb=>absurd (show b ∈ ([]:List Addr) from hb) (by simp),hok,.of_eq hg⟩
  refine codeAny_mono ((F _ hKb (nsK hns)).run callerA [] s₁ H ⟨[.ref a],[]⟩ [.ref a] [.ref a] _ _ hr e0 (hbind s₁ (.ref a)) (.cons rfl .nil) (hsp H hO hS)) λr s' h=>?_
  cases r with
  | error e=>exact (hCX H e s' h).elim
  | ok fl =>
   cases fl with
   | next=>exact False.elim h
   | brk=>exact False.elim h
   | cont=>exact False.elim h
   | ret u =>
    obtain ⟨v,H',os,bare,un,hok',r',q⟩:=h
    have q':v=.bl true:=q
    subst q'
    obtain rfl:u=Value.bool true:=r'
    refine ⟨rfl,OldK.of_keep λb o e=>?_,os,bare⟩
    cases q:H b with
    | none=>exact un.keep b o e q (by intro z; exact absurd (show b ∈ ([]:List Addr) from z) (by simp)) (by simp)
    | some u =>
     rcases hO b with z | ⟨ob,xs,z⟩
     ·rw [q] at z; cases z
     ·have z2:=un.frzs b ob _ z
      obtain ⟨e1,_⟩:=hok b _ z
      obtain ⟨e2,_⟩:=hok' b _ z2
      rw [e] at e1; cases e1
      exact e2
 cases hk:K.lookup a with
 | some o =>
  have e:=KX a o hk
  rw [ha] at e
  cases e
  refine core (λ_=>none) (λ_=>.inl rfl) (.inr ⟨_,vs.toArray,_,hk,rfl,rfl,rfl,by rw [List.size_toArray,lenV]; exact hl,by simpa using rv⟩) (λb u z=>by have z':(none:Option HO)=some u:=z; cases z') (λb z=>absurd rfl z) λz=>absurd rfl z
 | none =>
  refine core (λb=>if b=a then some (.frz { cls:=.type "list",data:=.seq vs.toArray } (.lst (ns.map V.int))) else none) (λb=>?_) (.inl (.inr ⟨{ cls:=.type "list",data:=.seq vs.toArray },if_pos rfl⟩)) (λb u z=>?_) (λb z=>?_) λ_=>hk
  ·by_cases hb:b=a
   ·exact .inr ⟨_,_,if_pos hb⟩
   ·exact .inl (if_neg hb)
  ·by_cases hb:b=a
   ·have z':=(if_pos hb).symm.trans z
    cases z'
    subst hb
    exact ⟨ha,by rw [List.length_map]; exact hl,vs,_,rv,ha⟩
   ·have z':=(if_neg hb).symm.trans z
    cases z'
  ·by_cases hb:b=a
   ·exact hb
   ·exact absurd (if_neg hb) z
end L2
namespace L2
open PySem PySem.Spec PyProof.Rows
theorem walk_of {l:PySem.W.OpenLaw} {n k:Nat} {q:Program} {loose:List Str} {XP:(Str->Option Value)->Heap->Prop} {YP:World->Heap->Prop} {d:DefRec} {K:Params->PySem.W.Frag} {CX:World->CXT} {sp:World->Sp} {x:Str}
  (hn:l.most=some n) (hn2:n<=sizeLine) (hdf:d.params.defaults=[]) (hr:Room k callerA)
  (hY:∀ (w:World) (h:Heap),YP w h->(K w.params).In h)
  (F:∀ (w:World) (mg:Str->Option Value) (fa:Addr) (h:Heap),(K w.params).In h->h.Ns mainGlobals mg->mg d.name=some (.ref fa) ->
   ∃ fd:FuncData,(∀ (s:Shared) (u:Value),BindsTo s fd ⟨[u],[]⟩ [(x,u)]) /\
    ∀ base:Heap,(K w.params).In base->base.Ns mainGlobals mg->FnOk l.prog w (K w.params) mg base (CX w) k fa fd [x] (sp w))
  (hsp:∀ (w:World) (H:Hp) (a:Addr) (ns:List Int),ns.length<=n->Only H->SqL (K w.params) H a (ns.map V.int)->sp w [.ref a] H (λv _=>v=.bl true) λ_ _ _=>False)
  (hCX:∀ (w:World) (H:Hp) (s:Shared) (e:Value) (s':Shared),CX w [] H s (λ_ _ _=>False) e s'->False) :
  PySem.W.WalkO q loose XP YP l.row.toRowW d [] (λf vs=>PySem.call f vs):=by
 refine Att.attach_call hn hdf λw s₀ s₁ mg mb fa o pm cd doc a vs ns G Y ho hd hcd hmg hobj hints hlen hg=>?_
 have KX:=hY w _ Y
 obtain ⟨fd,hb,hF⟩:=F w mg fa _ KX G.T.g hmg
 exact law_call KX G.T.g G.T.b G.T.builtins G.T.nolimit hg hobj hints (Nat.le_trans hlen hn2) hr hF hb (λH hO hS=>hsp w H a ns hlen hO hS) λH e s'=>hCX w H s₁ e s'
end L2
namespace L2
open PySem PySem.Spec PyProof.Rows
abbrev CX0:CXT:=λ_ _ _ _ _ _=>False
abbrev E0:XK:=λ_ _ _=>False
theorem pass0 {X:Cx}:Passes CX0 X E0:=λ_ _ _ _ _ _ _ h=>h.elim
structure Fun (K:PySem.W.Frag) (x qual:Str) (st:Stmt) (f:Addr) (fd:FuncData):Prop where
 ex:∃ (oc:Value) (od:Option Addr) (kV doc pm:Value) (an:Option Addr) (cdv ct:Value) (osl:Array (Option Value)),
  fd=PySem.W.fnOf x qual (defArgs st) (defBody st) (defScope st) .none kV doc pm an cdv ct/\K.lookup f=some ⟨oc,od,.func fd,osl⟩/\PySem.W.codeIn K cdv qual=true
 kp:PySem.W.keepIn K (.ref f)=true
section
variable {P : Program} {w : World} {K : PySem.W.Frag} {mg : Str → Option Value} {base : Heap}
theorem Fun.ok {x qual:Str} {st:Stmt} {f:Addr} {fd:FuncData} {N ps:List Str} {k:Nat} {sp:Sp} (F:Fun K x qual st f fd) (S:FnScope N ps (defScope st)) (len:∀ vs H Q E,sp vs H Q E->vs.length=ps.length)
  (hbody:∀ (cdv:Value) (A:Around) (outer:List Env) (s:Shared) (H:Hp) (vs:List V) (Q:VK) (E:XK),Room k (A.deeper (envOfC qual (defScope st) s.heap.objs.size f cdv))->sp vs H Q E ->
   ∃ t,PSs (cxOf CX0 P w K mg base N qual (defScope st) f cdv A outer s H E).nox (defBody st) t/\t { nx:=λ_ H'=>Q .non H',rt:=Q } (start N vs) H):FnOk P w K mg base CX0 (k+1) f fd ps sp:=by
 obtain ⟨oc,od,kV,doc,pm,an,cdv,ct,osl,rfl,lk,hcd⟩:=F.ex
 refine fn_of lk hcd S len λA outer s H vs Q E hr hsp=>?_
 obtain ⟨t,h,q⟩:=hbody cdv A outer s H vs Q E hr hsp
 exact ⟨t,h.nox,q⟩
theorem Fun.binds {x qual:Str} {st:Stmt} {f:Addr} {fd:FuncData} {ps:List Str} (F:Fun K x qual st f fd)
  (h:∀ (kV doc pm:Value) (an:Option Addr) (cdv ct:Value) (us:List Value),us.length=ps.length->bindArgs (PySem.W.fnOf x qual (defArgs st) (defBody st) (defScope st) .none kV doc pm an cdv ct) ⟨us,[]⟩=pure (ps.zip us)):Binds K fd ps []:=by
 obtain ⟨oc,od,kV,doc,pm,an,cdv,ct,osl,rfl,lk,hcd⟩:=F.ex
 exact .all (h kV doc pm an cdv ct)
theorem fun_mk {x qual:Str} {st:Stmt} {f:Addr} {oc:Value} {od an:Option Addr} {osl:Array (Option Value)} {kV doc pm cdv ct:Value} (l:K.lookup f=some ⟨oc,od,.func (PySem.W.fnOf x qual (defArgs st) (defBody st) (defScope st) .none kV doc pm an cdv ct),osl⟩)
  (c:PySem.W.codeIn K cdv qual=true) (k:PySem.W.keepIn K (.ref f)=true):Fun K x qual st f (PySem.W.fnOf x qual (defArgs st) (defBody st) (defScope st) .none kV doc pm an cdv ct):=⟨⟨oc,od,kV,doc,pm,an,cdv,ct,osl,rfl,l,c⟩,k⟩
end
section
variable {X : Cx}
theorem pv (i:Nat) {x:Str} {pos:Pos} (hN:X.N[i]?=some x:=by rfl) (hv:Vis X.env.scope x:=by first | exact Or.inl rfl | exact Or.inr (Or.inl rfl) | exact Or.inr (Or.inr rfl)) (hd:(x == ("__debug__":Str))=false:=by decide)
  (hcd:(x == ("__classdict__":Str))=false:=by decide):PE X (.Name x pos) (tVar i):=pe_var hN hv hd hcd
end
theorem iteF {A B:Prop} (h:B):if false=true then A else B:=by
 rw [if_neg Bool.false_ne_true]
 exact h
theorem iteT {A B:Prop} (h:A):if true=true then A else B:=by
 rw [if_pos rfl]
 exact h
theorem ite2 {c A B:Prop} [Decidable c] (h1:c->A) (h2:¬ c->B):if c then A else B:=by
 by_cases h:c
 ·rw [if_pos h]
  exact h1 h
 ·rw [if_neg h]
  exact h2 h
def Same (H H':Hp):Prop:=∀ b o,H b=some o->H' b=some o
theorem Same.refl (H:Hp):Same H H:=λ_ _ h=>h
theorem Same.trans {H H1 H2:Hp} (a:Same H H1) (b:Same H1 H2):Same H H2:=λc o h=>b c o (a c o h)
theorem Same.free {H H':Hp} (e:Same H H') {l:Addr} (h:H' l=Option.none):H l=Option.none:=by
 cases q:H l with
 | none=>rfl
 | some o =>
  rw [e l o q] at h
  cases h
theorem Same.seq {K:PySem.W.Frag} {H H':Hp} {a:Addr} {xs:List V} (e:Same H H') (h:SqL K H a xs):SqL K H' a xs:=by
 rcases h with (h | ⟨o,h⟩) | h
 ·exact .inl (.inl (e _ _ h))
 ·exact .inl (.inr ⟨o,e _ _ h⟩)
 ·exact .inr h
end L2
end
section
namespace L2
open PySem
abbrev xo (C t:Addr) (od:Option Addr):Obj:={ cls:=.ref C,dict:=od,data:=.fields #[.ref t,.none,.none,.none,.bool false,.none] }
section
variable {prog : Program} {w : World} {A : Around} {E : Value → Shared → Prop} {h : Heap} {g : Array GenState} {d : Drawn} {tk : Nat} {os : OsState}
variable {nm q : Str} {C N fI : Addr} {bs bm bmB : List Value} {hdct : Bool} {sn : List Str} {sub : List Value} {ab : Bool} {col : Option Bool} {dd : Option Addr} {k0 k1 k2 k3 k5 : Option Value} {B newId initId : String}
 {mN:Str->Option Value} {rest:List Value} {oI:Obj}
theorem tcall_init (F:ExcBaseFacts B newId initId bmB) (T:OwnTail h bmB bm) {Q:Fin->Shared->Prop}
  (hC:h.get? C=some (excClassObj nm q C N bs bm hdct sn sub ab col dd k0 k1 k2 k3 k5 newId))
  (hn:h.Ns N mN) (hi:mN "__init__"=some (.ref fI)) (hfI:h.get? fI=some oI) (hfc:oI.cls=.type "function")
  (hq:∀ h' e,Heap.MadeExcOf h h' e (.ref C) rest->wpAny (model prog w) A (call (.ref fI) (.ref e::rest)) (λr s'=>r=.none/\Q (.done (.ret (.ref e))) s') E ⟨h',g,d,tk,os⟩)
  (hrest:rest.length<=sizeLine):wpAny (model prog w) A (Builtin.«type.__call__» ⟨.ref C::rest,[]⟩) Q E ⟨h,g,d,tk,os⟩:=by
 repeat (first
  | with_reducible refine wpAny_loadPart_at hC ?_
  | with_reducible refine wpAny_madeBy_exc hC ?_
  | wp_step)
 refine codeAny_call_builtin_code (Code.quiet_builtin _ F.quiet) (wpAny_check_new_subT F T hC (codeAny_exc_new_subT F T hC ?_ hrest))
 show wpAny _ _ _ _ _ _
 let tu:Obj:={ cls:=.type "tuple",data:=.seq rest.toArray }
 let h2:Heap:=(h.push tu).push (xo C h.objs.size none)
 have up:∀ b o,h.get? b=some o->h2.get? b=some o:=λb o z=>Heap.get?_push_of_some _ (Heap.get?_push_of_some _ z)
 have hget:h2.get? (h.objs.size+1)=some (xo C h.objs.size none):=by heap_get
 have hC2:=up _ _ hC
 have hn2:h2.Ns N mN:=by
  obtain ⟨o,es,ep,z,r⟩:=hn
  exact ⟨o,es,ep,up _ _ z,r⟩
 have T2:=T.keeps (h':=h2) up
 have hcC:(Value.ref C::bm).contains (.ref C)=true:=by simp
 show wpAny _ _ _ _ _ ⟨h2,g,d,tk,os⟩
 unfold isInstance
 repeat (first
  | with_reducible refine wpAny_loadPart_at hget ?_
  | (with_reducible refine wpAny_isSubtype_exc hC2 ?_; rw [hcC])
  | wp_step)
 show wpAny _ _ (typeLookup (.ref C) _) _ _ _
 refine wpAny_typeLookup_tail hC2 hn2 T2 F.mroIs F.init.lookup ?_
 rw [hi]
 refine wpAny_holding (wpAny_bind ?_)
 unfold bindSpecial
 refine wpAny_bind (wpAny_typeOf (T:="function") ⟨_,up _ _ hfI,hfc⟩ ?_)
 rw [if_pos (by decide)]
 have M:Heap.MadeExcOf h h2 (h.objs.size+1) (.ref C) rest:=by
  refine ⟨up,Heap.get?_none_of_le (Nat.le_succ _),h.objs.size,hget,Heap.get?_none_of_le (Nat.le_refl _),?_⟩
  exact Heap.get?_push_of_some _ (Heap.get?_push_at rfl rfl)
 refine wpAny_pure (wpAny_bind (wpAny_mono (hq _ _ M) (λr s' hr=>?_) λ_ _ z=>z))
 obtain ⟨rfl,hQ⟩:=hr
 wp_walk
 exact hQ
theorem call_init (F:ExcBaseFacts B newId initId bmB) (T:OwnTail h bmB bm) {Q:Value->Shared->Prop}
  (hC:h.get? C=some (excClassObj nm q C N bs bm hdct sn sub ab col dd k0 k1 k2 k3 k5 newId))
  (hn:h.Ns N mN) (hi:mN "__init__"=some (.ref fI)) (hfI:h.get? fI=some oI) (hfc:oI.cls=.type "function")
  (hq:∀ h' e,Heap.MadeExcOf h h' e (.ref C) rest ->
   wpAny (model prog w) (A.under (.builtin "type.__call__" ⟨.ref C::rest,[]⟩)) (call (.ref fI) (.ref e::rest)) (λr s'=>r=.none/\Q (.ref e) s') E ⟨h',g,d,tk,os⟩)
  (hrest:rest.length<=sizeLine):wpAny (model prog w) A (call (.ref C) rest) Q E ⟨h,g,d,tk,os⟩:=by
 have e1:=tc_lookup
 have e2:=tc_bind (.ref C)
 have e3:(⟨h,g,d,tk,os⟩:Shared).TypeIs (.ref C) "type":=⟨_,hC,rfl⟩
 refine wpAny_call (codeAny_of_tree ?_)
 show wpAny _ _ (callAny (.ref C) _) _ _ _
 repeat (any_goals (first
  | assumption
  | with_reducible refine wpAny_loadPart_at hC ?_
  | wp_step))
 refine ⟨rfl,codeAny_call_builtin_at (Code.quiet_builtin _ (by decide +kernel)) entry_typeCall (wpAny_check_type_call_sub hC ?_)⟩
 exact tcall_init F T hC hn hi hfI hfc (λh' e hm=>hq h' e hm) hrest
end
section
variable {prog : Program} {w : World} {M : Model} {A : Around} {E : Value → Shared → Prop} {s : Shared} {env : Env}
variable {nm q : Str} {C N fI : Addr} {bs bm bmB : List Value} {hdct : Bool} {sn : List Str} {sub : List Value} {ab : Bool} {col : Option Bool} {dd : Option Addr} {k0 k1 k2 k3 k5 : Option Value} {B newId initId : String}
theorem raiseStmt_of {x:Sem Value} {Q:Flow->Shared->Prop} (hbase:bm.contains (.type "BaseException")=true) (hh:A.handled=none)
  (h:wpAny M A x (λv s₁=>∃ e t od,v=.ref e/\s₁.heap.get? C=some (excClassObj nm q C N bs bm hdct sn sub ab col dd k0 k1 k2 k3 k5 newId)/\s₁.heap.get? e=some (xo C t od)/\E (.ref e) s₁) E s) :
  wpAny M A (raiseStmt env (some x) none) Q E s:=by
 have hcB:(Value.ref C::bm).contains (.type "BaseException")=true:=by rw [List.contains_cons,hbase,Bool.or_true]
 unfold raiseStmt
 refine wpAny_bind (wpAny_mono h (λv s₁ h₁=>?_) λ_ _ z=>z)
 obtain ⟨e,t,od,rfl,hC,he,hE⟩:=h₁
 obtain ⟨hp,g,d,tk,os⟩:=s₁
 repeat (first
  | with_reducible refine wpAny_loadPart_at he ?_
  | with_reducible refine wpAny_loadPart_at hC ?_
  | (with_reducible refine wpAny_isSubtype_exc hC ?_; rw [hcB])
  | wp_step)
 exact wpAny_raiseNew_none hh hE
theorem Raise_init (F:ExcBaseFacts B newId initId bmB) {mN:Str->Option Value} {x:Str} {np cpos pos:Pos} {args:List Expr} {Q:Flow->Shared->Prop}
  (hbase:bm.contains (.type "BaseException")=true) (hh:A.handled=none) (hplain:(backTo cpos (starEach args env)).any (·.1)=false) (hi:mN "__init__"=some (.ref fI))
  (h:wpAny (model prog w) A (eval (.Name x np) env) (λf s₁=>f=.ref C/\wpAny (model prog w) A (evalArgs (.ref C) true (backTo cpos (starEach args env)) [])
   (λa s₂=>a.kw=[]/\a.pos.length<=sizeLine/\s₂.heap.get? C=some (excClassObj nm q C N bs bm hdct sn sub ab col dd k0 k1 k2 k3 k5 newId)/\s₂.heap.Ns N mN/\OwnTail s₂.heap bmB bm/\(∃ oI,s₂.heap.get? fI=some oI/\oI.cls=.type "function") /\
    ∀ h' e,Heap.MadeExcOf s₂.heap h' e (.ref C) a.pos->wpAny (model prog w) (A.under (.builtin "type.__call__" ⟨.ref C::a.pos,[]⟩)) (call (.ref fI) (.ref e::a.pos))
     (λr s'=>r=.none/\s'.heap.get? C=some (excClassObj nm q C N bs bm hdct sn sub ab col dd k0 k1 k2 k3 k5 newId)/\(∃ t od,s'.heap.get? e=some (xo C t od))/\E (.ref e) s') E { s₂ with heap:=h' }) E s₁) E s) :
  wpAny (model prog w) A (exec (.Raise (some (.Call (.Name x np) args [] cpos)) none pos) env) Q E s:=by
 rw [arm_exec_Raise]
 simp only [evalOpt,Option.map]
 refine wpAny_bind (wpAny_standAt (raiseStmt_of (C:=C) (nm:=nm) (q:=q) (N:=N) (bs:=bs) (bm:=bm) (hdct:=hdct) (sn:=sn) (sub:=sub) (ab:=ab) (col:=col) (dd:=dd) (k0:=k0) (k1:=k1) (k2:=k2) (k3:=k3) (k5:=k5) (newId:=newId) hbase hh ?_))
 refine wpAny_bind (wpAny_mono (wpAny_Call_ofName (wpAny_mono h (λf s₁ h₁=>?_) λ_ _ z=>z)) (λv s₃ h₃=>wpAny_bind (wpAny_standAt (wpAny_pure h₃))) λ_ _ z=>z)
 obtain ⟨rfl,h₁⟩:=h₁
 unfold callWith
 refine wpAny_bind (wpAny_holding (wpAny_mono h₁ (λa s₂ h₂=>wpAny_bind (wpAny_standAt ?_)) λ_ _ z=>z))
 obtain ⟨apos,akw⟩:=a
 obtain ⟨hkw,hlen,hC,hn,T,⟨oI,hfI,hfc⟩,h₂⟩:=h₂
 obtain rfl:akw=[]:=hkw
 obtain ⟨hp,g,d,tk,os⟩:=s₂
 simp only [hplain]
 refine wpAny_bind (wpAny_keeperOf_exc hC ?_)
 refine wpAny_bind (call_init F T hC hn hi hfI hfc (λh' e hm=>wpAny_mono (h₂ h' e hm) (λr s' z=>⟨z.1,?_⟩) λ_ _ z=>z) hlen)
 obtain ⟨_,zC,⟨t,od,ze⟩,zE⟩:=z
 exact wpAny_bind (wpAny_holding (wpAny_point (wpAny_pure ⟨e,t,od,rfl,zC,ze,zE⟩)))
end
end L2
end
section
namespace L2
open PySem
section
variable {M : Model} {A : Around} {E : Value → Shared → Prop} {s : Shared} {base : Heap} {env : Env} {outer l : List Env} {L e : Addr} {cls a0 fl : Value} {od : Option Addr}
def Dc (h:Heap) (e:Addr) (od:Option Addr):Prop:=∃ o,h.get? e=some o/\o.dict=od
theorem dict_mapFields (o:Obj) (f:Array Value->Array Value):(Obj.mapFields f o).dict=o.dict:=by
 unfold Obj.mapFields
 split <;> rfl
theorem upd_other {h:Heap} {T b:Addr} {f:Obj->Obj} (n:b≠T):(h.update T f).get? b=h.get? b:=Heap.get?_update_other _ _ (Ne.symm n)
theorem Dc.upd {h:Heap} {T:Addr} {oT:Obj} {ts:Array Value} {f:Array Value->Array Value} (x:Dc h e od) (hT:h.get? T=some oT) (hd:oT.data=.fields ts):Dc (h.update T (Obj.mapFields f)) e od:=by
 obtain ⟨o,ho,hod⟩:=x
 by_cases n:e=T
 ·subst n
  rw [hT] at ho
  cases ho
  exact ⟨_,Heap.get?_update_self _ hT (Obj.isFreed_of_fields (Obj.data_mapFields hd f)),(dict_mapFields _ _).trans hod⟩
 ·exact ⟨o,(upd_other n).trans ho,hod⟩
theorem entryD {oe:Obj} {vs:Array Value} {head:Value} {hadNext:Bool} {Q:Unit->Shared->Prop} (hfr:A.frames=some (env::outer)) (hl:s.heap.FunFrames base (env::outer)) (hf:env.frame=some L)
  (he:s.heap.get? e=some oe) (hkb:base.StaysIn s.heap) (hen:base.get? e=none) (hd:oe.data=.fields vs) (hsz:1<vs.size) (h0:vs[0]?=some a0)
  (k:∀ h',Heap.NotedW base (env::outer) e oe.cls a0 (rawInt L) s.heap h'->Dc h' e oe.dict->Q () { s with heap:=h' }) :
  wpAny M A (do
   let a <- frameOf env
   let pl <- entryPlaceOf L hadNext
   let b <- EntryCells.newEntry head a .none (rawInt L) .none pl
   setField (.ref e) 1 b) Q E s:=by
 have nin:e ∉ (env::outer).filterMap (·.frame):=λhm=>by
  obtain ⟨_,o,ho,hnf⟩:=hl.mem hm
  rw [he] at ho
  cases ho
  exact hnf vs hd
 refine wpAny_bind (wpAny_frameOf_fun hfr hl hf λh1 hs1=>wpAny_bind (wpAny_entryPlaceOf λpl hpl=>?_))
 unfold EntryCells.newEntry newFields
 refine wpAny_bind (wpAny_newObj_type ?_ (hpl.sizeOk5 _ _ _ _ _))
 generalize htb:([head,.ref L,.none,rawInt L,.none]++(if pl.isEmpty then List.replicate 6 Value.none else pl))=tb
 have h3:tb.toArray[3]?=some (rawInt L):=by rw [<- htb]; simp
 have e1:h1.get? e=some oe:=(hs1.2.1 e nin).trans he
 have b1:base.StaysIn h1:=λb o z=>(hs1.2.1 b λhm=>by rw [(hl.mem hm).1] at z; cases z).trans (hkb b o z)
 have pu:∀ b o,h1.get? b=some o->(h1.push { cls:=.type "traceback",dict:=none,data:=.fields tb.toArray }).get? b=some o:=λb o z=>Heap.get?_push_of_some _ z
 have hT:(h1.push { cls:=.type "traceback",dict:=none,data:=.fields tb.toArray }).get? h1.objs.size=some { cls:=.type "traceback",dict:=none,data:=.fields tb.toArray }:=Heap.get?_push_size h1 rfl
 have fr:base.get? h1.objs.size=none:=b1.fresh
 have nT:h1.objs.size≠e:=Nat.ne_of_gt (Heap.lt_size e1)
 have lt:∀ b o,h1.get? b=some o->b≠h1.objs.size:=λb o z=>Nat.ne_of_lt (Heap.lt_size z)
 refine wpAny_setField (pu _ _ e1) hd hsz ?_
 have e2:=pu _ _ e1
 generalize h1.push { cls:=.type "traceback",dict:=none,data:=.fields tb.toArray }=h2 at *
 generalize h1.objs.size=T at *
 have d3:=Obj.data_mapFields hd (·.setIfInBounds 1 (Value.ref T))
 have e3:=Heap.get?_update_self (Obj.mapFields (·.setIfInBounds 1 (Value.ref T))) e2 (Obj.isFreed_of_fields d3)
 have noR:∀ b o,s.heap.get? b=some o->(∀ ws,o.data≠.fields ws)->b≠e:=λb o z hnf y=>by
  rw [y,he] at z
  cases z
  exact hnf vs hd
 refine k _ ⟨λb o z=>?_,hl.of_keeps λb o z hnf=>?_,?_,λb o z hnf=>?_⟩ ⟨_,e3,dict_mapFields _ _⟩
 ·rw [upd_other (λy=>by rw [y,hen] at z; cases z)]
  exact pu _ _ (b1 b o z)
 ·obtain ⟨sl,y⟩:=hs1.2.2 b o z
  exact ⟨_,(upd_other (noR b o z hnf)).trans (pu _ _ y),rfl⟩
 ·exact ⟨_,_,T,_,_,e3,⟨Obj.cls_mapFields _ _,by rw [Array.getElem?_setIfInBounds_ne (by decide)]; exact h0⟩,d3,by simp [hsz],fr,nT,(upd_other nT).trans hT,rfl,h3⟩
 ·obtain ⟨sl,y⟩:=hs1.2.2 b o z
  exact ⟨sl,(upd_other (noR b o z hnf)).trans (pu _ _ y)⟩
theorem landD {Q:Unit->Shared->Prop} (hkb:base.StaysIn s.heap) (hl:s.heap.FunFrames base l) (ht:s.heap.TracedAtW base e cls a0 fl) (hc:Dc s.heap e od)
  (k:∀ h',base.StaysIn h'->h'.FunFrames base l->h'.TracedW base e cls a0->s.heap.UpToSlots h'->Dc h' e od->Q () { s with heap:=h' }):wpAny M A (setFlight (.ref e) none) Q E s:=by
 obtain ⟨oe,vs,T,oT,ts,he,hcls,hd,h1,hnT,hTe,hT,hdT,h3⟩:=ht
 have z3:3<ts.size:=(Array.getElem?_eq_some_iff.mp h3).1
 have noR:∀ b o,s.heap.get? b=some o->(∀ ws,o.data≠.fields ws)->b≠T:=λb o z hnf y=>by
  rw [y,hT] at z
  cases z
  exact hnf ts hdT
 unfold setFlight
 refine wpAny_bind (wpAny_field he hd h1 ?_)
 rw [if_pos (show (Value.ref T != Value.none)=true from by simp)]
 refine wpAny_setField hT hdT z3 (k _ (λb o z=>?_) (hl.of_keeps λb o z hnf=>⟨o,(upd_other (noR b o z hnf)).trans z,rfl⟩) ?_ (λb o z hnf=>⟨o.slots,(upd_other (noR b o z hnf)).trans z⟩) (hc.upd hT hdT))
 ·rw [upd_other (λy=>by rw [y,hnT] at z; cases z)]
  exact hkb b o z
 ·exact ⟨oe,vs,T,_,_,(upd_other (Ne.symm hTe)).trans he,hcls,hd,h1,hnT,hTe,Heap.get?_update_self _ hT (Obj.isFreed_of_fields (Obj.data_mapFields hdT _)),Obj.data_mapFields hdT _,by simp [z3]⟩
theorem noteD {Q:Unit->Shared->Prop} (hfr:A.frames=some (env::outer)) (hf:env.frame=some L) (x:Heap.FlyingW base (env::outer) e cls a0 s.heap) (hc:Dc s.heap e od)
  (k:∀ h',Heap.HeldW base (env::outer) e cls a0 L h'->s.heap.UpToSlots h'->Dc h' e od->Q () { s with heap:=h' }):wpAny M A (noteFrame (.ref e) env) Q E s:=by
 obtain ⟨hkb,hen,hl,oe,vs,T,oT,ts,he,⟨hcls,h0⟩,hd,h1,hnT,hTe,hT,hdT,h3⟩:=x
 subst hcls
 unfold noteFrame
 simp only [hf]
 refine wpAny_bind (wpAny_field he hd h1 ?_)
 rw [if_pos (show (Value.ref T != Value.none)=true from by simp)]
 refine wpAny_bind (wpAny_field hT hdT h3 ?_)
 rw [if_neg (show ¬ ((Value.none == rawInt L)=true) from by simp [rawInt])]
 have noR:∀ b o,s.heap.get? b=some o->(∀ ws,o.data≠.fields ws)->b≠T:=λb o z hnf y=>by
  rw [y,hT] at z
  cases z
  exact hnf ts hdT
 have hod:oe.dict=od:=by
  obtain ⟨o,ho,q⟩:=hc
  rw [he] at ho
  cases ho
  exact q
 refine wpAny_bind (wpAny_setField hT hdT (Array.getElem?_eq_some_iff.mp h3).1 ?_)
 refine entryD hfr (hl.of_keeps λb o z hnf=>⟨o,(upd_other (noR b o z hnf)).trans z,rfl⟩) hf ((upd_other (Ne.symm hTe)).trans he) (λb o z=>?_) hen hd (Array.getElem?_eq_some_iff.mp h1).1 h0 λh' N D=>?_
 ·rw [upd_other (λy=>by rw [y,hnT] at z; cases z)]
  exact hkb b o z
 ·obtain ⟨x1,x2,x3,x4⟩:=N
  exact k h' ⟨x1,hen,x2,x3⟩ (λb o z hnf=>x4 b o ((upd_other (noR b o z hnf)).trans z) hnf) (hod ▸ D)
theorem landsD {Q:Unit->Shared->Prop} (x:Heap.HeldW base l e cls a0 L s.heap) (hc:Dc s.heap e od)
  (k:∀ h',Heap.FlyingW base l e cls a0 h'->s.heap.UpToSlots h'->Dc h' e od->Q () { s with heap:=h' }):wpAny M A (setFlight (.ref e) none) Q E s:=by
 obtain ⟨f1,f2,f3,f4⟩:=x
 exact landD f1 f3 f4 hc λh' k1 k2 k3 k4 k5=>k h' ⟨k1,f2,k2,k3⟩ k4 k5
theorem againD {Q:Unit->Shared->Prop} (x:Heap.FlyingW base l e cls a0 s.heap) (hc:Dc s.heap e od)
  (k:∀ h',Heap.FlyingW base l e cls a0 h'->s.heap.UpToSlots h'->Dc h' e od->Q () { s with heap:=h' }):wpAny M A (setFlight (.ref e) none) Q E s:=by
 obtain ⟨f1,f2,f3,f4⟩:=x
 exact landD f1 f3 f4.at hc λh' k1 k2 k3 k4 k5=>k h' ⟨k1,f2,k2,k3⟩ k4 k5
theorem leavesD {Q:Unit->Shared->Prop} (hfr:A.frames=some (env::outer)) (hf:env.frame=some L) (x:Heap.FlyingW base (env::outer) e cls a0 s.heap) (hc:Dc s.heap e od)
  (k:∀ h',Heap.FlyingW base outer e cls a0 h'->s.heap.UpToSlots h'->Dc h' e od->Q () { s with heap:=h' }):wpAny M A (leaving env (.ref e)) Q E s:=by
 unfold leaving
 refine wpAny_bind (noteD hfr hf x hc λh1 H1 u1 c1=>landsD (s:={ s with heap:=h1 }) H1 c1 λh2 F2 u2 c2=>?_)
 obtain ⟨g1,g2,⟨_,_,g3⟩,g4⟩:=F2
 exact k h2 ⟨g1,g2,g3,g4⟩ (u1.trans u2) c2
theorem firstD {C t:Addr} {Q:Unit->Shared->Prop} (hfr:A.frames=some (env::outer)) (hf:env.frame=some L) (hkb:base.StaysIn s.heap) (hen:base.get? e=none) (hl:s.heap.FunFrames base (env::outer)) (he:s.heap.get? e=some (xo C t od))
  (k:∀ h',Heap.FlyingW base outer e (.ref C) (.ref t) h'->s.heap.UpToSlots h'->Dc h' e od->Q () { s with heap:=h' }):wpAny M A (leaving env (.ref e)) Q E s:=by
 unfold leaving noteFrame
 simp only [hf]
 refine wpAny_bind (wpAny_bind (wpAny_field he rfl (x:=.none) rfl ?_))
 rw [if_neg (by decide)]
 refine entryD (a0:=.ref t) hfr hl hf he hkb hen rfl (by show (1:Nat)<6; decide) rfl λh1 N D=>?_
 obtain ⟨x1,x2,x3,x4⟩:=N
 refine landD (s:={ s with heap:=h1 }) x1 x2 x3 D λh2 k1 k2 k3 k4 k5=>?_
 obtain ⟨_,_,k2⟩:=k2
 exact k h2 ⟨k1,hen,k2,k3⟩ (Heap.UpToSlots.trans x4 k4) k5
end
end L2
end
section
namespace L2
open PySem PySem.Spec PyProof.Rows
def VB:List Value:=[.type "ValueError",.type "Exception",.type "BaseException",.type "object"]
def nsPlain (K:PySem.W.Frag) (N:Addr):Bool:=match K.lookup N with
 | some ⟨_,_,.dict es _,_⟩=>es.toList.all λe=>match e.key with | .str _ _=>true | _=>false
 | _=>false
def noInit (K:PySem.W.Frag) (N:Addr):Bool:=nsPlain K N && (match PySem.W.nsIn K N "__init__" with | some none=>true | _=>false)
theorem noInit_ns {K:PySem.W.Frag} {N:Addr} {h₀:Heap} (X₀:K.In h₀) (e:noInit K N=true):∃ mN:Str->Option Value,mN "__init__"=none/\∀ h:Heap,K.In h->h.Ns N mN:=by
 unfold noInit at e
 simp only [Bool.and_eq_true] at e
 obtain ⟨e1,e2⟩:=e
 unfold nsPlain at e1
 split at e1
 ·rename_i c d es ep sl hl
  have sk:StrKeys es:=λen hen=>by
   have q:=(List.all_eq_true.mp e1) en (by simpa using hen)
   split at q
   ·rename_i n t hk
    exact ⟨n,t,hk⟩
   ·cases q
  have hN:∀ h:Heap,K.In h->h.Ns N (nsFind es):=λh X=>⟨_,es,ep,X _ _ hl,rfl,sk,λ_=>rfl⟩
  refine ⟨nsFind es,?_,hN⟩
  split at e2
  ·rename_i q
   exact PySem.W.ns_none_of X₀ (hN h₀ X₀) q
  ·cases e2
 ·cases e1
def tailOk (K:PySem.W.Frag):List Value->Bool
 | []=>false
 | v::tl=>match v with
  | .ref A=>(match K.lookup A with | some ⟨_,_,.cls cd,_⟩=>noInit K cd.ns | _=>false) && tailOk K tl
  | _=>(v::tl) == VB
theorem tail_own {K:PySem.W.Frag} {h₀:Heap} (X₀:K.In h₀):∀ {l:List Value},tailOk K l=true->∀ h:Heap,K.In h->OwnTail h VB l
 | [],e,_,_=>by cases e
 | v::tl,e,h,X=>by
  unfold tailOk at e
  split at e
  ·rename_i A
   simp only [Bool.and_eq_true] at e
   obtain ⟨e1,e2⟩:=e
   split at e1
   ·rename_i c0 dd cd sl hl
    obtain ⟨mN,hi,hN⟩:=noInit_ns X₀ e1
    exact .own (X _ _ hl) (hN h X) hi (tail_own X₀ e2 h X)
   ·cases e1
  ·rw [beq_iff_eq.mp e]
   exact .base
def excIn (K:PySem.W.Frag) (C:Addr):Bool:=match K.lookup C with
 | some ⟨.type "type",_,.cls cd,sl⟩=>(match cd.mro,sl.toList with
  | .ref C'::bm,[_,_,_,_,some (.builtin n),_]=>C' == C && !cd.hasDel && n == "ValueError.__new__" && noInit K cd.ns && tailOk K bm
  | _,_=>false)
 | _=>false
theorem excIn_obj {K:PySem.W.Frag} {h₀:Heap} {C:Addr} (X₀:K.In h₀) (q:excIn K C=true):∃ bm N nm qn bs hdct sn sub ab col dd k0 k1 k2 k3 k5 mN,mN "__init__"=none /\
  ∀ h:Heap,K.In h->h.get? C=some (excClassObj nm qn C N bs bm hdct sn sub ab col dd k0 k1 k2 k3 k5 "ValueError.__new__")/\h.Ns N mN/\OwnTail h VB bm:=by
 unfold excIn at q
 split at q
 ·rename_i dd cd sl ho
  split at q
  ·rename_i C' bm k0 k1 k2 k3 n k5 hm hs
   simp only [Bool.and_eq_true,beq_iff_eq,Bool.not_eq_true'] at q
   obtain ⟨⟨⟨⟨rfl,hdel⟩,rfl⟩,hi⟩,ht⟩:=q
   obtain ⟨nm,bs,mro,ns,qn,hd,sn,sub,ab,col,del⟩:=cd
   dsimp only at hm hdel hi
   subst hm hdel
   have hsl:sl=#[k0,k1,k2,k3,some (.builtin "ValueError.__new__"),k5]:=by
    obtain ⟨l⟩:=sl
    simp only at hs
    rw [hs]
   subst hsl
   obtain ⟨mN,hi,hN⟩:=noInit_ns X₀ hi
   exact ⟨bm,ns,nm,qn,bs,hd,sn,sub,ab,col,dd,k0,k1,k2,k3,k5,mN,hi,λh X=>⟨X _ _ ho,hN h X,tail_own X₀ ht h X⟩⟩
  ·cases q
 ·cases q
theorem ObjOk.is {P:Program} {w:World} {H:Hp} {h:Heap} {a:Addr} {o:HO} (x:ObjOk P w H h a o):∃ ob,h.get? a=some ob:=by
 cases o with
 | lst xs=>obtain ⟨_,_,_,_,e⟩:=x; exact ⟨_,e⟩
 | tup xs=>obtain ⟨_,_,_,ob,e,_⟩:=x; exact ⟨_,e⟩
 | dK kvs=>obtain ⟨_,_,_,_,o,_,_,e,_⟩:=x; exact ⟨_,e⟩
 | dT kvs=>obtain ⟨_,_,_,_,o,_,_,e,_⟩:=x; exact ⟨_,e⟩
 | set S n=>obtain ⟨o,_,_,_,e,_⟩:=x; exact ⟨_,e⟩
 | ins C dx fs=>obtain ⟨_,_,_,e,_⟩:=x; exact ⟨_,e⟩
 | own y=>obtain ⟨_,e⟩:=x; exact ⟨_,e⟩
 | xd fs=>obtain ⟨_,⟨_,_,_,e,_⟩,_⟩:=x; exact ⟨_,e⟩
 | rng lo hi=>obtain ⟨_,_,_,e⟩:=x; exact ⟨_,e⟩
 | frz ob u=>obtain ⟨e,_⟩:=x; exact ⟨_,e⟩
 | tbl ps=>exact ⟨_,(show h.get? a=some _ from x)⟩
 | met f y=>exact ⟨_,(show h.get? a=some _ from x)⟩
 | ext φ=>obtain ⟨_,⟨_,e⟩,_⟩:=x; exact ⟨_,e⟩
def CXr (P:Program) (w:World):CXT:=λouter H s E x s'=>∃ (e:Addr) (C a0:Value) (H':Hp) (B:Heap),x=.ref e/\s'.os=s.os/\AllBare s'.gens/\Un (frs outer) [] H H' s.heap s'.heap/\HOk P w H' s'.heap /\
 Heap.FlyingW B outer e C a0 s'.heap/\(∀ b u,H' b=some u->∃ o,B.get? b=some o)/\(∀ b o,s.heap.get? b=some o->b ∉ frs outer->∃ o',B.get? b=some o'/\(H b=none->o'=o))/\∃ od,Dc s'.heap e od/\E C od H'
def Raises (X:Cx) (E:XK):Prop:=∀ (pins:List (Addr×Obj)) (σ:St) (H:Hp) (s:Shared) (e C:Addr) (vs:List Value) (h':Heap),Inv X pins σ H s->Heap.MadeExcOf s.heap h' e (.ref C) vs->E (.ref C) none H ->
 X.xe (.ref e) { s with heap:=h' }
section
variable {P : Program} {w : World} {K : PySem.W.Frag} {mg : Str → Option Value} {base : Heap} {N : List Str} {qual : Str} {scope : Scope} {f : Addr} {cd : Value} {A : Around} {outer : List Env} {s₀ : Shared} {H₀ : Hp} {E : XK}
abbrev cxR (P:Program) (w:World) (K:PySem.W.Frag) (mg:Str->Option Value) (base:Heap) (N:List Str) (qual:Str) (scope:Scope) (f:Addr) (cd:Value) (A:Around) (outer:List Env) (s:Shared) (H:Hp) (E:XK):Cx :=
 cxOf (CXr P w) P w K mg base N qual scope f cd A outer s H E
theorem passesOwnR:PassesOwn (model P w) (cxR P w K mg base N qual scope f cd A outer s₀ H₀ E).A (cxR P w K mg base N qual scope f cd A outer s₀ H₀ E).env (cxR P w K mg base N qual scope f cd A outer s₀ H₀ E).xe:=PassesOwn.leaving
theorem hok_stays {H:Hp} {h h' B:Heap} (ok:HOk P w H h) (k:∀ b u,H b=some u->∃ o,B.get? b=some o) (s1:∀ b o,B.get? b=some o->h.get? b=some o) (s2:∀ b o,B.get? b=some o->h'.get? b=some o):HOk P w H h':=λa u e =>
 (ok a u e).stay (λb v hb q=>by
  obtain ⟨o,z⟩:∃ o,B.get? b=some o:=by
   rcases hb with rfl | hb
   ·exact k _ _ e
   ·exact k _ _ hb
  have z1:=s1 b o z
  rw [q] at z1
  cases z1
  exact s2 b _ z) (λ_ q=>q) λ_ _ q=>q
theorem raisesG {pins:List (Addr×Obj)} {σ:St} {H:Hp} {s:Shared} {e C t:Addr} {od:Option Addr} (I:Inv (cxR P w K mg base N qual scope f cd A outer s₀ H₀ E) pins σ H s) (he:s.heap.get? e=some (xo C t od)) (hn:s₀.heap.get? e=none) (hH:H e=none) (q:E (.ref C) od H):(cxR P w K mg base N qual scope f cd A outer s₀ H₀ E).xe (.ref e) s:=by
 have noA:∀ b:Addr,b ∉ (cxR P w K mg base N qual scope f cd A outer s₀ H₀ E).ex:=λb z=>absurd (show b ∈ ([]:List Addr) from z) (by simp)
 have lt0:∀ b o,s₀.heap.get? b=some o->b≠(cxR P w K mg base N qual scope f cd A outer s₀ H₀ E).env.locals:=λb o z=>Nat.ne_of_lt (Nat.lt_of_lt_of_le (Heap.lt_size z) I.ok.above)
 have hin:∀ env ∈ (cxR P w K mg base N qual scope f cd A outer s₀ H₀ E).stack,∀ b,env.frame=some b->b ∈ e::frs (cxR P w K mg base N qual scope f cd A outer s₀ H₀ E).stack:=λenv he b hb=>List.mem_cons_of_mem _ (List.mem_filterMap.mpr ⟨env,he,hb⟩)
 have nin:∀ b o,s₀.heap.get? b=some o->b ∉ frs outer->b ∉ e::frs (cxR P w K mg base N qual scope f cd A outer s₀ H₀ E).stack:=λb o z h1 y=>by
  rcases List.mem_cons.mp y with y | y
  ·rw [y,hn] at z; cases z
  ·rcases List.mem_cons.mp (I.stkSub b y) with y | y
   ·exact lt0 b o z y
   ·exact h1 y
 show wpAny (model P w) (A.deeper (envOfC qual scope s₀.heap.objs.size f cd)) (leaving (envOfC qual scope s₀.heap.objs.size f cd) (.ref e)) _ _ _
 refine firstD (base:=PySem.W.hideAll s.heap (e::frs (cxR P w K mg base N qual scope f cd A outer s₀ H₀ E).stack)) (L:=s₀.heap.objs.size) I.ok.frames rfl (λb o z=>PySem.W.of_hideAll _ z) (PySem.W.hideAll_none _ (List.mem_cons_self ..)) (PySem.W.funFrames_hide I.stack hin) he λh'' x1 x4 x5=>?_
 have st:∀ b o,s.heap.get? b=some o->b ∉ e::frs (cxR P w K mg base N qual scope f cd A outer s₀ H₀ E).stack->(PySem.W.hideAll s.heap (e::frs (cxR P w K mg base N qual scope f cd A outer s₀ H₀ E).stack)).get? b=some o:=λb o z n=>PySem.W.hideAll_get _ z n
 have c1:∀ b u,H b=some u->∃ o,(PySem.W.hideAll s.heap (e::frs (cxR P w K mg base N qual scope f cd A outer s₀ H₀ E).stack)).get? b=some o:=λb u z=>by
  obtain ⟨ob,zb⟩:=(I.hok b u z).is
  refine ⟨ob,st b ob zb λm=>?_⟩
  rcases List.mem_cons.mp m with m | m
  ·rw [m,hH] at z; cases z
  ·rw [I.stkFree b m] at z; cases z
 refine ⟨e,.ref C,.ref t,H,_,rfl,I.os,I.bare,⟨λb o z n hb _=>?_,λb o z n hb _=>?_,λb o z n _=>I.base.free b o z n (noA b),λb o z _=>?_,I.base.tups,I.base.frzs,I.base.tbls⟩,?_,x1,c1,λb o z hb=>?_,od,x5,q⟩
 ·exact x1.1 b o (st b o (I.base.keep b o z n hb (noA b)) (nin b o z hb))
 ·obtain ⟨sl,e1⟩:=I.base.slot b o z n hb (noA b)
  obtain ⟨o2,ho2,hd2⟩:=(I.ok.funs.mem hb).2
  have z2:s₀.heap.get? b=some o2:=ho2
  rw [z] at z2
  cases z2
  obtain ⟨sl',e2⟩:=x4 b _ e1 hd2
  exact ⟨sl',e2⟩
 ·by_cases hb:b ∈ frs outer
  ·obtain ⟨sl,e1⟩:=I.base.slot b o z (I.ok.frf b hb) hb (noA b)
   obtain ⟨o2,ho2,hd2⟩:=(I.ok.funs.mem hb).2
   have z2:s₀.heap.get? b=some o2:=ho2
   rw [z] at z2
   cases z2
   obtain ⟨sl',e2⟩:=x4 b _ e1 hd2
   exact ⟨_,e2⟩
  ·obtain ⟨o1,e1⟩:=I.base.there b o z (noA b)
   exact ⟨o1,x1.1 b o1 (st b o1 e1 (nin b o z hb))⟩
 ·exact hok_stays I.hok c1 (λb o z=>PySem.W.of_hideAll _ z) x1.1
 ·obtain ⟨o1,e1⟩:=I.base.there b o z (noA b)
  refine ⟨o1,st b o1 e1 (nin b o z hb),λn=>?_⟩
  have e2:=I.base.keep b o z n hb (noA b)
  rw [e1] at e2
  exact Option.some.inj e2
theorem raisesR:Raises (cxR P w K mg base N qual scope f cd A outer s₀ H₀ E) E:=by
 intro pins σ H s e C vs h' I M q
 obtain ⟨t,he,_,_⟩:=M.there
 refine raisesG (t:=t) (od:=none) (I.kept (t':=s.toks) M.keeps) he ?_ ?_ q
 ·cases z:s₀.heap.get? e with
  | none=>rfl
  | some o =>
   obtain ⟨o1,e1⟩:=I.base.there e o z (λy=>absurd (show e ∈ ([]:List Addr) from y) (by simp))
   rw [M.new] at e1
   cases e1
 ·cases z:H e with
  | none=>rfl
  | some u =>
   obtain ⟨ob,zb⟩:=(I.hok e u z).is
   rw [M.new] at zb
   cases zb
theorem passR:Passes (CXr P w) (cxR P w K mg base N qual scope f cd A outer s₀ H₀ E) E:=by
 intro pins σ H s x s' I hx
 obtain ⟨e,C,a0,H',B,rfl,os,bare,un,hok,fl,c1,c2,od,hdc,q⟩:=hx
 have noA:∀ b:Addr,b ∉ (cxR P w K mg base N qual scope f cd A outer s₀ H₀ E).ex:=λb z=>absurd (show b ∈ ([]:List Addr) from z) (by simp)
 have lt0:∀ b o,s₀.heap.get? b=some o->b≠(cxR P w K mg base N qual scope f cd A outer s₀ H₀ E).env.locals:=λb o z=>Nat.ne_of_lt (Nat.lt_of_lt_of_le (Heap.lt_size z) I.ok.above)
 have nin:∀ b,b ∉ frs outer->b≠(cxR P w K mg base N qual scope f cd A outer s₀ H₀ E).env.locals->b ∉ frs (cxR P w K mg base N qual scope f cd A outer s₀ H₀ E).stack:=λb h1 h2 z=>by
  rcases List.mem_cons.mp (I.stkSub b z) with z | z
  ·exact h2 z
  ·exact h1 z
 have J:Inv (cxR P w K mg base N qual scope f cd A outer s₀ H₀ E) pins σ H' s':=I.call' os un hok bare (ch:=[]) (λb z=>absurd z (by simp))
 show wpAny (model P w) (A.deeper (envOfC qual scope s₀.heap.objs.size f cd)) (leaving (envOfC qual scope s₀.heap.objs.size f cd) (.ref e)) _ _ _
 refine leavesD (L:=s₀.heap.objs.size) I.ok.frames rfl fl hdc λh'' fl' sm hdc2=>?_
 refine ⟨e,C,a0,H',B,rfl,os.trans I.os,bare,⟨λb o z n hb _=>?_,λb o z n hb _=>?_,λb o z n _=>J.base.free b o z n (noA b),λb o z _=>?_,J.base.tups,J.base.frzs,J.base.tbls⟩,hok_stays hok c1 fl.1 fl'.1,fl',c1,λb o z hb=>?_,od,hdc2,q⟩
 ·obtain ⟨o',z1,z2⟩:=c2 b o (I.base.keep b o z n hb (noA b)) (nin b hb (lt0 b o z))
  rw [z2 (I.base.free b o z n (noA b))] at z1
  exact fl'.1 b o z1
 ·obtain ⟨sl,e1⟩:=J.base.slot b o z n hb (noA b)
  obtain ⟨o2,ho2,hd2⟩:=(I.ok.funs.mem hb).2
  have z2:s₀.heap.get? b=some o2:=ho2
  rw [z] at z2
  cases z2
  obtain ⟨sl',e2⟩:=sm b _ e1 hd2
  exact ⟨sl',e2⟩
 ·by_cases hb:b ∈ frs outer
  ·obtain ⟨sl,e1⟩:=J.base.slot b o z (I.ok.frf b hb) hb (noA b)
   obtain ⟨o2,ho2,hd2⟩:=(I.ok.funs.mem hb).2
   have z2:s₀.heap.get? b=some o2:=ho2
   rw [z] at z2
   cases z2
   obtain ⟨sl',e2⟩:=sm b _ e1 hd2
   exact ⟨_,e2⟩
  ·obtain ⟨o1,e1⟩:=I.base.there b o z (noA b)
   obtain ⟨o',z1,_⟩:=c2 b o1 e1 (nin b hb (lt0 b o z))
   exact ⟨o',fl'.1 b o' z1⟩
 ·obtain ⟨o1,e1⟩:=I.base.there b o z (noA b)
  obtain ⟨o',z1,z2⟩:=c2 b o1 e1 (nin b hb (lt0 b o z))
  refine ⟨o',z1,λn=>?_⟩
  rw [z2 (I.base.free b o z n (noA b))]
  have e2:=I.base.keep b o z n hb (noA b)
  rw [e1] at e2
  exact Option.some.inj e2
theorem Fun.okR {x:Str} {st:Stmt} {fd:FuncData} {ps:List Str} {k:Nat} {sp:Sp} (F:Fun K x qual st f fd) (S:FnScope N ps (defScope st)) (len:∀ vs H Q E,sp vs H Q E->vs.length=ps.length)
  (hbody:∀ (cdv:Value) (A:Around) (outer:List Env) (s:Shared) (H:Hp) (vs:List V) (Q:VK) (E:XK),Room k (A.deeper (envOfC qual (defScope st) s.heap.objs.size f cdv))->sp vs H Q E ->
   ∃ t,PSs (cxR P w K mg base N qual (defScope st) f cdv A outer s H E) (defBody st) t/\t { nx:=λ_ H'=>Q .non H',rt:=Q } (start N vs) H):FnOk P w K mg base (CXr P w) (k+1) f fd ps sp:=by
 obtain ⟨oc,od,kV,doc,pm,an,cdv,ct,osl,rfl,lk,hcd⟩:=F.ex
 exact fn_of lk hcd S len λA outer s H vs Q E hr hsp=>hbody cdv A outer s H vs Q E hr hsp
end
section
variable {X : Cx} {x : Str} {C : Addr} {E : XK} {e₀ : Expr} {rest : List Expr} {t : TA} {np cpos pos : Pos}
def tRaise (C:Addr) (E:XK) (t:TA):TS:=λ_ σ H=>t σ H λvs H1=>vs.length<=sizeLine/\E (.ref C) none H1
theorem ps_raise (hK:excIn X.K C=true) (hm:X.mg x=some (.ref C)) (hR:Raises X E) (hA:X.calm=true) (ha:PA X (e₀::rest) t) (hg:Gl X x:=by rfl) (hd:(x == ("__debug__":Str))=false:=by decide)
  (he:starEach (e₀::rest) X.env=(false,eval e₀ X.env)::starEach rest X.env:=by rfl) (hpl:(backTo cpos (starEach rest X.env)).any (·.1)=false:=by rfl) :
  PS X (.Raise (some (.Call (.Name x np) (e₀::rest) [] cpos)) none pos) (tRaise C E t):=by
 intro pins s σ H D I h
 obtain ⟨bm,N,nm,q,bs,hdct,sn,sub,ab,col,dd,k0,k1,k2,k3,k5,mN,hni,hK⟩:=excIn_obj I.kIn hK
 obtain ⟨_,_,T₀⟩:=hK _ I.kIn
 refine wpAny_Raise_call_subT (C:=C) (nm:=nm) (q:=q) (N:=N) (bs:=bs) (bm:=bm) (hdct:=hdct) (sn:=sn) (sub:=sub) (ab:=ab) (col:=col) (dd:=dd) (k0:=k0) (k1:=k1) (k2:=k2) (k3:=k3) (k5:=k5)
  PySem.F.excBase_ValueError (mN:=mN) (T₀.hasType PySem.F.excBase_ValueError.hasBase) (I.ok.hd hA) (by rw [he]; show (false || (backTo cpos (starEach rest X.env)).any (·.1))=false; rw [hpl]; rfl) hni (ld_glob I hg hm ⟨rfl,?_⟩ hd)
 have h1:=ha cpos pins s σ H _ I h
 rw [he] at h1 ⊢
 refine Calls.evalArgs_plain (wpAny_mono h1 (λus s₂ h₂=>?_) λ_ _ y=>y)
 obtain ⟨vs,H1,I1,r,z,q⟩:=h₂
 obtain ⟨g1,g2,g3⟩:=hK _ I1.kIn
 exact ⟨rfl,by rw [<- r.length]; exact z,g1,g2,g3,λh' e M=>hR pins σ H1 s₂ e C us h' I1 M q⟩
end
end L2
end
section
namespace L2
open PySem PySem.Spec PyProof.Rows
def xob (e:Addr) (C:Value) (od:Option Addr):HO:=.ext λh=>∃ oe,h.get? e=some oe/\oe.cls=C/\oe.dict=od/\PySem.W.notCls oe=true
section
variable {X : Cx} {pins : List (Addr × Obj)} {σ : St} {H H' : Hp} {s s' : Shared} {e : Addr} {C a0 : Value} {B h : Heap}
theorem Inv.flown {tk:Nat} {od:Option Addr} (I:Inv X pins σ H s) (os:s'.os=s.os) (bare:AllBare s'.gens) (un:Un (frs X.stack) [] H H' s.heap s'.heap) (hok:HOk X.prog X.w H' s'.heap) (fl:Heap.FlyingW B X.stack e C a0 s'.heap)
  (c1:∀ b u,H' b=some u->∃ o,B.get? b=some o) (c2:∀ b o,s.heap.get? b=some o->b ∉ frs X.stack->∃ o',B.get? b=some o'/\(H b=none->o'=o))
  (fl':Heap.FlyingW B X.stack e C a0 h) (sm:s'.heap.UpToSlots h) (hdc:Dc h e od):H' e=none/\Inv X pins σ (upd H' e (xob e C od)) { s' with heap:=h,toks:=tk }:=by
 have he:H' e=none:=by
  cases q:H' e with
  | none=>rfl
  | some u =>
   obtain ⟨o,z⟩:=c1 e u q
   rw [fl.2.1] at z
   cases z
 obtain ⟨oe,ws,hoe,hoec,hoed,_⟩:=fl'.first
 have ne:∀ b o,s.heap.get? b=some o->b≠e:=λb o z q=>by
  subst q
  by_cases hb:b ∈ frs X.stack
  ·obtain ⟨_,o2,ho2,hd2⟩:=fl'.2.2.1.mem hb
   rw [hoe] at ho2
   cases ho2
   exact hd2 _ hoed
  ·obtain ⟨o',z1,_⟩:=c2 b o z hb
   rw [fl.2.1] at z1
   cases z1
 have ne':∀ b u,H' b=some u->b≠e:=λb u z q=>by
  subst q
  rw [he] at z
  cases z
 refine ⟨he,?_⟩
 refine I.call' (s':={ s' with heap:=h,toks:=tk }) (H':=upd H' e (xob e C od)) (ch:=[]) os ⟨λb o z n hb _=>?_,λb o z n hb _=>?_,λb o z n _=>?_,λb o z _=>?_,λb xs z=>?_,λb o u z=>?_,λb ps z=>?_⟩ (λa u q=>?_) bare (λb z=>absurd z (by simp))
 ·obtain ⟨o',z1,z2⟩:=c2 b o z hb
  rw [z2 n] at z1
  exact fl'.1 b o z1
 ·obtain ⟨sl,e1⟩:=un.slot b o z n hb (by simp)
  obtain ⟨_,o2,ho2,hd2⟩:=fl.2.2.1.mem hb
  rw [e1] at ho2
  cases ho2
  obtain ⟨sl',e2⟩:=sm b _ e1 hd2
  exact ⟨sl',e2⟩
 ·rw [upd_ne (ne b o z)]
  exact un.free b o z n (by simp)
 ·by_cases hb:b ∈ frs X.stack
  ·obtain ⟨_,o2,ho2,_⟩:=fl'.2.2.1.mem hb
   exact ⟨o2,ho2⟩
  ·obtain ⟨o',z1,_⟩:=c2 b o z hb
   exact ⟨o',fl'.1 b o' z1⟩
 ·have z1:=un.tups b xs z
  rw [upd_ne (ne' b _ z1)]
  exact z1
 ·have z1:=un.frzs b o u z
  rw [upd_ne (ne' b _ z1)]
  exact z1
 ·obtain ⟨more,z1⟩:=un.tbls b ps z
  exact ⟨more,by rw [upd_ne (ne' b _ z1)]; exact z1⟩
 ·by_cases ha:a=e
  ·subst ha
   rw [upd_same] at q
   cases q
   obtain ⟨o3,ho3,hd3⟩:=hdc
   rw [hoe] at ho3
   cases ho3
   exact ⟨⟨oe,hoe,hoec,hd3,by unfold PySem.W.notCls; rw [hoed]⟩,⟨oe,hoe⟩,λh1 h2 ⟨o1,g1,g2⟩ k=>⟨o1,k o1 g1,g2⟩⟩
  ·rw [upd_ne ha] at q
   refine (hok a u q).stay (λb v hb z=>?_) (λb z=>by rw [upd_ne (ne' b _ z)]; exact z) λb xs z=>by rw [upd_ne (ne' b _ z)]; exact z
   obtain ⟨o,z0⟩:∃ o,B.get? b=some o:=by
    rcases hb with rfl | hb
    ·exact c1 _ _ q
    ·exact c1 _ _ hb
   have z1:=fl.1 b o z0
   rw [z] at z1
   cases z1
   exact fl'.1 b _ z0
end
abbrev Cx.hand (X:Cx) (e:Addr):Cx:={ X with A:=X.A.mark (some (.ref e)),calm:=false,xe:=λ_ _=>False }
theorem Cx.Ok.hand {X:Cx} (ok:X.Ok) (e:Addr):(X.hand e).Ok :=
 ⟨ok.mod,ok.kind,ok.glob,ok.blt,ok.above,ok.inj,ok.has,ok.cab,(λz=>nomatch z),ok.frames,ok.stk,ok.exf,ok.bs,ok.bsz,ok.noex,ok.exfs,ok.funs,ok.frf⟩
section
variable {X : Cx} {pins : List (Addr × Obj)} {σ : St} {H : Hp} {s : Shared} {e : Addr}
theorem Inv.hand (I:Inv X pins σ H s) (e:Addr):Inv (X.hand e) pins σ H s:=⟨I.ok.hand e,I.os,I.bare,I.base,I.loc,I.cell,I.free,I.freeC,I.pin,I.hok,I.len⟩
theorem Inv.unhand (ok:X.Ok) (I:Inv (X.hand e) pins σ H s):Inv X pins σ H s:=⟨ok,I.os,I.bare,I.base,I.loc,I.cell,I.free,I.freeC,I.pin,I.hok,I.len⟩
theorem unbind_ok {M:Model} {A:Around} {E:Value->Shared->Prop} {i:Nat} {x:Str} {v:V} {Q:Unit->Shared->Prop} (I:Inv X pins σ H s) (hN:X.N.Nodup) (hi:X.N[i]?=some x) (hk:X.env.scope.names.lookup x=some .local) (hv:σ[i]?=some (some v))
  (h:∀ s',Inv X pins (σ.set i none) H s'->Q () s'):wpAny M A (unbindName X.env x) Q E s:=by
 obtain ⟨m,hn,hl⟩:=id I.loc
 have hcls:(X.env.scope.kind == .class || (X.env.scope.kind == .module && X.env.locals != X.env.globals))=false:=by rw [I.ok.kind]; rfl
 have hiσ:i<σ.length:=by rw [I.len]; exact (List.getElem?_eq_some_iff.mp hi).1
 have cne:=I.cne
 obtain ⟨u,_,l⟩:=hl i x v hi hv (.inl hk)
 have hm:m x=some u:=by
  rcases l with ⟨_,z⟩ | ⟨z,_⟩
  ·exact z
  ·have z':X.env.scope.names.lookup x=some .cell\/X.env.scope.names.lookup x=some .free:=z
   rw [hk] at z'
   rcases z' with z' | z' <;> cases z'
 have tracked:∀ {a:Addr} {h':Heap},(∃ o,s.heap.get? a=some o/\H a=none)->Heap.SameBut a s.heap h'->HOk X.prog X.w H h':=λ{a h'} ha hs b ob e=>by
  obtain ⟨_,_,hfree⟩:=ha
  refine (I.hok b ob e).stay (λc w' hc q=>(hs.2 c ?_).trans q) (λ_ q=>q) λ_ _ q=>q
  rintro rfl
  rcases hc with rfl | hc
  ·rw [hfree] at e; cases e
  ·rw [hfree] at hc; cases hc
 refine wpAny_unbindName_local hk hn hm hcls λh' u' hn' hs=>?_
 obtain ⟨oL,_,_,hoL,_⟩:=id hn
 refine h _ ⟨I.ok,I.os,I.bare,⟨λb o e n hb hx=>?_,λb o e n hb hx=>?_,I.base.free,λb o e hx=>?_,I.base.tups,I.base.frzs,I.base.tbls⟩,⟨_,hn',λj y v' e1 e2 e3=>?_⟩,λy c e=>?_,I.free,I.freeC,λp hp=>?_,tracked ⟨oL,hoL,I.free⟩ hs,by simpa using I.len⟩
 ·exact (hs.2 b (Nat.ne_of_lt (Nat.lt_of_lt_of_le (Heap.lt_size e) I.ok.above))).trans (I.base.keep b o e n hb hx)
 ·obtain ⟨sl,e1⟩:=I.base.slot b o e n hb hx
  exact ⟨sl,(hs.2 b (Nat.ne_of_lt (Nat.lt_of_lt_of_le (Heap.lt_size e) I.ok.above))).trans e1⟩
 ·obtain ⟨o',e1⟩:=I.base.there b o e hx
  exact ⟨o',(hs.2 b (Nat.ne_of_lt (Nat.lt_of_lt_of_le (Heap.lt_size e) I.ok.above))).trans e1⟩
 ·by_cases hj:j=i
  ·subst hj
   rw [List.getElem?_set_self hiσ] at e2
   cases e2
  ·rw [List.getElem?_set_ne (Ne.symm hj)] at e2
   obtain ⟨u',r',q⟩:=hl j y v' e1 e2 e3
   refine ⟨u',r',?_⟩
   rcases q with ⟨k,e⟩ | ⟨k,c,e,z⟩
   ·refine .inl ⟨k,?_⟩
    have:y≠x:=λe=>hj (nodup_ix hN e1 (e ▸ hi))
    simp [this,e]
   ·exact .inr ⟨k,c,e,z.sameBut hs (cne y c e)⟩
 ·obtain ⟨w',z⟩:=I.cell y c e
  exact ⟨w',z.sameBut hs (cne y c e)⟩
 ·obtain ⟨e,n,ne,nf,d⟩:=I.pin p hp
  exact ⟨(hs.2 p.1 ne).trans e,n,ne,nf,d⟩
end
def XE (X:Cx) (pins:List (Addr×Obj)) (σ:St) (E:XK) (x:Value) (s':Shared):Prop:=∃ H1 s1,Inv X pins σ H1 s1/\CXr X.prog X.w X.stack H1 s1 E x s'
def XP (X:Cx) (pins:List (Addr×Obj)) (E:St->XK) (x:Value) (s':Shared):Prop:=∃ σ',XE X pins σ' (E σ') x s'
abbrev TSX:=Ends->(St->XK)->St->Hp->Prop
abbrev TEX:=St->Hp->VK->XK->Prop
def PSX (X:Cx) (sts:List Stmt) (t:TSX):Prop :=
 ∀ (pins:List (Addr×Obj)) (s:Shared) (σ:St) (H:Hp) (D:Ends) (E:St->XK),Inv X pins σ H s->t D E σ H->wpAny (model X.prog X.w) X.A (execs sts X.env) (SP X pins D) (XP X pins E) s
def PEX (X:Cx) (e:Expr) (t:TEX):Prop :=
 ∀ (pins:List (Addr×Obj)) (s:Shared) (σ:St) (H:Hp) (Q:VK) (E:XK),Inv X pins σ H s->t σ H Q E->wpAny (model X.prog X.w) X.A (eval e X.env) (EP X pins σ Q) (XE X pins σ E) s
section
variable {X : Cx} {e : Expr} {te : TEX} {pos : Pos} {a b : List Stmt} {t u : TSX}
def tDropX (te:TEX):TSX:=λD E σ H=>te σ H (λ_ H1=>D.nx σ H1) (E σ)
theorem psx_expr (he:PEX X e te) (hs:swapsWith e none pos.line X.env=pure false:=by rfl):PSX X [.Expr e pos] (tDropX te):=by
 intro pins s σ H D E I h
 refine wpAny_execs_cons ?_
 refine wpAny_Expr_any (wpAny_mono (he pins s σ H _ (E σ) I h) (λv s1 q=>?_) λx s1 q=>⟨σ,q⟩) I.quiet hs
 obtain ⟨x,H1,I1,r1,q1⟩:=q
 exact wpAny_execs_nil (show SP X pins D .next s1 from ⟨σ,H1,I1,q1⟩)
def tIfX (c:TT) (t u:TSX):TSX:=λD E σ H=>c σ H λb H1=>if b=true then t D E σ H1 else u D E σ H1
theorem psx_if {c:Expr} {tc:TT} (hc:PT X.nox c tc) (ha:PSX X a t) (hb:PSX X b u):PSX X [.If c a b pos] (tIfX tc t u):=by
 intro pins s σ H D E I h
 refine wpAny_execs_cons ?_
 refine wpAny_If (wpAny_mono (hc pins s σ H _ (I.wish _) h) (λd s1 q=>?_) λ_ _ z=>z.elim)
 obtain ⟨H1,I1,q1⟩:=q
 have fin:∀ f s2,SP X pins D f s2->(match f with | .next=>wpAny (model X.prog X.w) X.A (execs [] X.env) (SP X pins D) (XP X pins E) s2 | f=>SP X pins D f s2):=λf s2 z=>by
  cases f with
  | next=>exact wpAny_execs_nil z
  | ret v=>exact z
  | brk=>exact z
  | cont=>exact z
 cases d with
 | true=>exact wpAny_mono (ha pins s1 σ H1 D E I1.unwish q1) fin λ_ _ z=>z
 | false=>exact wpAny_mono (hb pins s1 σ H1 D E I1.unwish q1) fin λ_ _ z=>z
end
section
variable {X : Cx} {k : Nat} {f C : Addr} {fd : FuncData} {ps : List Str} {sp : Sp} {dvs : List V} {ds : List Value} {x m : Str} {p pos apos : Pos} {e o : Expr} {es : List Expr} {ta : TE} {t : TA}
theorem run_fnX {pins:List (Addr×Obj)} {σ:St} {H:Hp} {s:Shared} {Q:VK} {E:XK} {us:List Value} {vs:List V} (F:FnOk X.prog X.w X.K X.mg X.base (CXr X.prog X.w) k f fd ps sp) (hr:Room k X.A) (hb:Binds X.K fd ps ds) (hd:Vals dvs ds)
  (I:Inv X pins σ H s) (r:Vals vs us) (h:sp (vs++dvs) H Q E):wpAny (model X.prog X.w) X.A (call (.ref f) us) (EP X pins σ Q) (XE X pins σ E) s:=by
 have r2:Vals (vs++dvs) (us++ds):=r.append hd
 have hl:(us++ds).length=ps.length:=by rw [<- r2.length]; exact F.len _ _ _ _ h
 refine wpAny_call (codeAny_mono (F.run X.A X.stack s H ⟨us,[]⟩ (us++ds) (vs++dvs) Q E hr I.env0 (hb s us I.kIn hl) r2 h) λr s' hq=>?_)
 cases r with
 | error e=>exact ⟨H,s,I,hq⟩
 | ok fl =>
  cases fl with
  | ret u=>exact I.after hq
  | next=>exact False.elim hq
  | brk=>exact False.elim hq
  | cont=>exact False.elim hq
def tCallX (sp:Sp) (dvs:List V) (t:TA):TEX:=λσ H Q E=>t σ H λvs H1=>sp (vs++dvs) H1 Q E
theorem pex_call (F:FnOk X.prog X.w X.K X.mg X.base (CXr X.prog X.w) k f fd ps sp) (hr:Room k X.A) (hg:Gl X x) (hm:X.mg x=some (.ref f)) (hk:PySem.W.keepIn X.K (.ref f)=true) (hb:Binds X.K fd ps ds) (hd:Vals dvs ds)
  (ha:PA X.nox (e::es) t) (hdb:(x == ("__debug__":Str))=false:=by decide) (he:starEach (e::es) X.env=(false,eval e X.env)::starEach es X.env:=by rfl) (hpl:(backTo pos (starEach es X.env)).any (·.1)=false:=by rfl) :
  PEX X (.Call (.Name x p) (e::es) [] pos) (tCallX sp dvs t):=by
 intro pins s σ H Q E I h
 refine wpAny_Call_Name_kw (ld_glob I hg hm ?_ hdb)
 refine PySem.W.callWith_K (h₀:=X.base) I.ok.mod.kin hk (wpAny_mono (ha pos pins s σ H _ (I.wish _) h) (λus s1 q=>?_) λ_ _ z=>z.elim) he hpl
 obtain ⟨vs,H1,I1,r,q⟩:=q
 exact ⟨I1.kIn,run_fnX F hr hb hd I1.unwish r q⟩
end
section
variable {X : Cx} {x n : Str} {HC : Addr} {i : Nat} {body suite : List Stmt} {b₀ : Stmt} {tb : TSX} {ts : TS} {np hpos pos : Pos}
def tTry (K:PySem.W.Frag) (HC:Addr) (i:Nat) (tb:TSX) (ts:TS):TS:=λD σ H=>tb D (λσ' C od H1=>PySem.W.exmOne K C (.ref HC)=some true /\
 ∀ e,H1 e=none->ts { nx:=λσ2 H2=>D.nx (σ2.set i none) H2,rt:=D.rt,bk:=λσ2 H2=>D.bk (σ2.set i none) H2,ct:=λσ2 H2=>D.ct (σ2.set i none) H2 } (σ'.set i (some (.ref e))) (upd H1 e (xob e C od))) σ H
theorem ps_try (hN:X.N.Nodup) (hi:X.N[i]?=some n) (hn:X.env.scope.names.lookup n=some .local) (hst:X.stack=X.env::X.outer) (hf:X.env.frame=some X.env.locals) (hm:X.mg x=some (.ref HC)) (hb:PSX X body tb)
  (hs:∀ e,PSs (X.hand e) (b₀::suite) ts) (hg:Gl X x:=by rfl) (hd:(x == ("__debug__":Str))=false:=by decide) :
  PS X (.Try body [.ExceptHandler (some (.Name x np)) (some n) (b₀::suite) hpos] [] [] pos) (tTry X.K HC i tb ts):=by
 intro pins s σ H D I h
 have hfr:X.A.frames=some (X.env::X.outer):=by rw [<- hst]; exact I.ok.frames
 refine wpAny_Try_except (wpAny_mono (hb pins s σ H D _ I h) (λf s1 q=>?_) λxv s1 hx=>?_)
 ·cases f with
  | next=>exact wpAny_execs_nil q
  | ret v=>exact q
  | brk=>exact q
  | cont=>exact q
 ·obtain ⟨σ',H1,s0,I1,e,C,a0,H',B,rfl,os,bare,un,hok,fl,c1,c2,od,hdc,hex,hq⟩:=hx
  have fl1:Heap.FlyingW B (X.env::X.outer) e C a0 s1.heap:=by rw [<- hst]; exact fl
  refine noteD hfr hf fl1 hdc λh₄ held₄ sm₄ dc₄=>?_
  refine landsD (s:={ s1 with heap:=h₄ }) held₄ dc₄ λh₅ fl₅ sm₅ dc₅=>?_
  have fl₅':Heap.FlyingW B X.stack e C a0 h₅:=by rw [hst]; exact fl₅
  obtain ⟨_,I₅⟩:=I1.flown (tk:=s1.toks) os bare un hok fl c1 c2 fl₅' (sm₄.trans sm₅) dc₅
  refine wpAny_handleBy_cons (codeAny_handlers_test ?_) (by intro q; cases q)
  refine ld_glob (X:=X.hand e) (I₅.hand e) hg hm ?_ hd
  obtain ⟨ob,hob,hobc⟩:=fl₅.there
  have LT:PySem.W.Looks (model X.prog X.w) h₅ (typeOf (.ref e)) C:=by
   subst hobc
   exact (PySem.W.Looks.ld hob).andThen .now
  refine (PySem.W.exm_one I₅.kIn LT hex).here ?_
  refine codeAny_handlers_suite_as ?_
  refine againD fl₅ dc₅ λh₆ fl₆ sm₆ dc₆=>?_
  have fl₆':Heap.FlyingW B X.stack e C a0 h₆:=by rw [hst]; exact fl₆
  obtain ⟨he,I₆⟩:=I1.flown (tk:=s1.toks) os bare un hok fl c1 c2 fl₆' ((sm₄.trans sm₅).trans sm₆) dc₆
  refine store_ok (X:=X.hand e) (I₆.hand e) hN hi (.inl hn) (show RelV (.ref e) (.ref e) from rfl) (λs₇ I₇=>?_) (.inr hn)
  refine wpAny_mono (hs e pins s₇ _ _ _ I₇ (hq e he)) (λf s₈ q=>?_) λ_ _ z=>z.elim
  have back:∀ (f:Flow) (σ2:St) (H2:Hp) (s₈:Shared),Inv (X.hand e) pins σ2 H2 s₈->(∀ s10,Inv X pins (σ2.set i none) H2 s10->SP X pins D f s10) ->
    wpAny (model X.prog X.w) X.A (do bindName X.env n .none; unbindBehindTheSuite X.env n hpos) (λ_ s₃=>SP X pins D f s₃) X.xe s₈:=λf σ2 H2 s₈ I2 k=>by
   have I2:=I2.unhand I.ok
   refine wpAny_bind (wpAny_bindName (store_ok I2 hN hi (.inl hn) (show RelV .non .none from rfl) (λs9 I9=>?_) (.inr hn)))
   unfold unbindBehindTheSuite
   refine wpAny_onRaise (unbind_ok (v:=.non) I9 hN hi hn ?_ λs10 I10=>?_)
   ·rw [List.getElem?_set_self (by rw [I2.len]; exact (List.getElem?_eq_some_iff.mp hi).1)]
   ·rw [List.set_set] at I10
    exact k s10 I10
  cases f with
  | next =>
   obtain ⟨σ2,H2,I2,q2⟩:=q
   exact back .next σ2 H2 s₈ I2 λs10 I10=>⟨_,_,I10,q2⟩
  | ret v =>
   obtain ⟨v',σ2,H2,I2,r2,q2⟩:=q
   exact back (.ret v) σ2 H2 s₈ I2 λs10 I10=>⟨v',_,_,I10,r2,q2⟩
  | brk =>
   obtain ⟨σ2,H2,I2,q2⟩:=q
   exact back .brk σ2 H2 s₈ I2 λs10 I10=>⟨_,_,I10,q2⟩
  | cont =>
   obtain ⟨σ2,H2,I2,q2⟩:=q
   exact back .cont σ2 H2 s₈ I2 λs10 I10=>⟨_,_,I10,q2⟩
end
structure RoomQ (k:Nat) (A:Around):Prop where
 dp:A.depth+3 * k+5<recursionLimit
 un:A.units+16 * k+200<cLine
structure FnOkQ (P:Program) (w:World) (K:PySem.W.Frag) (mg:Str->Option Value) (base:Heap) (k:Nat) (f:Addr) (fd:FuncData) (ps:List Str) (sp:Sp):Prop where
 len:∀ vs H Q,sp vs H Q E0->vs.length=ps.length
 run:∀ (A:Around) (outer:List Env) (s:Shared) (H:Hp) (args:Args) (us:List Value) (vs:List V) (Q:VK),RoomQ k A->Env0 P w K mg base A outer s H->BindsTo s fd args (ps.zip us)->Vals vs us->sp vs H Q E0 ->
  codeAny (model P w) A (.call (.ref f) args) (CR CX0 outer P w H s Q E0) s
section
variable {P : Program} {w : World} {K : PySem.W.Frag} {mg : Str → Option Value} {base : Heap} {N ps : List Str} {qual : Str} {f : Addr} {k : Nat} {sp : Sp}
end
section
variable {X : Cx} {k : Nat} {f : Addr} {fd : FuncData} {ps : List Str} {sp : Sp} {x : Str} {p pos : Pos} {e : Expr} {es : List Expr} {t : TA}
end
end L2
end
section
open PySem PySem.W PyProof.Rows PySem.Calls PySem.Spec
open Builtin Builtin.ObjectAttr Builtin.Getset_descriptor
namespace EX
section
variable {prog : Program} {w : World} {A : Around} {E : Value → Shared → Prop} {s : Shared} {K : Frag} {x C D : Addr}
theorem ty {M:Model} {h:Heap} {ox:Obj} (hx:h.get? x=some ox) (hc:ox.cls=.ref C):Looks M h (typeOf (.ref x)) (.ref C):=hc ▸ (Looks.ld hx).andThen .now
theorem class_get {R:Result->Shared->Prop} {tp:Value} (X:K.In s.heap) (L0:Looks (model prog w) s.heap (typeOf (.ref x)) (.ref C)) (hm:mroIn K C (.type "object")=some true)
  (h:R (.ok (.ret (.ref C))) s):codeAny (model prog w) A (.call (.builtin "getset_descriptor.__get__") ⟨[.builtin "object.__class__",.ref x,tp],[]⟩) R s:=by
 obtain ⟨hh,g,dr,t,os⟩:=s
 have L1:=looks_mroIn (M:=model prog w) X hm
 refine codeAny_call_builtin KF.slot_gs.plain KF.entry_gs (KF.slot_gs.check _ _ _ _ _ _ _ _ KF.type_class (KF.args_gs _ _ _) ?_)
 unfold Builtin.«getset_descriptor.__get__» descrGet
 rw [dga_obj]
 refine wpAny_bind (wpAny_pure ?_)
 unfold descrGetter descrCheckInstance descrNameAndClass isInstance
 simp only [KF.owner_class]
 repeat lk
 refine ⟨Code.quiet_builtin _ (by decide +kernel),codeAny_builtin KF.entry_class ?_⟩
 unfold Builtin.«object.__class__» shownTypeOf
 repeat lk
 exact h
theorem look {M:Model} {h:Heap} {a g:Value} {name:Str} (X:K.In h) (ha:findIn K (.ref C) name=some (some a)) (hn:specialIn K a "__get__"=some (some g)) (htk:takesIn K a=some true) :
  Looks M h (Builtin.ObjectAttr.find (.ref x) (.ref C) name) (.bind g a) :=
 (looks_findIn X ha).andThen ((looks_specialIn X hn).andThen ((show Looks M h (Builtin.ObjectAttr.dataDescriptor? (some a) (some g)) (some (g,a)) from (looks_takesIn X htk).andThen .now).andThen (Looks.tag .now)))
theorem check_ga {M:Model} {nameV:Value} {Q:Unit->Shared->Prop} (X:K.In s.heap) (L0:Looks M s.heap (typeOf (.ref x)) (.ref C)) (hm:mroIn K C (.type "BaseException")=some true) (hq:Q () s) :
  wpAny M A (checkBuiltinCall "BaseException.__getattribute__" ⟨[.ref x,nameV],[]⟩) Q E s:=by
 obtain ⟨hh,g,dr,t,os⟩:=s
 have L1:=looks_mroIn (M:=M) X hm
 have hk:builtinKind "BaseException.__getattribute__"=some .slot:=by decide +kernel
 have hsplit:splitId "BaseException.__getattribute__"=some ("BaseException","__getattribute__"):=by decide +kernel
 have ha:=F.args_bexc_ga (.ref x) nameV
 simp only [checkBuiltinCall,hk,hsplit]
 refine wpAny_bind ?_
 unfold isInstance
 repeat (first | lk | wp_step)
 exact hq
theorem ga_entry {g a:Value} {tk:Tok} {name:Str} {Q:Fin->Shared->Prop} (L0:Looks (model prog w) s.heap (typeOf (.ref x)) (.ref C)) (Lf:Looks (model prog w) s.heap (find (.ref x) (.ref C) name) (.bind g a))
  (h:wpAny (model prog w) A (call g [a,.ref x,.ref C]) (λv s'=>Q (.done (.ret v)) s') E s) :
  wpAny (model prog w) A (Builtin.«object.__getattribute__» ⟨[.ref x,.str name tk],[]⟩) Q E s:=by
 obtain ⟨hh,gg,dr,t,os⟩:=s
 refine wpAny_bind (wpAny_pure (a:=(Value.ref x,[Value.str name tk])) ?_)
 refine wpAny_bind (wpAny_pure (a:=name) ?_)
 refine wpAny_bind (L0.at ?_)
 refine wpAny_bind (Lf.at ?_)
 show wpAny _ _ (holding [a] (call g [a,.ref x,.ref C]) >>= ret) _ _ _
 exact wpAny_bind (wpAny_holding (wpAny_mono h (λv s' z=>wpAny_pure z) λ_ _ z=>z))
theorem class_attr {Q:Option Value->Shared->Prop} (X:K.In s.heap) (L0:Looks (model prog w) s.heap (typeOf (.ref x)) (.ref C))
  (hga:findIn K (.ref C) "__getattribute__"=some (some (.builtin "BaseException.__getattribute__"))) (hk:findIn K (.ref C) "__getattr__"=some none)
  (ha:findIn K (.ref C) "__class__"=some (some (.builtin "object.__class__"))) (hn:specialIn K (.builtin "object.__class__") "__get__"=some (some (.builtin "getset_descriptor.__get__")))
  (htk:takesIn K (.builtin "object.__class__")=some true) (hm:mroIn K C (.type "object")=some true) (hb:mroIn K C (.type "BaseException")=some true)
  (h:Q (some (.ref C)) { s with toks:=s.toks+1 }):wpAny (model prog w) A (getAttr? (.ref x) "__class__") Q E s:=by
 obtain ⟨hh,g,d,t,os⟩:=s
 have L1:=looks_findIn (M:=model prog w) X hga
 have L2:=looks_findIn (M:=model prog w) X hk
 have Lf:=look (M:=model prog w) (x:=x) X ha hn htk
 have hx2:(Value.builtin "BaseException.__getattribute__" == Value.builtin "object.__getattribute__")=false:=by decide +kernel
 unfold getAttr? getAttrBy? getAttrBy
 refine wpAny_bind (wpAny_mkText (wpAny_bind (wpAny_attempt (wpAny_holding (wpAny_bind (L0.at (wpAny_bind (L1.at ?_))))))))
 dsimp only
 rw [if_neg (by rw [hx2,Bool.and_false]; exact Bool.false_ne_true)]
 unfold getAttrByItsOwn hookBefore
 refine wpAny_bind (L2.at ?_)
 refine wpAny_bind (wpAny_attempt (wpAny_holding ?_))
 unfold callGetattribute boundAndCalled
 rw [if_neg (by decide)]
 rw [PySem.F.attr_ValueError.ga.bind (.ref x)]
 refine wpAny_bind (wpAny_pure (wpAny_call ?_))
 refine codeAny_call_builtin PySem.F.attr_ValueError.ga.plain F.entry_bexc_ga (check_ga X L0 hb ?_)
 refine ga_entry L0 Lf ?_
 refine wpAny_call (class_get X L0 hm ?_)
 exact handed_on rfl (wpAny_pure h)
theorem nested {c:Value} {dep:Int} {tk:Tok} {Q:Fin->Shared->Prop} (X:K.In s.heap) (L0:Looks (model prog w) s.heap (typeOf (.ref x)) (.ref D))
  (hga:findIn K (.ref D) "__getattribute__"=some (some (.builtin "BaseException.__getattribute__"))) (hk:findIn K (.ref D) "__getattr__"=some none)
  (ha:findIn K (.ref D) "__class__"=some (some (.builtin "object.__class__"))) (hn:specialIn K (.builtin "object.__class__") "__get__"=some (some (.builtin "getset_descriptor.__get__")))
  (htk:takesIn K (.builtin "object.__class__")=some true) (hm:mroIn K D (.type "object")=some true) (hb:mroIn K D (.type "BaseException")=some true)
  (hty:Looks (model prog w) s.heap (typeOf c) (.type "type")) (his:Looks (model prog w) s.heap (isType c) true) (hisD:Looks (model prog w) s.heap (isType (.ref D)) true)
  (hne:(Value.ref D == c)=false) (hsub:Looks (model prog w) s.heap (isSubtype (.ref D) c) false) (h:Q (.done (.ret (.bool false))) { s with toks:=s.toks+1 }) :
  wpAny (model prog w) A (Builtin.«isinstance.nested» ⟨[.ref x,c,.int dep tk],[]⟩) Q E s:=by
 obtain ⟨h0,g,d,tt,os⟩:=s
 have LI:Looks (model prog w) h0 (isInstance (.ref x) c) false:=L0.andThen hsub
 unfold Builtin.«isinstance.nested»
 refine wpAny_bind (L0.at ?_)
 rw [if_neg (λq=>by rw [hne] at q; exact Bool.noConfusion q)]
 refine wpAny_bind (hty.at ?_)
 rw [if_pos (by decide)]
 k_delta "plainIsInstance"
 refine wpAny_bind (wpAny_bind (his.at ?_))
 simp only [Bool.not_true,Bool.false_eq_true,if_false]
 refine wpAny_bind (LI.at ?_)
 simp only [Bool.false_eq_true,if_false]
 refine wpAny_bind (class_attr X L0 hga hk ha hn htk hm hb ?_)
 refine wpAny_bind (hisD.at ?_)
 simp only [Bool.not_true,Bool.false_eq_true,if_false]
 refine wpAny_bind (wpAny_rule ?_)
 refine hsub.at ?_
 first
  | exact wpAny_pure h
  | exact wpAny_pure (wpAny_pure h)
  | exact wpAny_bind (wpAny_pure (wpAny_pure h))
theorem isType_of {M:Model} {h:Heap} (X:K.In h) (e:(clsIn K C).isSome=true):Looks M h (isType (.ref C)) true:=by
 obtain ⟨cd,hc⟩:=Option.isSome_iff_exists.mp e
 unfold clsIn at hc
 split at hc
 ·rename_i c' d' cd' sl' ho
  intro A' Q' E' s' k q
  unfold isType loadHead
  exact wpAny_bind (wpAny_loadPart (k _ _ (X _ _ ho)) (wpAny_pure q))
 ·cases hc
theorem nested_yes {c:Value} {dep:Int} {tk:Tok} {Q:Fin->Shared->Prop} (L0:Looks (model prog w) s.heap (typeOf (.ref x)) (.ref D))
  (hty:Looks (model prog w) s.heap (typeOf c) (.type "type")) (his:Looks (model prog w) s.heap (isType c) true)
  (hsub:Looks (model prog w) s.heap (isSubtype (.ref D) c) true) (h:Q (.done (.ret (.bool true))) s) :
  wpAny (model prog w) A (Builtin.«isinstance.nested» ⟨[.ref x,c,.int dep tk],[]⟩) Q E s:=by
 obtain ⟨h0,g,d,tt,os⟩:=s
 have LI:Looks (model prog w) h0 (isInstance (.ref x) c) true:=L0.andThen hsub
 unfold Builtin.«isinstance.nested»
 refine wpAny_bind (L0.at ?_)
 by_cases hq:(Value.ref D == c)=true
 ·rw [if_pos hq]
  exact wpAny_bind (wpAny_rule (wpAny_bind (wpAny_pure (wpAny_pure h))))
 ·rw [if_neg hq]
  refine wpAny_bind (hty.at ?_)
  rw [if_pos (by decide)]
  k_delta "plainIsInstance"
  refine wpAny_bind (wpAny_bind (his.at ?_))
  simp only [Bool.not_true,Bool.false_eq_true,if_false]
  refine wpAny_bind (LI.at ?_)
  simp only [if_true]
  first
   | exact wpAny_pure (wpAny_bind (wpAny_pure (wpAny_pure h)))
   | exact wpAny_pure (wpAny_pure h)
   | exact wpAny_bind (wpAny_pure (wpAny_pure h))
structure Cls (K:Frag) (D:Addr):Prop where
 ga:findIn K (.ref D) "__getattribute__"=some (some (.builtin "BaseException.__getattribute__"))
 noHook:findIn K (.ref D) "__getattr__"=some none
 kind:findIn K (.ref D) "__class__"=some (some (.builtin "object.__class__"))
 get:specialIn K (.builtin "object.__class__") "__get__"=some (some (.builtin "getset_descriptor.__get__"))
 takes:takesIn K (.builtin "object.__class__")=some true
 obj:mroIn K D (.type "object")=some true
 exc:mroIn K D (.type "BaseException")=some true
theorem Cls.isCls (c:Cls K D):(clsIn K D).isSome=true:=by
 obtain ⟨cd,e,_⟩:=Option.bind_eq_some_iff.mp c.obj
 rw [e]; rfl
variable {ox : Obj} {Q : Value → Shared → Prop} {h₀ : Heap} {L : Addr} {news : List (Addr × Obj)} {T : String}
theorem call_not (X:K.In s.heap) (hx:s.heap.get? x=some ox) (hc:ox.cls=.ref D) (k:Cls K D) (e:kin_not K D C=true) (h:Q (.bool false) { s with toks:=s.toks+1 }) :
  wpAny (model prog w) A (call (.builtin "isinstance") [.ref x,.ref C]) Q E s:=by
 unfold kin_not at e
 simp only [Bool.and_eq_true,beq_iff_eq,decide_eq_true_eq] at e
 obtain ⟨⟨⟨e9,e10⟩,e11⟩,e12⟩:=e
 exact call_isinstance (S:=λ_ R s=>(K.In s.heap/\s.heap.get? x=some ox)/\R (.ok (.ret (.bool false))) { s with toks:=s.toks+1 })
  (λ_ _ _ _ _ hs=>isinstance_outer (nested hs.1.1 (ty hs.1.2 hc) k.ga k.noHook k.kind k.get k.takes k.obj k.exc (looks_typeIn hs.1.1 e11) (isType_of hs.1.1 e10) (isType_of hs.1.1 k.isCls)
   (Bool.eq_false_iff.mpr λq=>e9 (Value.ref.inj (beq_iff_eq.mp q))) (looks_subIn hs.1.1 e12) hs.2) (by intro q; cases q)) ⟨⟨X,hx⟩,h⟩
theorem call_yes (X:K.In s.heap) (hx:s.heap.get? x=some ox) (hc:ox.cls=.ref D) (_k:Cls K D) (e1:typeIn K (.ref C)=some (.type "type")) (e2:mroIn K C (.type "object")=some true)
  (e3:subIn K (.ref D) (.ref C)=some true) (h:Q (.bool true) s):wpAny (model prog w) A (call (.builtin "isinstance") [.ref x,.ref C]) Q E s :=
 call_isinstance (S:=λ_ R s=>(K.In s.heap/\s.heap.get? x=some ox)/\R (.ok (.ret (.bool true))) s)
  (λ_ _ _ _ _ hs=>isinstance_outer (nested_yes (ty hs.1.2 hc) (looks_typeIn hs.1.1 e1) (isType_of hs.1.1 (by obtain ⟨cd,e,_⟩:=Option.bind_eq_some_iff.mp e2; rw [e]; rfl)) (looks_subIn hs.1.1 e3) hs.2)
   (by intro q; cases q)) ⟨⟨X,hx⟩,h⟩
theorem call_yesT (X:K.In s.heap) (hx:s.heap.get? x=some ox) (hc:ox.cls=.ref D) (_k:Cls K D) (e1:typeOf (.type T)=pure (.type "type"))
  (e3:subIn K (.ref D) (.type T)=some true) (h:Q (.bool true) s):wpAny (model prog w) A (call (.builtin "isinstance") [.ref x,.type T]) Q E s :=
 call_isinstance (S:=λ_ R s=>(K.In s.heap/\s.heap.get? x=some ox)/\R (.ok (.ret (.bool true))) s)
  (λ_ _ _ _ _ hs=>isinstance_outer (nested_yes (ty hs.1.2 hc) (Looks.of_pure e1) (Looks.of_pure rfl) (looks_subIn hs.1.1 e3) hs.2)
   (by intro q; cases q)) ⟨⟨X,hx⟩,h⟩
end
end EX
end
section
namespace L2
open PySem PySem.Spec PyProof.Rows PySem.SeqAt
inductive Th (H:Hp):V->Prop where
 | non:Th H .non
 | bl (b:Bool):Th H (.bl b)
 | int (i:Int):Th H (.int i)
 | str (x:Str):Th H (.str x)
 | lst {a:Addr} {xs:List V} (e:H a=some (.lst xs)):Th H (.ref a)
 | frz {a:Addr} {o:Obj} {xs:List V} (e:H a=some (.frz o (.lst xs))):Th H (.ref a)
 | tup {a:Addr} {xs:List V} (e:H a=some (.tup xs)):Th H (.ref a)
 | dic {a:Addr} {kvs:List (Key×V)} (e:H a=some (.dK kvs)):Th H (.ref a)
theorem Th.same {H H':Hp} {x:V} (t:Th H x) (s:Same H H'):Th H' x:=by
 cases t with
 | non=>exact .non
 | bl b=>exact .bl b
 | int i=>exact .int i
 | str z=>exact .str z
 | lst e=>exact .lst (s _ _ e)
 | frz e=>exact .frz (s _ _ e)
 | tup e=>exact .tup (s _ _ e)
 | dic e=>exact .dic (s _ _ e)
def isI:V->Bool
 | .int _=>true
 | _=>false
def isB:V->Bool
 | .bl _=>true
 | _=>false
section
variable {K : PySem.W.Frag}
theorem kit_int_non:PySem.W.kitOne K (.type "NoneType") (.type "int")=some false:=by kernel_rfl
theorem kit_int_bl:PySem.W.kitOne K (.type "bool") (.type "int")=some true:=by kernel_rfl
theorem kit_int_int:PySem.W.kitOne K (.type "int") (.type "int")=some true:=by kernel_rfl
theorem kit_int_str:PySem.W.kitOne K (.type "str") (.type "int")=some false:=by kernel_rfl
theorem kit_int_lst:PySem.W.kitOne K (.type "list") (.type "int")=some false:=by kernel_rfl
theorem kit_int_tup:PySem.W.kitOne K (.type "tuple") (.type "int")=some false:=by kernel_rfl
theorem kit_int_dic:PySem.W.kitOne K (.type "dict") (.type "int")=some false:=by kernel_rfl
theorem kit_bool_non:PySem.W.kitOne K (.type "NoneType") (.type "bool")=some false:=by kernel_rfl
theorem kit_bool_bl:PySem.W.kitOne K (.type "bool") (.type "bool")=some true:=by kernel_rfl
theorem kit_bool_int:PySem.W.kitOne K (.type "int") (.type "bool")=some false:=by kernel_rfl
theorem kit_bool_str:PySem.W.kitOne K (.type "str") (.type "bool")=some false:=by kernel_rfl
theorem kit_bool_lst:PySem.W.kitOne K (.type "list") (.type "bool")=some false:=by kernel_rfl
theorem kit_bool_tup:PySem.W.kitOne K (.type "tuple") (.type "bool")=some false:=by kernel_rfl
theorem kit_bool_dic:PySem.W.kitOne K (.type "dict") (.type "bool")=some false:=by kernel_rfl
theorem kit_tup_tup:PySem.W.kitOne K (.type "tuple") (.type "tuple")=some true:=by kernel_rfl
theorem kit_lst_lst:PySem.W.kitOne K (.type "list") (.type "list")=some true:=by kernel_rfl
theorem kit_lst_non:PySem.W.kitOne K (.type "NoneType") (.type "list")=some false:=by kernel_rfl
theorem kit_lst_bl:PySem.W.kitOne K (.type "bool") (.type "list")=some false:=by kernel_rfl
theorem kit_lst_int:PySem.W.kitOne K (.type "int") (.type "list")=some false:=by kernel_rfl
theorem kit_lst_str:PySem.W.kitOne K (.type "str") (.type "list")=some false:=by kernel_rfl
theorem kit_lst_tup:PySem.W.kitOne K (.type "tuple") (.type "list")=some false:=by kernel_rfl
theorem kit_lst_dic:PySem.W.kitOne K (.type "dict") (.type "list")=some false:=by kernel_rfl
end
section
variable {X : Cx}
theorem call_isint:CallR X (.builtin "isinstance") (λxs H Q=>∃ x,xs=[x,.ty "int"]/\Th H x/\Q (.bl (isI x || isB x)) H):=by
 intro pins s σ H xs us Q I r h
 obtain ⟨x,rfl,th,q⟩:=h
 obtain ⟨u,v,rfl,rx,rt⟩:=r.two
 obtain rfl:v=Value.type "int":=rt
 cases th with
 | non=>exact isinst_ok I rx .non kit_int_non λtk=>⟨.bl _,H,I.tok tk,rfl,q⟩
 | bl b=>exact isinst_ok I rx (.bl b) kit_int_bl λtk=>⟨.bl _,H,I.tok tk,rfl,q⟩
 | int i=>exact isinst_ok I rx (.int i) kit_int_int λtk=>⟨.bl _,H,I.tok tk,rfl,q⟩
 | str z=>exact isinst_ok I rx (.str z) kit_int_str λtk=>⟨.bl _,H,I.tok tk,rfl,q⟩
 | lst e=>exact isinst_ok I rx (.lst e) kit_int_lst λtk=>⟨.bl _,H,I.tok tk,rfl,q⟩
 | frz e=>exact isinst_ok I rx (.frz e) kit_int_lst λtk=>⟨.bl _,H,I.tok tk,rfl,q⟩
 | tup e=>exact isinst_ok I rx (.tup e) kit_int_tup λtk=>⟨.bl _,H,I.tok tk,rfl,q⟩
 | dic e=>exact isinst_ok I rx (.dK e) kit_int_dic λtk=>⟨.bl _,H,I.tok tk,rfl,q⟩
theorem call_isbool:CallR X (.builtin "isinstance") (λxs H Q=>∃ x,xs=[x,.ty "bool"]/\Th H x/\Q (.bl (isB x)) H):=by
 intro pins s σ H xs us Q I r h
 obtain ⟨x,rfl,th,q⟩:=h
 obtain ⟨u,v,rfl,rx,rt⟩:=r.two
 obtain rfl:v=Value.type "bool":=rt
 cases th with
 | non=>exact isinst_ok I rx .non kit_bool_non λtk=>⟨.bl _,H,I.tok tk,rfl,q⟩
 | bl b=>exact isinst_ok I rx (.bl b) kit_bool_bl λtk=>⟨.bl _,H,I.tok tk,rfl,q⟩
 | int i=>exact isinst_ok I rx (.int i) kit_bool_int λtk=>⟨.bl _,H,I.tok tk,rfl,q⟩
 | str z=>exact isinst_ok I rx (.str z) kit_bool_str λtk=>⟨.bl _,H,I.tok tk,rfl,q⟩
 | lst e=>exact isinst_ok I rx (.lst e) kit_bool_lst λtk=>⟨.bl _,H,I.tok tk,rfl,q⟩
 | frz e=>exact isinst_ok I rx (.frz e) kit_bool_lst λtk=>⟨.bl _,H,I.tok tk,rfl,q⟩
 | tup e=>exact isinst_ok I rx (.tup e) kit_bool_tup λtk=>⟨.bl _,H,I.tok tk,rfl,q⟩
 | dic e=>exact isinst_ok I rx (.dK e) kit_bool_dic λtk=>⟨.bl _,H,I.tok tk,rfl,q⟩
def isLst (H:Hp):V->Bool
 | .ref a=>match H a with | some (.lst _)=>true | some (.frz _ (.lst _))=>true | _=>false
 | _=>false
theorem call_islist:CallR X (.builtin "isinstance") (λxs H Q=>∃ x,xs=[x,.ty "list"]/\Th H x/\Q (.bl (isLst H x)) H):=by
 intro pins s σ H xs us Q I r h
 obtain ⟨x,rfl,th,q⟩:=h
 obtain ⟨u,v,rfl,rx,rt⟩:=r.two
 obtain rfl:v=Value.type "list":=rt
 cases th with
 | non=>exact isinst_ok I rx .non kit_lst_non λtk=>⟨.bl _,H,I.tok tk,rfl,q⟩
 | bl b=>exact isinst_ok I rx (.bl b) kit_lst_bl λtk=>⟨.bl _,H,I.tok tk,rfl,q⟩
 | int i=>exact isinst_ok I rx (.int i) kit_lst_int λtk=>⟨.bl _,H,I.tok tk,rfl,q⟩
 | str z=>exact isinst_ok I rx (.str z) kit_lst_str λtk=>⟨.bl _,H,I.tok tk,rfl,q⟩
 | lst e=>exact isinst_ok I rx (.lst e) kit_lst_lst λtk=>⟨.bl _,H,I.tok tk,rfl,by simp only [isLst,e] at q; exact q⟩
 | frz e=>exact isinst_ok I rx (.frz e) kit_lst_lst λtk=>⟨.bl _,H,I.tok tk,rfl,by simp only [isLst,e] at q; exact q⟩
 | tup e=>exact isinst_ok I rx (.tup e) kit_lst_tup λtk=>⟨.bl _,H,I.tok tk,rfl,by simp only [isLst,e] at q; exact q⟩
 | dic e=>exact isinst_ok I rx (.dK e) kit_lst_dic λtk=>⟨.bl _,H,I.tok tk,rfl,by simp only [isLst,e] at q; exact q⟩
def IsC (K:PySem.W.Frag) (D:Addr) (c:V) (b:Bool):Prop:=EX.Cls K D/\((∃ C,c=.ref C/\b=false/\PySem.W.kin_not K D C=true) \/
 (∃ C,c=.ref C/\b=true/\PySem.W.typeIn K (.ref C)=some (.type "type")/\PySem.W.mroIn K C (.type "object")=some true/\PySem.W.subIn K (.ref D) (.ref C)=some true) \/
 (∃ T,c=.ty T/\b=true/\typeOf (.type T)=pure (.type "type")/\PySem.W.subIn K (.ref D) (.type T)=some true))
theorem call_isexc {D:Addr} {c:V} {b:Bool} (hc:IsC X.K D c b):CallR X (.builtin "isinstance") (λxs H Q=>∃ e od,xs=[.ref e,c]/\H e=some (xob e (.ref D) od)/\Q (.bl b) H):=by
 intro pins s σ H xs us Q I r h
 obtain ⟨e,od,rfl,he,q⟩:=h
 obtain ⟨u,v,rfl,rx,rt⟩:=r.two
 obtain rfl:u=Value.ref e:=rx
 obtain ⟨⟨oe,h1,h2,_⟩,_,_⟩:=(show ObjOk X.prog X.w H s.heap e (xob e (.ref D) od) from I.hok e _ he)
 obtain ⟨k,hc⟩:=hc
 rcases hc with ⟨C,rfl,rfl,e1⟩ | ⟨C,rfl,rfl,e1,e2,e3⟩ | ⟨T,rfl,rfl,e1,e3⟩
 ·obtain rfl:v=Value.ref C:=rt
  exact EX.call_not I.kIn h1 h2 k e1 ⟨.bl _,H,I.tok _,rfl,q⟩
 ·obtain rfl:v=Value.ref C:=rt
  exact EX.call_yes I.kIn h1 h2 k e1 e2 e3 ⟨.bl _,H,I,rfl,q⟩
 ·obtain rfl:v=Value.type T:=rt
  exact EX.call_yesT I.kIn h1 h2 k e1 e3 ⟨.bl _,H,I,rfl,q⟩
end
mutual
inductive DatR (K:PySem.W.Frag) (H:Hp):V->PyData->Prop
 | non:DatR K H .non .none
 | bl (b:Bool):DatR K H (.bl b) (.bool b)
 | int (i:Int):DatR K H (.int i) (.int i)
 | str (x:Str):DatR K H (.str x) (.str x)
 | lst {a:Addr} {xs:List V} {ds:List PyData}:SqL K H a xs->DatsR K H xs ds->DatR K H (.ref a) (.list ds)
 | tup {a:Addr} {xs:List V} {ds:List PyData}:SqT K H a xs->DatsR K H xs ds->DatR K H (.ref a) (.tuple ds)
inductive DatsR (K:PySem.W.Frag) (H:Hp):List V->List PyData->Prop
 | nil:DatsR K H [] []
 | cons {x:V} {d:PyData} {xs:List V} {ds:List PyData}:DatR K H x d->DatsR K H xs ds->DatsR K H (x::xs) (d::ds)
end
section
variable {X : Cx} {pins : List (Addr × Obj)} {σ : St} {H : Hp} {s : Shared}
mutual
theorem DatR.reads (I:Inv X pins σ H s):∀ {v:V} {d:PyData} {u:Value},DatR X.K H v d->RelV v u->∃ as,Reads s.heap u d as
 | _,_,_,.non,r=>⟨[],by cases (show _=Value.none from r); exact .none⟩
 | _,_,_,.bl b,r=>⟨[],by cases (show _=Value.bool b from r); exact .bool b⟩
 | _,_,_,.int i,r=>⟨[],by obtain ⟨t,rfl⟩:=r; exact .int i t⟩
 | _,_,_,.str x,r=>⟨[],by obtain ⟨t,rfl⟩:=r; exact .str x t⟩
 | _,_,_,.lst (a:=a) sq ds,r=>by
  cases (show _=Value.ref a from r)
  obtain ⟨its,rv,⟨o,n,e,hc,_,hd⟩,_⟩:=I.list sq
  obtain ⟨as,ra⟩:=DatsR.reads I ds rv
  exact ⟨_,.list e hc hd (by simpa using ra)⟩
 | _,_,_,.tup (a:=a) sq ds,r=>by
  cases (show _=Value.ref a from r)
  obtain ⟨its,rv,⟨o,e,hc,n,hd⟩,_⟩:=I.tuple sq
  obtain ⟨as,ra⟩:=DatsR.reads I ds rv
  exact ⟨_,.tuple e hc hd (by simpa using ra)⟩
theorem DatsR.reads (I:Inv X pins σ H s):∀ {vs:List V} {ds:List PyData} {us:List Value},DatsR X.K H vs ds->Vals vs us->∃ as,ReadsAll s.heap us ds as
 | _,_,_,.nil,.nil=>⟨[],.nil⟩
 | _,_,_,.cons d ds,.cons r rs=>by
  obtain ⟨as,ra⟩:=DatR.reads I d r
  obtain ⟨bs,rb⟩:=DatsR.reads I ds rs
  exact ⟨_,.cons ra rb⟩
end
end
section
variable {X : Cx}
inductive rEqDR (K:PySem.W.Frag) (x:V) (y:V) (H:Hp) (Q:VK):Prop
 | mk (da db:_) (_:DatR K H x da) (_:DatR K H y db) (_:shaped da=true) (_:shaped db=true) (_:Q (.bl (PyData.eqv da db)) H):rEqDR K x y H Q
def rEqD (K:PySem.W.Frag):R2:=λx y H Q=>rEqDR K x y H Q
inductive rNeDR (K:PySem.W.Frag) (x:V) (y:V) (H:Hp) (Q:VK):Prop
 | mk (da db:_) (_:DatR K H x da) (_:DatR K H y db) (_:shaped da=true) (_:shaped db=true) (_:Q (.bl (!PyData.eqv da db)) H):rNeDR K x y H Q
def rNeD (K:PySem.W.Frag):R2:=λx y H Q=>rNeDR K x y H Q
theorem op_eqD (hu:X.A.units+64<cLine):OpR X (compareOp .Eq) (rEqD X.K):=by
 intro pins s σ H x y v u Q I rx ry h
 obtain ⟨da,db,ra,rb,ha,hb,q⟩:=h
 obtain ⟨as,r1⟩:=ra.reads I rx
 obtain ⟨bs,r2⟩:=rb.reads I ry
 exact eq_dataH r1 r2 ha hb hu ⟨.bl _,H,I,rfl,q⟩
theorem op_neD (hu:X.A.units+64<cLine):OpR X (compareOp .NotEq) (rNeD X.K):=by
 intro pins s σ H x y v u Q I rx ry h
 obtain ⟨da,db,ra,rb,ha,hb,q⟩:=h
 obtain ⟨as,r1⟩:=ra.reads I rx
 obtain ⟨bs,r2⟩:=rb.reads I ry
 exact ne_dataH r1 r2 ha hb hu ⟨.bl _,H,I,rfl,q⟩
end
end L2
end
section
namespace L2
open PySem PySem.Spec PyProof.Rows
def compN (x:Str) (N:List Str):List Str:=x::N.map λy=>if y=x then ("":Str) else y
def CapOk (X:Cx) (x:Str) (cl:List (Str×Addr)):List (Str×NameKind)->Prop
 | []=>True
 | (n,k)::r=>(((n=x\/n = ".0")/\k=.local)\/(k≠.local/\k≠.cell/\k≠.free)\/(k=.cell/\n≠x/\n≠""/\X.env.scope.names.lookup n=some .cell/\cl.lookup n=X.env.cells.lookup n))/\CapOk X x cl r
def ClOk (X:Cx):List (Str×Addr)->Prop
 | []=>True
 | (n,c)::r=>X.env.cells.lookup n=some c/\ClOk X r
theorem CapOk.at {X:Cx} {x:Str} {cl:List (Str×Addr)} {y:Str} {k:NameKind}:∀ {l:List (Str×NameKind)},CapOk X x cl l->l.lookup y=some k ->
  ((y=x\/y = ".0")/\k=.local)\/(k≠.local/\k≠.cell/\k≠.free)\/(k=.cell/\y≠x/\y≠""/\X.env.scope.names.lookup y=some .cell/\cl.lookup y=X.env.cells.lookup y)
 | [],_,h=>by simp at h
 | (n,k')::r,⟨h1,h2⟩,h=>by
  rw [List.lookup_cons] at h
  split at h
  ·rename_i e
   cases h
   rw [beq_iff_eq.mp e]
   exact h1
  ·exact CapOk.at h2 h
theorem ClOk.at {X:Cx} {y:Str} {c:Addr}:∀ {l:List (Str×Addr)},ClOk X l->l.lookup y=some c->X.env.cells.lookup y=some c
 | [],_,h=>by simp at h
 | (n,k')::r,⟨h1,h2⟩,h=>by
  rw [List.lookup_cons] at h
  split at h
  ·rename_i e
   cases h
   rw [beq_iff_eq.mp e]
   exact h1
  ·exact ClOk.at h2 h
abbrev cxC (X:Cx) (x:Str) (scope:Scope) (cl:List (Str×Addr)) (C:Addr) (s₂:Shared) (H₂:Hp) (fp:List Addr):Cx :=
 { X with N:=compN x X.N,s₀:=s₂,H₀:=H₂,env:=compEnvC scope cl C X.env,outer:=X.stack,ex:=fp,fn:=λ_=>false,pn:=[],xe:=λ_ _=>False }
section
variable {X : Cx} {pins : List (Addr × Obj)} {σ : St} {H₂ : Hp} {s₂ : Shared} {fp : List Addr} {x : Str} {scope : Scope} {cl : List (Str × Addr)} {C : Addr}
theorem okC (I:Inv X pins σ H₂ s₂) (hf:∀ b ∈ fp,FpOk X pins H₂ b) (ho:∀ b ∈ fp,∃ o,s₂.heap.get? b=some o) (hkind:scope.kind=.function) (hc:CapOk X x cl (relabel scope X.env).names) (hcl:ClOk X cl) (hC:s₂.heap.objs.size<=C) :
  (cxC X x scope cl C s₂ H₂ fp).Ok where
 mod:=I.ok.mod
 kind:=hkind
 glob:=I.ok.glob
 blt:=I.ok.blt
 above:=hC
 inj:=λy z c h1 h2=>I.ok.inj y z c (hcl.at h1) (hcl.at h2)
 has:=λy hy=>by
  have hy':(relabel scope X.env).names.lookup y=some .cell\/(relabel scope X.env).names.lookup y=some .free:=hy
  rcases hy' with h | h
  ·rcases hc.at h with ⟨_,z⟩ | ⟨_,z,_⟩ | ⟨_,_,_,z1,z2⟩
   ·cases z
   ·exact absurd rfl z
   ·obtain ⟨c,e⟩:=I.ok.has y (.inl z1)
    exact ⟨c,z2.trans e⟩
  ·rcases hc.at h with ⟨_,z⟩ | ⟨_,_,z⟩ | ⟨z,_⟩
   ·cases z
   ·exact absurd rfl z
   ·cases z
 cab:=λy c h _=>absurd (show false=true from h) Bool.false_ne_true
 hd:=I.ok.hd
 frames:=I.ok.frames
 stk:=.inl rfl
 exf:=λb hb=>by
  obtain ⟨o,e⟩:=ho b hb
  exact ⟨Nat.ne_of_lt (Nat.lt_of_lt_of_le (Heap.lt_size e) hC),λy c h=>(hf b hb).2.2.2.2.1 y c (hcl.at h)⟩
 bs:=I.bs
 bsz:=Nat.le_trans I.ok.bsz I.sz
 noex:=λb o e hb=>by
  rcases (hf b hb).2.2.2.1 with z | z
  ·exact I.ok.noex b o e z
  ·exact absurd (Nat.lt_of_lt_of_le (Heap.lt_size (I.ok.bs b o e).1) z) (Nat.lt_irrefl _)
 exfs:=λb hb z=>by
  rcases List.mem_cons.mp (I.stkSub b z) with q | q
  ·exact (hf b hb).2.1 q
  ·exact (hf b hb).2.2.1 q
 funs:=I.stack
 frf:=I.stkFree
theorem invC {h₁:Heap} {tk:Nat} (I:Inv X pins σ H₂ s₂) (hf:∀ b ∈ fp,FpOk X pins H₂ b) (ho:∀ b ∈ fp,∃ o,s₂.heap.get? b=some o) (hkind:scope.kind=.function) (hc:CapOk X x cl (relabel scope X.env).names) (hcl:ClOk X cl) (hx0:x≠"") (hdot:(".0":Str) ∉ X.N)
  (hC:C=s₂.heap.objs.size+1) (hns:h₁.Ns C λ_=>none) (old:∀ b o,s₂.heap.get? b=some o->h₁.get? b=some o) (hD:∃ n,h₁.get? s₂.heap.objs.size=some { cls:=.type "list",data:=.seq #[] n }) :
  Inv (cxC X x scope cl C s₂ H₂ fp) [] (none::σ) (upd H₂ s₂.heap.objs.size (.lst [])) { s₂ with heap:=h₁,toks:=tk }:=by
 have hn:H₂ s₂.heap.objs.size=none:=I.hok.fresh (Nat.le_refl _)
 refine ⟨okC I hf ho hkind hc hcl (by rw [hC]; exact Nat.le_succ _),rfl,I.bare,Un.laid old (Nat.le_refl _) hn,⟨_,hns,λi y v h1 h2 h3=>?_⟩,λy c e=>?_,?_,λy c e=>?_,λp hp=>absurd (show p ∈ ([]:List (Addr×Obj)) from hp) (by simp),?_,?_⟩
 ·cases i with
  | zero =>
   have h2':some (none:Option V)=some (some v):=h2
   cases h2'
  | succ i =>
   have h1':(X.N.map λy=>if y=x then ("":Str) else y)[i]?=some y:=h1
   have h2':σ[i]?=some (some v):=h2
   rw [List.getElem?_map] at h1'
   cases e:X.N[i]? with
   | none=>rw [e] at h1'; cases h1'
   | some z =>
    rw [e] at h1'
    have h1'':(if z=x then ("":Str) else z)=y:=Option.some.inj h1'
    have cap:∀ k,(relabel scope X.env).names.lookup y=some k->k=.local\/k=.cell\/k=.free->X.env.scope.names.lookup y=some .cell/\cl.lookup y=X.env.cells.lookup y/\k=.cell/\z=y:=λk hk hv=>by
     rcases hc.at hk with ⟨q,_⟩ | ⟨q1,q2,q3⟩ | ⟨q0,q1,q2,q3,q4⟩
     ·exfalso
      rcases q with q | q
      ·subst q
       by_cases hz:z=y
       ·rw [if_pos hz] at h1''
        exact hx0 h1''.symm
       ·rw [if_neg hz] at h1''
        exact hz h1''
      ·subst q
       by_cases hz:z=x
       ·rw [if_pos hz] at h1''
        exact absurd h1'' (by decide +kernel)
       ·rw [if_neg hz] at h1''
        subst h1''
        exact hdot (List.mem_of_getElem? e)
     ·rcases hv with q | q | q
      ·exact absurd q q1
      ·exact absurd q q2
      ·exact absurd q q3
     ·refine ⟨q3,q4,q0,?_⟩
      by_cases hz:z=x
      ·rw [if_pos hz] at h1''
       exact absurd h1''.symm q2
      ·rw [if_neg hz] at h1''
       exact h1''
    have h3':(relabel scope X.env).names.lookup y=some .local\/(relabel scope X.env).names.lookup y=some .cell\/(relabel scope X.env).names.lookup y=some .free:=h3
    obtain ⟨k,hk,hv⟩:∃ k,(relabel scope X.env).names.lookup y=some k/\(k=.local\/k=.cell\/k=.free):=by
     rcases h3' with q | q | q
     ·exact ⟨_,q,.inl rfl⟩
     ·exact ⟨_,q,.inr (.inl rfl)⟩
     ·exact ⟨_,q,.inr (.inr rfl)⟩
    obtain ⟨c1,c2,c3,rfl⟩:=cap k hk hv
    subst c3
    obtain ⟨m,_,hl⟩:=I.loc
    obtain ⟨u,r,l⟩:=hl i z v e h2' (.inr (.inl c1))
    refine ⟨u,r,?_⟩
    rcases l with ⟨q,_⟩ | ⟨_,c,q1,q2⟩
    ·have q':X.env.scope.names.lookup z=some .local:=q
     rw [c1] at q'
     cases q'
    ·refine .inr ⟨.inl hk,c,c2.trans q1,?_⟩
     obtain ⟨oc,g1,g2⟩:=q2
     exact ⟨oc,old _ _ g1,g2⟩
 ·obtain ⟨v,oc,g1,g2⟩:=I.cell y c (hcl.at e)
  exact ⟨v,oc,old _ _ g1,g2⟩
 ·show (upd H₂ s₂.heap.objs.size (.lst [])) C=none
  rw [upd_ne (by rw [hC]; exact Nat.ne_of_gt (Nat.lt_succ_self _))]
  exact I.hok.fresh (by rw [hC]; exact Nat.le_succ _)
 ·obtain ⟨v,oc,g1,g2⟩:=I.cell y c (hcl.at e)
  rw [upd_ne (Nat.ne_of_lt (Heap.lt_size g1))]
  exact I.freeC y c (hcl.at e)
 ·obtain ⟨n,e⟩:=hD
  exact I.hok.laid old (Nat.le_refl _) ⟨Nat.zero_le _,[],n,.nil,e⟩
 ·show (none::σ).length=(compN x X.N).length
  simp [compN,I.len]
theorem fpC (I:Inv X pins σ H₂ s₂) (hf:∀ b ∈ fp,FpOk X pins H₂ b) (ho:∀ b ∈ fp,∃ o,s₂.heap.get? b=some o) (hcl:ClOk X cl) (hC:s₂.heap.objs.size<=C) {H:Hp} (hn:∀ b ∈ fp,H b=none):∀ b ∈ fp,FpOk (cxC X x scope cl C s₂ H₂ fp) [] H b:=λb hb=>by
 obtain ⟨o,e⟩:=ho b hb
 refine ⟨hn b hb,Nat.ne_of_lt (Nat.lt_of_lt_of_le (Heap.lt_size e) hC),λz=>?_,.inl hb,λy c h=>(hf b hb).2.2.2.2.1 y c (hcl.at h),λp hp=>absurd (show p ∈ ([]:List (Addr×Obj)) from hp) (by simp)⟩
 rcases List.mem_cons.mp (I.stkSub b z) with q | q
 ·exact (hf b hb).2.1 q
 ·exact (hf b hb).2.2.1 q
end
theorem compLoop_go {prog:Program} {w:World} {A:Around} {R:Result->Shared->Prop} {s:Shared} {elt target iter:Expr} {ifs:List Expr} {scope:Scope} {pos:Pos} {it acc:Value} {env:Env} (I:Nat->Shared->Prop)
  (turn:∀ n s,I n s->wpAny (model prog w) A (pyNext it) (λr s₁=>match r with
   | none=>R (.ok .next) s₁
   | some v=>wpAny (model prog w) A (letOwnedTupleGo target it v) (λ_ s₀=>wpAny (model prog w) A (assign target env v) (λ_ s₂ =>
     wpAny (model prog w) A (forIn ifs true λc r=>if r=true then do let ok <- isTrue c env (eval c env); pure (ForInStep.yield ok) else pure (ForInStep.yield r)) (λok s₃ =>
      if ok=true then wpAny (model prog w) A (eval elt env) (λx s₄ =>
       wpAny (model prog w) A (call (.builtin "list.append") [acc,x]) (λ_ s₅=>∃ m,m<n/\I m s₅) (λ_ _=>False) s₄) (λ_ _=>False) s₃
      else ∃ m,m<n/\I m s₃) (λ_ _=>False) s₂) (λ_ _=>False) s₀) (λ_ _=>False) s₁) (λ_ _=>False) s)
  (n:Nat) (h:I n s) :
  codeAny (model prog w) A (.compLoop (.ListComp elt [⟨target,iter,ifs,0⟩] scope pos) 0 it acc env) R s:=by
 refine codeAny_loop rfl I (λn s hI=>?_) n h
 show wpAny _ A ((compTurn (.ListComp elt [⟨target,iter,ifs,0⟩] scope pos) 0 it acc env).onRaise (λx=>do noteFrame x env; theTreesLotGoes x)) _ _ s
 refine wpAny_noted ?_
 refine wpAny_noRaise ?_
 rw [compTurn_list]
 refine wpAny_bind (wpAny_standAt (wpAny_bind (wpAny_mono (turn n s hI) (λr s₁ h₁=>?_) λ_ _ h'=>h')))
 cases r with
 | none=>exact wpAny_pure h₁
 | some v =>
  refine wpAny_bind (wpAny_mono h₁ (λ_ s₀ h₀=>wpAny_bind (wpAny_mono h₀ (λ_ s₂ h₂=>wpAny_bind (wpAny_mono h₂ (λok s₃ h₃=>?_) λ_ _ h'=>h')) λ_ _ h'=>h')) λ_ _ h'=>h')
  cases ok with
  | false=>exact wpAny_pure ⟨rfl,h₃⟩
  | true =>
   exact wpAny_bind (wpAny_bind (wpAny_mono h₃ (λx s₄ h₄=>wpAny_bind (wpAny_mono h₄ (λ_ s₅ h₅=>wpAny_pure (wpAny_pure ⟨rfl,h₅⟩)) λ_ _ h'=>h')) λ_ _ h'=>h'))
inductive Ifs (PTc:Expr->TT->Prop):List Expr->TT->Prop
 | nil:Ifs PTc [] (λ_ H Q=>Q true H)
 | one {c:Expr} {t:TT}:PTc c t->Ifs PTc [c] t
def tComp (wi:TI) (tc:TT) (te:TE):TE:=λσ H Q=>wi σ H λJ H1=>∀ D,H1 D=none->∃ W:Nat->Nat->List V->Hp->Prop,(∃ m,W 0 m [] (upd H1 D (.lst [])))/\∀ i m ys H,W i m ys H->H D=some (.lst ys) /\
 ((J.stop i H/\Q (.ref D) H)\/(J.go i H/\∃ N:List V->Hp->Prop,(∀ zs H',N zs H'->∃ m',m'<m/\W (i+1) m' zs H')/\∀ x H',J.yld i H x H'->tc (some x::σ) H' λb H2=>if b=true then te (some x::σ) H2 λy H3=>H3 D=some (.lst ys)/\ys.length<sizeLine/\N (ys++[y]) (upd H3 D (.lst (ys++[y])))
  else N ys H2))
section
variable {X : Cx} {x : Str} {px pos : Pos} {scope : Scope} {cl : List (Str × Addr)} {elt iter : Expr} {ifs : List Expr} {wi : TI} {tc : TT} {te : TE}
theorem comp_block (hcalm:X.calm=true) (hkind:scope.kind=.function) (hnc:∀ y ∈ scope.names,y.2≠.cell) (hc:CapOk X x cl (relabel scope X.env).names) (hcl:ClOk X cl) (hx0:x≠"") (hdot:(".0":Str) ∉ X.N) (hxl:scope.names.lookup x=some .local) (hN:(compN x X.N).Nodup)
  (ht:∀ C s₂ H₂ fp,Ifs (PT (cxC X x scope cl C s₂ H₂ fp)) ifs tc) (he:∀ C s₂ H₂ fp,PE (cxC X x scope cl C s₂ H₂ fp) elt te)
  {pins:List (Addr×Obj)} {σ:St} {H₂:Hp} {s₂:Shared} {Q:VK} {it:Addr} {fp:List Addr} {tn:Nat->Heap->Prop} {J:It} {RR:Value->Addr->Result->Shared->Prop} {E:Value->Shared->Prop} (I:Inv X pins σ H₂ s₂) (T:Turn X.prog X.w X.K (.Name x px) J fp it tn) (st:tn 0 s₂.heap)
  (hf:∀ b ∈ fp,FpOk X pins H₂ b)
  (hq:∀ D,H₂ D=none->∃ W:Nat->Nat->List V->Hp->Prop,(∃ m,W 0 m [] (upd H₂ D (.lst [])))/\∀ i m ys H,W i m ys H->H D=some (.lst ys) /\
   ((J.stop i H/\Q (.ref D) H)\/(J.go i H/\∃ N:List V->Hp->Prop,(∀ zs H',N zs H'->∃ m',m'<m/\W (i+1) m' zs H')/\∀ x H',J.yld i H x H'->tc (some x::σ) H' λb H2=>if b=true then te (some x::σ) H2 λy H3=>H3 D=some (.lst ys)/\ys.length<sizeLine/\N (ys++[y]) (upd H3 D (.lst (ys++[y])))
    else N ys H2)))
  (hRR:∀ D C s' H',Inv X pins σ H' s'->Q (.ref D) H'->H' C=none->C≠X.env.locals->X.s₀.heap.objs.size<=C->(∀ y c,X.env.cells.lookup y=some c->c≠C)->(∀ p ∈ X.pn++pins,p.1≠C)->(∃ m,s'.heap.Ns C m)->RR (.ref D) C (.ok .next) s') :
  wpAny (model X.prog X.w) X.A (newList []) (λacc s₃=>wpAny (model X.prog X.w) X.A (newFunctionEnv scope X.env.globals cl [] X.env.qual none .none (some X.env)) (λcenv s₄ =>
   codeAny (model X.prog X.w) X.A (.compStart (.ListComp elt [⟨.Name x px,iter,ifs,0⟩] scope pos) 0 (.ref it) acc { cenv with scope:=relabel scope X.env }) (RR acc cenv.locals) s₄) E s₃) E s₂:=by
 refine wpAny_newObj_type (wpAny_newFunctionEnv hnc (by intro y hy; simp at hy) (λh₁ hns₁ hsb₁=>?_) hkind)
 dsimp only at hns₁ hsb₁ ⊢
 have ho:∀ b ∈ fp,∃ o,s₂.heap.get? b=some o:=λb hb=>let ⟨o,e,_⟩:=T.obj 0 _ st b hb; ⟨o,e⟩
 generalize hH2:s₂.heap.push { cls:=.type "list",dict:=none,data:=.seq ([]:List Value).toArray }=P2 at hns₁ hsb₁ ⊢
 have hC:P2.objs.size=s₂.heap.objs.size+1:=by rw [<- hH2,Heap.size_push]
 have old:∀ b o,s₂.heap.get? b=some o->h₁.get? b=some o:=λb o e=>hsb₁.extBut b o (by rw [hC]; exact Nat.ne_of_lt (Nat.lt_succ_of_lt (Heap.lt_size e))) (Heap.get?_push_of_some _ (hH2 ▸ Heap.get?_push_of_some _ e))
 have hD:∃ n,h₁.get? s₂.heap.objs.size=some { cls:=.type "list",data:=.seq #[] n }:=⟨_,hsb₁.extBut _ _ (by rw [hC]; exact Nat.ne_of_lt (Nat.lt_succ_self _)) (Heap.get?_push_of_some _ (hH2 ▸ Heap.get?_push_size _ rfl))⟩
 have hns':h₁.Ns P2.objs.size λ_=>none:=by
  have e:(λx:Str=>([]:List (Str×Value)).reverse.lookup x)=λ_=>none:=by funext y; rfl
  rw [<- e]
  exact hns₁
 have I0:=invC (tk:=s₂.toks+([]:List (Str×Value)).length) I hf ho hkind hc hcl hx0 hdot hC hns' old hD
 obtain ⟨W,⟨m0,w0⟩,turn⟩:=hq _ (I.hok.fresh (Nat.le_refl _))
 have hCs:X.s₀.heap.objs.size<=P2.objs.size:=by rw [hC]; exact Nat.le_succ_of_le I.sz
 have loop:∀ s₃:Shared,s₃={ s₂ with heap:=h₁,toks:=s₂.toks+([]:List (Str×Value)).length } ->
   codeAny (model X.prog X.w) X.A (.compLoop (.ListComp elt [⟨.Name x px,iter,ifs,0⟩] scope pos) 0 (.ref it) (.ref s₂.heap.objs.size) (compEnvC scope cl P2.objs.size X.env)) (RR (.ref s₂.heap.objs.size) P2.objs.size) s₃:=by
  rintro s₃ rfl
  refine compLoop_go (λn s'=>∃ i ys v H,Inv (cxC X x scope cl P2.objs.size s₂ H₂ fp) [] (v::σ) H s'/\tn i s'.heap/\(∀ b ∈ fp,H b=none)/\W i n ys H) ?_ m0
   ⟨0,[],none,_,I0,T.keep _ _ _ st λb _ o e=>old b o e,λb hb=>by rw [upd_ne (by obtain ⟨o,e⟩:=ho b hb; exact Nat.ne_of_lt (Heap.lt_size e))]; exact (hf b hb).1,w0⟩
  rintro n s' ⟨i,ys,v,H,I',st',fr',w'⟩
  have fpn:∀ {H:Hp},(∀ b ∈ fp,H b=none)->∀ b ∈ fp,FpOk (cxC X x scope cl P2.objs.size s₂ H₂ fp) [] H b:=λhn=>fpC I hf ho hcl (by rw [hC]; exact Nat.le_succ _) hn
  obtain ⟨hDl,go⟩:=turn i n ys H w'
  rcases go with ⟨stop,qn⟩ | ⟨go,Nx,hNx,step⟩
  ·refine wpAny_mono (T.done (cxC X x scope cl P2.objs.size s₂ H₂ fp) rfl rfl rfl hcalm i [] s' (v::σ) H (λ_ _=>False) I' (fpn fr') st' stop) (λr s4 z=>?_) λ_ _ z=>z
   obtain ⟨hr,I4⟩:=z
   subst hr
   obtain ⟨m4,hm4,_⟩:=I4.loc
   refine hRR _ _ s4 H (I.call' I4.os I4.base I4.hok I4.bare λb hb=>?_) qn I4.free ?_ hCs (λy c e z=>?_) (λp hp z=>?_) ⟨m4,hm4⟩
   ·obtain ⟨f0,f1,f2,f3,f4,f5⟩:=hf b hb
    exact ⟨f3,f1,f4,f5⟩
   ·rw [hC]
    exact Nat.ne_of_gt (Nat.lt_succ_of_lt I.lt)
   ·obtain ⟨v',oc,g1,_⟩:=I.cell y c e
    have:=Heap.lt_size g1
    rw [z,hC] at this
    exact absurd (Nat.lt_of_succ_lt this) (Nat.lt_irrefl _)
   ·have:=Heap.lt_size (I.pin p hp).1
    rw [z,hC] at this
    exact absurd (Nat.lt_of_succ_lt this) (Nat.lt_irrefl _)
  ·refine wpAny_mono (T.item (cxC X x scope cl P2.objs.size s₂ H₂ fp) rfl rfl rfl hcalm i [] s' (v::σ) H (λ_ _=>False) I' (fpn fr') st' go) (λr s4 z=>?_) λ_ _ z=>z
   obtain ⟨u,hr,h4⟩:=z
   subst hr
   refine wpAny_mono h4 (λ_ s5 z=>?_) λ_ _ z=>z
   obtain ⟨y,H5,I5,r5,y5,st5,fr5⟩:=z
   have I5':=I5.pinned (fpn fr5) (T.obj _ _ st5)
   have hxl':(relabel scope X.env).names.lookup x=some .local:=lookup_relabel_local hxl
   have hs:=step y H5 y5
   refine wpAny_mono (pg_name (X:=cxC X x scope cl P2.objs.size s₂ H₂ fp) (i:=0) (pos:=px) hN rfl (.inl hxl') (.inr hxl') _ s5 (v::σ) H5 y u (λσ6 H6=>σ6=some y::σ/\H6=H5) I5' r5 ⟨rfl,rfl⟩) (λ_ s6 z=>?_) λ_ _ z=>z
   obtain ⟨σ6,H6,I6,rfl,rfl⟩:=z
   have again:∀ {H7:Hp} {s7:Shared} {zs:List V},Inv (cxC X x scope cl P2.objs.size s₂ H₂ fp) ([]++pinsAt fp s5.heap) (some y::σ) H7 s7->Nx zs H7 ->
     ∃ m,m<n/\∃ i ys v H,Inv (cxC X x scope cl P2.objs.size s₂ H₂ fp) [] (v::σ) H s7/\tn i s7.heap/\(∀ b ∈ fp,H b=none)/\W i m ys H:=λ{H7 s7 zs} I7 w7=>by
    obtain ⟨m',hm,w7⟩:=hNx _ _ w7
    refine ⟨m',hm,i+1,zs,some y,H7,I7.unpinned,T.keep _ _ _ st5 λb hb o e=>(I7.pin (b,o) (List.mem_append_right _ (List.mem_append_right _ (mem_pinsAt hb e)))).1,λb hb=>?_,w7⟩
    obtain ⟨o,e,d⟩:=T.obj _ _ st5 b hb
    exact (I7.pin (b,o) (List.mem_append_right _ (List.mem_append_right _ (mem_pinsAt hb e)))).2.1
   have elts:∀ {H7:Hp} {s7:Shared},Inv (cxC X x scope cl P2.objs.size s₂ H₂ fp) ([]++pinsAt fp s5.heap) (some y::σ) H7 s7 ->
     (te (some y::σ) H7 λy' H3=>H3 s₂.heap.objs.size=some (.lst ys)/\ys.length<sizeLine/\Nx (ys++[y']) (upd H3 s₂.heap.objs.size (.lst (ys++[y'])))) ->
     wpAny (model X.prog X.w) X.A (eval elt (compEnvC scope cl P2.objs.size X.env)) (λxv s₄ =>
       wpAny (model X.prog X.w) X.A (call (.builtin "list.append") [.ref s₂.heap.objs.size,xv]) (λ_ s₅=>∃ m,m<n/\∃ i ys v H,Inv (cxC X x scope cl P2.objs.size s₂ H₂ fp) [] (v::σ) H s₅/\tn i s₅.heap/\(∀ b ∈ fp,H b=none)/\W i m ys H) (λ_ _=>False) s₄) (λ_ _=>False) s7:=λ{H7 s7} I7 q7=>by
    refine wpAny_mono (he P2.objs.size s₂ H₂ fp _ s7 (some y::σ) H7 _ I7 q7) (λu8 s8 z=>?_) λ_ _ z=>z
    obtain ⟨y',H8,I8,r8,hD8,hz8,w8⟩:=z
    refine wpAny_mono (mt_append (X:=cxC X x scope cl P2.objs.size s₂ H₂ fp) _ s8 (some y::σ) H8 (.ref s₂.heap.objs.size) [y'] (.ref s₂.heap.objs.size) [u8] (λ_ H9=>H9=upd H8 s₂.heap.objs.size (.lst (ys++[y']))) I8 rfl (.cons r8 .nil) ⟨_,ys,y',rfl,rfl,hD8,hz8,rfl⟩) (λ_ s9 z=>?_) λ_ _ z=>z
    obtain ⟨_,H9,I9,_,rfl⟩:=z
    exact again I9 w8
   cases ht P2.objs.size s₂ H₂ fp with
   | nil=>exact wpAny_tests_nil (elts I6 hs)
   | one hc1 =>
    refine wpAny_tests_one (wpAny_mono (hc1 _ s6 (some y::σ) _ _ I6 hs) (λb s7 z=>?_) λ_ _ z=>z)
    obtain ⟨H7,I7,q7⟩:=z
    cases b with
    | true=>exact elts I7 q7
    | false=>exact again I7 q7
 exact codeAny_compStart_list (loop _ rfl) (T.self _ 0 _ _ _ (T.keep _ _ _ st λb _ o e=>old b o e) (loop _ rfl))
theorem pe_comp (hcalm:X.calm=true) (hi:PI X (.Name x px) iter wi) (hclos:closureFor scope X.env=pure cl) (hc:CapOk X x cl (relabel scope X.env).names) (hcl:ClOk X cl)
  (ht:∀ C s₂ H₂ fp,Ifs (PT (cxC X x scope cl C s₂ H₂ fp)) ifs tc) (he:∀ C s₂ H₂ fp,PE (cxC X x scope cl C s₂ H₂ fp) elt te) (hN:(compN x X.N).Nodup)
  (hkind:scope.kind=.function:=by rfl) (hnc:∀ y ∈ scope.names,y.2≠.cell:=by decide +kernel) (hnm:∀ y ∈ scope.names,y.2=.local->scope.names.lookup y.1=some .local:=by decide +kernel) (hx0:x≠"":=by decide +kernel) (hdot:(".0":Str) ∉ X.N:=by decide +kernel) (hxl:scope.names.lookup x=some .local:=by rfl)
  (hs:∀ x,foldedSetIterable iter X.env x=pure x:=by intro _; rfl):PE X (.ListComp elt [⟨.Name x px,iter,ifs,0⟩] scope pos) (tComp wi tc te):=by
 intro pins s σ H Q I h
 rw [eval_ListComp]
 refine wpAny_comprehension_free (use:=none) rfl hs hclos hkind hnm (wpAny_mono (hi pins s σ H _ I h) (λxv s₁ h₁=>wpAny_mono h₁ (λitv s₂ h₂=>?_) λ_ _ e=>e) λ_ _ e=>e)
 obtain ⟨it,fp,tn,J,H2,e,I2,T,st2,f2,hq⟩:=h₂
 subst e
 refine comp_block (RR:=λacc C=>compPost (model X.prog X.w) X.A X.xe none (EP X pins σ Q) acc C) hcalm hkind hnc hc hcl hx0 hdot hxl hN ht he I2 T st2 f2 hq λD C s' H' I' q' n1 n2 n3 n4 n5 n6=>?_
 obtain ⟨m,hm⟩:=n6
 refine ⟨m,hm,λh' hs'=>?_⟩
 exact ⟨.ref D,H',I'.turned (t':=s'.toks) (λb o hb e=>(hs'.2 b hb).trans e) n1 n2 (.inr n3) n4 n5,rfl,q'⟩
theorem ps_setC {i:Nat} {y:Str} {py spos:Pos} (hN0:X.N.Nodup) (hy:X.N[i]?=some y) (hyl:X.env.scope.names.lookup y=some .local) (hsw:swapsWith (.ListComp elt [⟨.Name x px,iter,ifs,0⟩] scope pos) (some (.Name y py)) spos.line X.env=pure true) (hcalm:X.calm=true) (hi:PI X (.Name x px) iter wi) (hclos:closureFor scope X.env=pure cl) (hc:CapOk X x cl (relabel scope X.env).names) (hcl:ClOk X cl)
  (ht:∀ C s₂ H₂ fp,Ifs (PT (cxC X x scope cl C s₂ H₂ fp)) ifs tc) (he:∀ C s₂ H₂ fp,PE (cxC X x scope cl C s₂ H₂ fp) elt te) (hN:(compN x X.N).Nodup)
  (hkind:scope.kind=.function:=by rfl) (hnc:∀ y ∈ scope.names,y.2≠.cell:=by decide +kernel) (hnm:∀ y ∈ scope.names,y.2=.local->scope.names.lookup y.1=some .local:=by decide +kernel) (hx0:x≠"":=by decide +kernel) (hdot:(".0":Str) ∉ X.N:=by decide +kernel) (hxl:scope.names.lookup x=some .local:=by rfl)
  (hs:∀ x,foldedSetIterable iter X.env x=pure x:=by intro _; rfl):PS X (.Assign [.Name y py] (.ListComp elt [⟨.Name x px,iter,ifs,0⟩] scope pos) spos) (tAsg (tComp wi tc te) (gName i)):=by
 intro pins s σ H D I h
 rw [exec_Assign_Name_used _ _ _ _ hsw]
 refine wpAny_bind (wpAny_standAt (wpAny_bind ?_))
 show wpAny _ _ (do let _ <- comprehension (.ListComp elt [⟨.Name x px,iter,ifs,0⟩] scope pos) scope X.env _ (newList []) false (eval iter X.env) (some (assign (.Name y py) X.env))) _ _ s
 refine wpAny_bind (wpAny_mono (wpAny_comprehension_free (use:=some (assign (.Name y py) X.env)) (Q:=λ_ s'=>SP X pins D .next s') rfl hs hclos hkind hnm
  (wpAny_mono (hi pins s σ H _ I h) (λxv s₁ h₁=>wpAny_mono h₁ (λitv s₂ h₂=>?_) λ_ _ e=>e) λ_ _ e=>e)) (λ_ s' hq=>wpAny_pure (wpAny_pure hq)) λ_ _ e=>e)
 obtain ⟨it,fp,tn,J,H2,e,I2,T,st2,f2,hq⟩:=h₂
 subst e
 refine comp_block (Q:=λx H1=>gName i x σ H1 D.nx) (RR:=λacc C=>compPost (model X.prog X.w) X.A X.xe (some (assign (.Name y py) X.env)) (λ_ s'=>SP X pins D .next s') acc C) hcalm hkind hnc hc hcl hx0 hdot hxl hN ht he I2 T st2 f2 hq λD' C s' H' I' q' n1 n2 n3 n4 n5 n6=>?_
 obtain ⟨m,hm⟩:=n6
 show wpAny _ _ (assign (.Name y py) X.env (.ref D')) _ _ _
 refine wpAny_assign_Name (store_ok2 I' hN0 hy (.inl hyl) (show RelV (.ref D') (.ref D') from rfl) (λs7 I7 z=>?_) (.inr hyl))
 obtain ⟨a,sb,ha⟩:=z
 have hCa:C≠a:=by
  rcases ha with rfl | ha
  ·exact n2
  ·exact (n4 y a ha).symm
 refine ⟨m,hm.sameBut sb hCa,λh' hs'=>?_⟩
 exact ⟨_,H',I7.turned (t':=s7.toks) (λb o hb e=>(hs'.2 b hb).trans e) n1 n2 (.inr n3) n4 n5,q'⟩
end
abbrev tYes:TT:=λ_ H Q=>Q true H
theorem comp_list {K:PySem.W.Frag} {a:Addr} {xs:List V} {tc:TT} {te:TE} {σ:St} {H1:Hp} {Q:Addr->Hp->Prop} (Pv:Addr->Nat->List V->Hp->Prop) (h0:∀ D,H1 D=none->Pv D 0 [] (upd H1 D (.lst []))) (hl:∀ D i ys H,i<=xs.length->Pv D i ys H->SqL K H a xs/\H D=some (.lst ys))
  (hs:∀ D i x ys H,xs[i]?=some x->Pv D i ys H->tc (some x::σ) H λb H2=>if b=true then te (some x::σ) H2 λy H3=>H3 D=some (.lst ys)/\ys.length<sizeLine/\Pv D (i+1) (ys++[y]) (upd H3 D (.lst (ys++[y]))) else Pv D (i+1) ys H2)
  (hd:∀ D ys H,Pv D xs.length ys H->Q D H) :
  ∀ D,H1 D=none->∃ W:Nat->Nat->List V->Hp->Prop,(∃ m,W 0 m [] (upd H1 D (.lst [])))/\∀ i m ys H,W i m ys H->H D=some (.lst ys) /\
   (((Itl K a).stop i H/\Q D H)\/((Itl K a).go i H/\∃ N:List V->Hp->Prop,(∀ zs H',N zs H'->∃ m',m'<m/\W (i+1) m' zs H')/\∀ x H',(Itl K a).yld i H x H'->tc (some x::σ) H' λb H2=>if b=true then te (some x::σ) H2 λy H3=>H3 D=some (.lst ys)/\ys.length<sizeLine/\N (ys++[y]) (upd H3 D (.lst (ys++[y])))
    else N ys H2)):=λD hD=>by
 refine ⟨λi m ys H=>m=xs.length - i/\i<=xs.length/\Pv D i ys H,⟨xs.length,by simp,Nat.zero_le _,h0 D hD⟩,?_⟩
 rintro i m ys H ⟨rfl,hi,p⟩
 obtain ⟨q,qd⟩:=hl D i ys H hi p
 refine ⟨qd,?_⟩
 by_cases hlt:i<xs.length
 ·refine .inr ⟨⟨xs,xs[i],q,by simp [hlt]⟩,Pv D (i+1),λzs H' p'=>⟨xs.length - (i+1),by omega,rfl,hlt,p'⟩,λx H' y=>?_⟩
  obtain ⟨e,y⟩:=y
  subst e
  exact hs D i x ys _ (y xs q) p
 ·have e:i=xs.length:=by omega
  subst e
  exact .inl ⟨⟨xs,q,Nat.le_refl _⟩,hd D ys H p⟩
end L2
end
section
namespace L2
open PySem PySem.Spec PyProof.Rows
theorem iteTS {c:Bool} {A B:Prop} (hc:c=true) (h:A):if c=true then A else B:=by
 rw [if_pos hc]
 exact h
theorem iteFS {c:Bool} {A B:Prop} (hc:c=false) (h:B):if c=true then A else B:=by
 rw [hc]
 exact iteF h
theorem call_allB {X:Cx} (hc:X.calm=true):CallR X (.builtin "all") (λxs H Q=>∃ (l:Addr) (bs:List Bool),xs=[.ref l]/\H l=some (.lst (bs.map V.bl))/\Q (.bl (bs.all id)) H):=by
 intro pins s σ H xs us Q I r h
 obtain ⟨l,bs,rfl,hl,q⟩:=h
 obtain ⟨u,rfl,ru⟩:=r.one
 obtain rfl:u=Value.ref l:=ru
 obtain ⟨its,rv,p,hz⟩:=I.list (SqL.of hl)
 have hlt:l<s.heap.objs.size:=by obtain ⟨_,_,e,_⟩:=p; exact Heap.lt_size e
 refine call_all_walk (wpAny_pyIter_list p.isList ?_)
 refine ⟨s.heap.objs.size,[s.heap.objs.size,l],[s.heap.objs.size],its.toArray.size,_,_,λi=>(bs[i]?).getD true,rfl,Walks.list (A:=X.A.in1) (I.ok.hd hc) _ l (Nat.ne_of_lt hlt) its.toArray,
  ⟨⟨_,Heap.get?_push_size _ rfl,rfl,rfl⟩,p.isList.push _⟩,λi v s' Q' E' hP hQ=>?_,λh' tk hk=>?_⟩
 ·have hi:its[i]?=some v:=by simpa using hP
  have hlen:=rv.length
  have hib:i<its.length:=(List.getElem?_eq_some_iff.mp hi).1
  obtain ⟨u,e1,e2⟩:=rv.get (i:=i) (x:=V.bl ((bs[i]?).getD true)) (by
   rw [List.getElem?_map,List.getElem?_eq_getElem (by rw [List.length_map] at hlen; omega)]
   rfl)
  rw [hi] at e1
  cases e1
  cases e2
  exact wpAny_truthy_bool hQ
 ·have e:((List.range its.toArray.size).all λi=>(bs[i]?).getD true)=bs.all id:=by
   have hlen:=rv.length
   rw [List.length_map] at hlen
   rw [List.size_toArray,<- hlen]
   exact PyProof.Rows.LSm.range_all bs
  rw [e]
  exact ⟨.bl _,H,I.kept (t':=tk) λb o z=>hk b o (by have:=Heap.lt_size z; intro q; rw [List.mem_singleton] at q; rw [q] at this; exact Nat.lt_irrefl _ this) (Heap.get?_push_of_some _ z),rfl,q⟩
theorem isLst_of {H:Hp} {p:Addr} {xs:List V} (h:H p=some (.lst xs)):isLst H (.ref p)=true:=by
 unfold isLst
 dsimp only
 rw [h]
abbrev Pgs:=List (Option (Addr×List Int))
def pgV:Option (Addr×List Int)->V
 | none=>.non
 | some (p,_)=>.ref p
def cont (ps:Pgs):List (Option (List Int)):=ps.map (Option.map (·.2))
structure Pg (H:Hp) (a:Addr) (ps:Pgs):Prop where
 top:H a=some (.lst (ps.map pgV))
 each:∀ (i:Nat) (p:Addr) (ws:List Int),ps[i]?=some (some (p,ws))->H p=some (.lst (ws.map V.int))/\p≠a
 nd:∀ (i j:Nat) (p:Addr) (ws ws':List Int),ps[i]?=some (some (p,ws))->ps[j]?=some (some (p,ws'))->i=j
def At (a:Addr) (ps:Pgs) (b:Addr):Prop:=b=a\/∃ (i:Nat) (ws:List Int),ps[i]?=some (some (b,ws))
theorem Pg.same {H H':Hp} {a:Addr} {ps:Pgs} (g:Pg H a ps) (s:Same H H'):Pg H' a ps:=⟨s _ _ g.top,λi p ws e=>⟨s _ _ (g.each i p ws e).1,(g.each i p ws e).2⟩,g.nd⟩
theorem Pg.keep {H H':Hp} {a:Addr} {ps:Pgs} (g:Pg H a ps) (s:∀ b,At a ps b->H' b=H b):Pg H' a ps :=
 ⟨(s a (.inl rfl)).trans g.top,λi p ws e=>⟨(s p (.inr ⟨i,ws,e⟩)).trans (g.each i p ws e).1,(g.each i p ws e).2⟩,g.nd⟩
theorem Pg.at {H:Hp} {a b:Addr} {ps:Pgs} (g:Pg H a ps) (h:At a ps b):∃ o,H b=some o:=by
 rcases h with rfl | ⟨i,ws,e⟩
 ·exact ⟨_,g.top⟩
 ·exact ⟨_,(g.each i b ws e).1⟩
theorem atI_word {ws:List Int} {j:Nat} (h:j<ws.length):atI (ws.map V.int) (j:Int)=some (.int (ws.getD j 0)):=by
 refine atI_nat ?_
 rw [List.getElem?_map,List.getElem?_eq_getElem h,List.getD_eq_getElem?_getD,List.getElem?_eq_getElem h]
 rfl
theorem ixN_nat {n j:Nat} (h:j<n):ixN n (j:Int)=some j:=by
 unfold ixN
 rw [if_pos (Int.natCast_nonneg j),if_pos (by omega),Int.toNat_natCast]
theorem cont_len {ps qs:Pgs} (h:cont ps=cont qs):ps.length=qs.length:=by
 have:=congrArg List.length h
 unfold cont at this
 rw [List.length_map,List.length_map] at this
 exact this
theorem cont_at {ps qs:Pgs} (h:cont ps=cont qs) (i:Nat):(ps[i]?).map (Option.map (·.2))=(qs[i]?).map (Option.map (·.2)):=by
 have:=congrArg (λl=>l[i]?) h
 unfold cont at this
 simpa using this
theorem cont_some {ps qs:Pgs} (h:cont ps=cont qs) {i:Nat} {p:Addr} {ws:List Int} (e:ps[i]?=some (some (p,ws))):∃ q,qs[i]?=some (some (q,ws)):=by
 have z:=cont_at h i
 rw [e] at z
 cases f:qs[i]? with
 | none=>rw [f] at z; cases z
 | some o =>
  rw [f] at z
  cases o with
  | none=>cases z
  | some x =>
   obtain ⟨q,vs⟩:=x
   have z':ws=vs:=by simpa using z
   subst z'
   exact ⟨q,rfl⟩
theorem same_new {H:Hp} {p:Addr} {o:HO} (h:H p=none):Same H (upd H p o):=λb u e=>by
 rw [upd_ne (ne_of_none e h)]
 exact e
theorem Same.set {H H':Hp} {t:Addr} {o:HO} (s:Same H H') (h:H t=none):Same H (upd H' t o):=λb u e=>by
 rw [upd_ne (ne_of_none e h)]
 exact s b u e
def Good (ps:Pgs):Prop:=∀ (i:Nat) (p:Addr) (ws:List Int),ps[i]?=some (some (p,ws))->ws.length=8/\∀ w ∈ ws,0<=w/\w<281474976710656
def tCopy (K:PySem.W.Frag):TE:=tIf (tTest (tOp (λx y H Q=>y=.non/\Q (.bl (decide (x=.non))) H) (tVar 0) (tC .non))) (tC .non) (tCB (λxs H Q=>∃ p ys,xs=[.ref p]/\(SqL K H p ys\/SqT K H p ys)/\∀ l,H l=none->Q (.ref l) (upd H l (.lst ys))) (tCons (tVar 0) tNil))
theorem copy_pages {K:PySem.W.Frag} {a:Addr} {ps:Pgs} {σ:St} {H:Hp} {Q:Addr->Hp->Prop} (g:Pg H a ps) (hl:ps.length<=1000)
  (q:∀ D H' qs,Same H H'->Pg H' D qs->cont qs=cont ps->(∀ b,At D qs b->H b=none)->Q D H') :
  ∀ D,H D=none->∃ W:Nat->Nat->List V->Hp->Prop,(∃ m,W 0 m [] (upd H D (.lst [])))/\∀ i m ys H,W i m ys H->H D=some (.lst ys) /\
   (((Itl K a).stop i H/\Q D H)\/((Itl K a).go i H/\∃ N:List V->Hp->Prop,(∀ zs H',N zs H'->∃ m',m'<m/\W (i+1) m' zs H')/\∀ x H',(Itl K a).yld i H x H'->tYes (some x::σ) H' λb H2=>if b=true then tCopy K (some x::σ) H2 λy H3=>H3 D=some (.lst ys)/\ys.length<sizeLine/\N (ys++[y]) (upd H3 D (.lst (ys++[y])))
    else N ys H2)):=by
 refine comp_list (xs:=ps.map pgV) (λD i ys H'=>∃ qs:Pgs,H D=none/\Same H H'/\Pg H' D qs/\ys=qs.map pgV/\qs.length=i/\cont qs=cont (ps.take i)/\∀ b,At D qs b->H b=none) ?_ ?_ ?_ ?_
 ·intro D hD
  refine ⟨[],hD,same_new hD,⟨upd_same,λi p ws e=>by simp at e,λi j p ws ws' e=>by simp at e⟩,rfl,rfl,rfl,λb h=>?_⟩
  rcases h with rfl | ⟨i,ws,e⟩
  ·exact hD
  ·simp at e
 ·rintro D i ys H' _ ⟨qs,_,ss,g',rfl,_,_,_⟩
  exact ⟨SqL.of (ss _ _ g.top),g'.top⟩
 ·rintro D i x ys H' hi ⟨qs,hD,ss,g',rfl,hq,hc,hfr⟩
  rw [List.getElem?_map] at hi
  cases e:ps[i]? with
  | none=>rw [e] at hi; cases hi
  | some o =>
   rw [e] at hi
   have hi':pgV o=x:=Option.some.inj hi
   subst hi'
   have hil:i<ps.length:=(List.getElem?_eq_some_iff.mp e).1
   have hlen:(qs.map pgV).length<sizeLine:=by
    rw [List.length_map,hq]
    exact Nat.lt_of_lt_of_le (by omega:i<1001) (by decide)
   have htake:ps.take (i+1)=ps.take i++[o]:=by
    rw [List.take_add_one,e]
    rfl
   refine iteT ?_
   have more:∀ (o':Option (Addr×List Int)) (H2:Hp),o'.map (·.2)=o.map (·.2)->Same H' H2->(∀ p ws,o'=some (p,ws)->H2 p=some (.lst (ws.map V.int))/\H' p=none) ->
     H2 D=some (.lst (qs.map pgV))/\(qs.map pgV).length<sizeLine/\∃ qs':Pgs,H D=none/\Same H (upd H2 D (.lst (qs.map pgV++[pgV o'])))/\Pg (upd H2 D (.lst (qs.map pgV++[pgV o']))) D qs'/\qs.map pgV++[pgV o']=qs'.map pgV/\qs'.length=i+1/\cont qs'=cont (ps.take (i+1))/\∀ b,At D qs' b->H b=none:=λo' H2 ho s2 hn=>by
    refine ⟨s2 _ _ g'.top,hlen,qs++[o'],hD,Same.set (ss.trans s2) hD,⟨by rw [upd_same,List.map_append]; rfl,λk p ws z=>?_,λk l p ws ws' z1 z2=>?_⟩,by rw [List.map_append]; rfl,by rw [List.length_append,hq]; rfl,?_,λb hb=>?_⟩
    ·rcases Nat.lt_or_ge k qs.length with hk | hk
     ·rw [List.getElem?_append_left hk] at z
      have:=g'.each k p ws z
      refine ⟨?_,this.2⟩
      rw [upd_ne this.2]
      exact s2 _ _ this.1
     ·rw [List.getElem?_append_right hk] at z
      have hk':k - qs.length=0:=by
       rcases Nat.eq_zero_or_pos (k - qs.length) with h | h
       ·exact h
       ·rw [List.getElem?_eq_none (by simp; omega)] at z
        cases z
      rw [hk'] at z
      obtain ⟨z1,z2⟩:=hn p ws (Option.some.inj z)
      have ne:p≠D:=λq=>by rw [q,g'.top] at z2; cases z2
      refine ⟨?_,ne⟩
      rw [upd_ne ne]
      exact z1
    ·have split:∀ (k:Nat) (vs:List Int),(qs++[o'])[k]?=some (some (p,vs))->(k<qs.length/\qs[k]?=some (some (p,vs)))\/(k=qs.length/\o'=some (p,vs)):=λk vs z=>by
      rcases Nat.lt_or_ge k qs.length with hk | hk
      ·rw [List.getElem?_append_left hk] at z
       exact .inl ⟨hk,z⟩
      ·rw [List.getElem?_append_right hk] at z
       have hk':k - qs.length=0:=by
        rcases Nat.eq_zero_or_pos (k - qs.length) with h | h
        ·exact h
        ·rw [List.getElem?_eq_none (by simp; omega)] at z
         cases z
       rw [hk'] at z
       exact .inr ⟨by omega,Option.some.inj z⟩
     have old:∀ (k:Nat) (vs vs':List Int),qs[k]?=some (some (p,vs))->o'=some (p,vs')->False:=λk vs vs' z1 z2=>by
      have h1:=(g'.each k p vs z1).1
      rw [(hn p vs' z2).2] at h1
      cases h1
     rcases split k ws z1 with ⟨_,a1⟩ | ⟨rfl,a1⟩ <;> rcases split l ws' z2 with ⟨_,a2⟩ | ⟨rfl,a2⟩
     ·exact g'.nd k l p ws ws' a1 a2
     ·exact (old _ _ _ a1 a2).elim
     ·exact (old _ _ _ a2 a1).elim
     ·rfl
    ·rw [htake]
     unfold cont at hc ⊢
     rw [List.map_append,List.map_append,hc]
     congr 1
     simp [ho]
    ·rcases hb with rfl | ⟨k,ws,z⟩
     ·exact hD
     ·rcases Nat.lt_or_ge k qs.length with hk | hk
      ·rw [List.getElem?_append_left hk] at z
       exact hfr b (.inr ⟨k,ws,z⟩)
      ·rw [List.getElem?_append_right hk] at z
       have hk':k - qs.length=0:=by
        rcases Nat.eq_zero_or_pos (k - qs.length) with h | h
        ·exact h
        ·rw [List.getElem?_eq_none (by simp; omega)] at z
         cases z
       rw [hk'] at z
       exact ss.free (hn b ws (Option.some.inj z)).2
   cases o with
   | none =>
    refine ⟨_,rfl,rfl,_,rfl,iteT ?_⟩
    exact more none H' rfl (Same.refl _) λp ws z=>by cases z
   | some x =>
    obtain ⟨p,ws⟩:=x
    refine ⟨_,rfl,rfl,_,rfl,iteF ⟨_,rfl,p,_,rfl,.inl (SqL.of (ss _ _ (g.each i p ws e).1)),λl hl=>?_⟩⟩
    refine more (some (l,ws)) _ rfl (same_new hl) λp' ws' z=>?_
    cases z
    exact ⟨upd_same,hl⟩
 ·rintro D ys H' ⟨qs,_,ss,g',rfl,hq,hc,hfr⟩
  rw [List.length_map,List.take_length] at hc
  exact q D H' qs ss g' hc hfr
end L2
end
section
namespace L2
open PySem PySem.Spec PyProof.Rows
theorem Inv.turnedN {X:Cx} {pins:List (Addr×Obj)} {σ:St} {H:Hp} {s:Shared} {h':Heap} {t':Nat} {fp:List Addr} (I:Inv X pins σ H s) (k:∀ b o,b ∉ fp->s.heap.get? b=some o->h'.get? b=some o) (hf:∀ b ∈ fp,FpOk X pins H b):Inv X pins σ H { s with heap:=h',toks:=t' }:=by
 have nit:∀ b u,H b=some u->b ∉ fp:=λb u e z=>by rw [(hf b z).1] at e; cases e
 refine I.step (g':=s.gens) (d':=s.drawn) (ch:=fp) (λb hb=>?_) (λb o _ _ hc e _=>k b o hc e) (λb o _ _ hc e _=>⟨o.slots,k b o hc e⟩) (λ_ _ _ _ n=>n)
  (λb o hc e=>⟨o,k b o hc e⟩) (λ_ _ e=>e) (λ_ _ _ e=>e) (λb ps e=>⟨#[],by rw [e]; simp⟩) (λm hm=>?_) (λb u e=>?_) I.bare
 ·obtain ⟨f0,f1,f2,f3,f4,f5⟩:=hf b hb
  exact ⟨f3,f1,f4,f5⟩
 ·obtain ⟨o,es,ep,ho,r⟩:=hm
  exact ⟨o,es,ep,k _ o (λz=>(hf _ z).2.1 rfl) ho,r⟩
 ·refine (I.hok b u e).stay (λc v hc q=>k c v ?_ q) (λ_ q=>q) λ_ _ q=>q
  rcases hc with z | z
  ·rw [z]; exact nit b u e
  ·exact nit c _ z
def Ite (K:PySem.W.Frag) (a:Addr):It :=
 ⟨λi H=>∃ xs x,SqL K H a xs/\xs[i]?=some x,λi H x H'=>∃ t v,H t=none/\x=.ref t/\(∀ xs,SqL K H a xs->xs[i]?=some v)/\H'=upd H t (.tup [.int (i:Int),v]),λi H=>∃ xs,SqL K H a xs/\xs.length<=i⟩
theorem turn_enum {P:Program} {w:World} {K:PySem.W.Frag} {elts:List Expr} {x1:Nat} {pos:Pos} (a e it:Addr) (hne:e≠it):Turn P w K (.Tuple elts x1 pos) (Ite K a) [e,it] e (λi h=>(∃ old,IsEnum h e it i old)/\h.IsListIter it a i) where
 mem:=by simp
 obj:=λi h st b hb=>by
  obtain ⟨⟨old,he⟩,o,ho,c,d⟩:=st
  rcases List.mem_cons.mp hb with z | z
  ·subst z
   exact ⟨_,he,λv z=>by cases z⟩
  ·rw [List.mem_singleton.mp z]
   exact ⟨o,ho,λv z=>by rw [d] at z; cases z⟩
 keep:=λi h h' st k=>⟨⟨_,k e (by simp) _ st.1.choose_spec⟩,st.2.at λo z=>k it (by simp) o z⟩
 item:=by
  intro X hP hw hK hc i pins s σ H E I hf st hg
  subst hP hw hK
  obtain ⟨xs,x,hq,hx⟩:=hg
  obtain ⟨its,rv,p,hz⟩:=I.list hq
  obtain ⟨u,hu,ru⟩:=rv.get hx
  obtain ⟨⟨old,he⟩,hit⟩:=st
  have hel:e<s.heap.objs.size:=Heap.lt_size he
  have hil:it<s.heap.objs.size:=by obtain ⟨o,ho,_⟩:=id hit; exact Heap.lt_size ho
  refine wpAny_pyNext_enum_item he hit p.isList (x:=u) (by simpa using hu) hne λh1 ho hit1 ht hsz hk=>⟨_,rfl,?_⟩
  refine wpAny_letOwnedTupleGo_enum ho λh2 he2 hs2=>?_
  have hs2:Heap.SameBut e h1 h2:=hs2
  have hT:H s.heap.objs.size=none:=I.hok.fresh (Nat.le_refl _)
  have I1:Inv X pins σ (upd H s.heap.objs.size (.tup [.int (i:Int),x])) { s with heap:=s.heap.push { cls:=.type "tuple",data:=.seq #[.int i s.toks,u] },toks:=s.toks+1 }:=by
   refine I.laid (λb o z=>Heap.get?_push_of_some _ z) (Nat.le_refl _) ?_
   exact ⟨by show 2<=sizeLine; decide,[.int i s.toks,u],.cons ⟨_,rfl⟩ (.cons ru .nil),_,Heap.get?_push_size _ rfl,rfl,_,rfl⟩
  have hf1:∀ b ∈ [e,it],FpOk X pins (upd H s.heap.objs.size (.tup [.int (i:Int),x])) b:=λb hb=>by
   obtain ⟨f0,f⟩:=hf b hb
   refine ⟨?_,f⟩
   have hbl:b<s.heap.objs.size:=by
    rcases List.mem_cons.mp hb with z | z
    ·rw [z]; exact hel
    ·rw [List.mem_singleton.mp z]; exact hil
   rw [upd_ne (Nat.ne_of_lt hbl)]
   exact f0
  have I2:Inv X pins σ (upd H s.heap.objs.size (.tup [.int (i:Int),x])) { s with heap:=h2,toks:=s.toks+1 }:=by
   refine Inv.turnedN (s:={ s with heap:=s.heap.push { cls:=.type "tuple",data:=.seq #[.int i s.toks,u] },toks:=s.toks+1 }) (h':=h2) (t':=s.toks+1) (fp:=[e,it]) I1 (λb o hb z=>?_) hf1
   have n1:b≠e:=λq=>hb (by simp [q])
   have n2:b≠it:=λq=>hb (by simp [q])
   rw [hs2.2 b n1]
   by_cases hbT:b=s.heap.objs.size
   ·subst hbT
    have z':some _=some o:=(Heap.get?_push_size s.heap (o:={ cls:=.type "tuple",data:=.seq #[.int i s.toks,u] }) rfl).symm.trans z
    rw [<- z']
    exact ht
   ·refine hk b o n1 n2 ?_
    have hlt:b<(s.heap.push { cls:=.type "tuple",data:=.seq #[.int i s.toks,u] }).objs.size:=Heap.lt_size z
    rw [Heap.size_push] at hlt
    rwa [show (s.heap.push { cls:=.type "tuple",data:=.seq #[.int i s.toks,u] }).get? b=s.heap.get? b from Heap.get?_push_ne _ _ _ hbT] at z
  refine ⟨.ref s.heap.objs.size,_,I2,rfl,⟨_,x,hT,rfl,λys hy=>by rw [I.list_inj hy hq]; exact hx,rfl⟩,⟨⟨u,by simpa using he2⟩,hit1.at λo z=>(hs2.2 it hne.symm).trans z⟩,λb hb=>(hf1 b hb).1⟩
 done:=by
  intro X hP hw hK hc i pins s σ H E I hf st hg
  subst hP hw hK
  obtain ⟨xs,hq,hx⟩:=hg
  obtain ⟨its,rv,p,hz⟩:=I.list hq
  obtain ⟨⟨old,he⟩,hit⟩:=st
  have hl:=rv.length
  exact wpAny_pyNext_enum_end (I.ok.hd hc) he hit p.isList (by simp; omega) λh' eb=>⟨rfl,I.turnedN (t':=s.toks) (fp:=[e,it]) (λb o hb z=>eb b o (λq=>hb (by simp [q])) z) hf⟩
 self:=λ_ _ _ _ _ st h=>wpAny_pyIter_enum st.1.choose_spec h
def iEnum (K:PySem.W.Frag) (ta:TA):TI:=λσ H R=>ta σ H λvs H1=>∃ a xs,vs=[.ref a]/\SqL K H1 a xs/\R (Ite K a) H1
theorem pi_enum {X:Cx} {elts:List Expr} {x1:Nat} {tpos p pos:Pos} {l:Expr} {ta:TA} (hg:Gl X "enumerate") (hm:X.mg "enumerate"=none) (ha:PA X [l] ta) (hs:starEach [l] X.env=[(false,eval l X.env)]:=by rfl):PI X (.Tuple elts x1 tpos) (.Call (.Name "enumerate" p) [l] [] pos) (iEnum X.K ta):=by
 intro pins s σ H R I h
 refine Call_ (ld_blt I hg hm boot_enumerate (PyProof.Rows.callWith_type1 (thn (ha pos pins s σ H _ I h) λus s1 hpat=>?_) hs rfl))
 obtain ⟨vs,H1,I1,r1,q1⟩:=hpat
 obtain ⟨a,xs,e,hq,q⟩:=q1
 subst e
 cases r1 with
 | cons r rr =>
  cases rr
  cases r
  obtain ⟨its,rv,p,hz⟩:=I1.list hq
  refine call_enumerate_list p.isList λh' hE hI hsz hk=>?_
  refine wpAny_pyIter_enum hE ?_
  refine ⟨_,[s1.heap.objs.size+1,s1.heap.objs.size],_,_,H1,rfl,I1.kept (t':=s1.toks) hk,turn_enum a _ _ (Nat.succ_ne_self _),⟨⟨_,hE⟩,hI⟩,λb hb=>?_,q⟩
  have hb':s1.heap.objs.size<=b:=by
   rcases List.mem_cons.mp hb with z | z
   ·rw [z]; exact Nat.le_succ _
   ·rw [List.mem_singleton.mp z]; exact Nat.le_refl _
  exact I1.fpOk hb' (I1.hok.fresh hb')
theorem for_enum {K:PySem.W.Frag} {a:Addr} {xs:List V} {g:TG} {tb:TS} {D:Ends} {σ:St} {H:Hp} (Pv:Nat->St->Hp->Prop) (h0:Pv 0 σ H) (hl:∀ i σ H,i<=xs.length->Pv i σ H->SqL K H a xs)
  (hs:∀ i x σ H t,xs[i]?=some x->Pv i σ H->H t=none->g (.ref t) σ (upd H t (.tup [.int (i:Int),x])) λσ2 H2=>tb { D with nx:=Pv (i+1),ct:=Pv (i+1),bk:=D.nx } σ2 H2) (hd:∀ σ H,Pv xs.length σ H->D.nx σ H) :
  ∃ W:Nat->Nat->St->Hp->Prop,(∃ m,W 0 m σ H)/\∀ i m σ H,W i m σ H ->
   ((Ite K a).stop i H/\D.nx σ H)\/((Ite K a).go i H/\∃ N:St->Hp->Prop,(∀ σ' H',N σ' H'->∃ m',m'<m/\W (i+1) m' σ' H')/\∀ x H',(Ite K a).yld i H x H'->g x σ H' λσ2 H2=>tb { D with nx:=N,ct:=N,bk:=D.nx } σ2 H2):=by
 refine ⟨λi m σ H=>m=xs.length - i/\i<=xs.length/\Pv i σ H,⟨xs.length,by simp,Nat.zero_le _,h0⟩,?_⟩
 rintro i m σ H ⟨rfl,hi,p⟩
 have q:=hl i σ H hi p
 by_cases hlt:i<xs.length
 ·refine .inr ⟨⟨xs,xs[i],q,by simp [hlt]⟩,Pv (i+1),λσ' H' p'=>⟨xs.length - (i+1),by omega,rfl,hlt,p'⟩,λx H' y=>?_⟩
  obtain ⟨t,v,ht,rfl,hv,rfl⟩:=y
  exact hs i v σ H t (hv xs q) p ht
 ·have e:i=xs.length:=by omega
  subst e
  exact .inl ⟨⟨xs,q,Nat.le_refl _⟩,hd σ H p⟩
end L2
end
section
namespace L2
open PySem PySem.Spec PyProof.Rows
theorem datsI {K:PySem.W.Frag} {H:Hp}:∀ ws:List Int,DatsR K H (ws.map V.int) (ws.map PyData.int)
 | []=>.nil
 | b::bs=>.cons (.int b) (datsI bs)
theorem layI:∀ ws:List Int,PyData.canLayAll0 (ws.map PyData.int)=true/\PyData.depthAll (ws.map PyData.int)=0
 | []=>⟨rfl,rfl⟩
 | b::bs=>by
  obtain ⟨h1,h2⟩:=layI bs
  constructor
  ·simp only [List.map_cons,PyData.canLayAll0,PyData.canLay0,h1,Bool.and_self]
  ·simp only [List.map_cons,PyData.depthAll,PyData.depth,h2,Nat.max_self]
theorem eqvI:∀ ws:List Int,PyData.eqvAll (ws.map PyData.int) (ws.map PyData.int)=true
 | []=>rfl
 | b::bs=>by simp only [List.map_cons,PyData.eqvAll,PyData.eqv,eqvI bs,beq_self_eq_true,Bool.and_self]
end L2
end
section
namespace L2
open PySem
structure CMeth (K:PySem.W.Frag) (C:Addr) (m:Str) (f:Addr):Prop where
 sp:PySem.W.specialIn K (.ref C) "__getattribute__"=some (some (.builtin "type.__getattribute__"))
 rd:PySem.W.readsIn K C (.type "type")=true
 at_:PySem.W.findCls K (.ref C) (.type "type") m=some (.val (.ref f))
 kp:PySem.W.keepIn K (.ref f)=true
section
variable {X : Cx} {CX : CXT} {k : Nat} {f C : Addr} {fd : FuncData} {ps : List Str} {sp : Sp} {dvs : List V} {ds : List Value} {E : XK} {x m : Str} {p pos apos : Pos} {e o : Expr} {es : List Expr} {t : TA}
theorem pe_cmeth {pl:Sem Bool} (F:FnOk X.prog X.w X.K X.mg X.base CX k f fd ps sp) (hr:Room k X.A) (hg:Gl X x) (hm:X.mg x=some (.ref C)) (c:CMeth X.K C m f) (hb:Binds X.K fd ps ds) (hd:Vals dvs ds) (hx:Passes CX X E)
  (ha:PA X (e::es) t) (hdb:(x == ("__debug__":Str))=false:=by decide)
  (hst:starEach (e::es) X.env=(false,eval e X.env)::starEach es X.env:=by rfl) (hpl:(backTo pos (starEach es X.env)).any (·.1)=false:=by rfl)
  (ht:eval (.Call (.Attribute (.Name x p) m apos) (e::es) [] pos) X.env=(do
   let ov <- eval (.Name x p) X.env
   standAt apos.atName
   let (f,first) <- holding [ov] (getMethod ov m pl)
   callWith pos f first (backTo pos (starEach (e::es) X.env)) (backToKw pos (keywordEach [] X.env))):=by rfl) :
  PE X (.Call (.Attribute (.Name x p) m apos) (e::es) [] pos) (tCall sp dvs E t):=by
 intro pins s σ H Q I h
 refine PySem.W.methodCall_KW (pl:=pl) (ld_glob I hg hm ?_ hdb) ht
 refine PySem.W.method_cls I.kIn c.sp (PySem.W.cls_value I.kIn c.rd c.at_ rfl ?_)
 have I1:=I.tok (s.toks+1)
 refine PySem.W.callWith_K (first:=[]) (h₀:=X.base) I.ok.mod.kin c.kp (thn (ha pos pins _ σ H _ I1 h) λus s1 ⟨vs,H1,I2,r,q⟩=>⟨I2.kIn,?_⟩) hst hpl
 exact run_fn F hr hb hd hx I2 r q
end
end L2
end
section
namespace L2
open PySem PySem.Spec PyProof.Rows
end L2
namespace L2
open PySem PySem.Spec PyProof.Rows
section
variable (P : Program) (w : World)
end
section
variable {P : Program} {w : World} {H H' : Hp} {h h' : Heap} {a : Addr} {o : HO}
end
section
variable {P : Program} {w : World} {H : Hp} {h h' : Heap} {x e : Addr} {o' : HO}
end
section
variable {fs fs' ex ex' : List Addr} {H H1 H2 : Hp} {h h1 h2 h' : Heap} {a x e : Addr} {o : HO}
end
end L2
namespace L2
open PySem PySem.Spec PyProof.Rows
section
variable {X : Cx} {pins : List (Addr × Obj)} {σ : List (Option V)} {H H' : Hp} {s : Shared} {h' : Heap}
end
end L2
namespace L2
open PySem PySem.Spec PyProof.Rows
section
variable {X : Cx}
variable {a b : Expr} {ta tb : TE} {pos : Pos}
variable {tA tB' : TT} {rest : List Expr}
end
end L2
namespace L2
open PySem PySem.Spec PyProof.Rows
section
variable {X : Cx} {pins : List (Addr × Obj)} {σ : St} {H : Hp} {s : Shared} {a : Addr} {xs ys : List V}
end
section
variable {X : Cx} {pins : List (Addr × Obj)} {σ : St} {H : Hp} {s : Shared} {E : Value → Shared → Prop}
end
section
variable {X : Cx} {st : Stmt} {rest : List Stmt} {t u : TS} {e : Expr} {te : TE} {pos : Pos}
end
section
variable {X : Cx} {pos : Pos}
end
section
variable {X : Cx} {pos : Pos}
end
end L2
namespace L2
open PySem PySem.Spec PyProof.Rows
section
variable {X : Cx} {tg : Expr}
end
end L2
namespace L2
open PySem PySem.Spec PyProof.Rows
section
variable {X : Cx} {a b c : Expr} {ta tb tc : TE} {pos : Pos}
end
section
variable {X : Cx} {a b c : Expr} {ta tb tc : TE} {pos : Pos}
end
end L2
namespace L2
open PySem PySem.Spec PyProof.Rows
section
variable {prog : Program} {w : World} {A : Around} {E : Value → Shared → Prop} {s : Shared} {K : PySem.W.Frag} {x dx C f : Addr} {mA : Str → Option Value} {name : Str} {v : Value}
end
section
variable {P : Program} {w : World} {H H' : Hp} {h h' : Heap} {a C dx : Addr} {fs fs' : List (Str × V)}
end
section
variable {X : Cx} {pins : List (Addr × Obj)} {σ : St} {H : Hp} {s : Shared} {a C dx : Addr} {fs : List (Str × V)} {f : Str} {v : V} {A : Around} {E : Value → Shared → Prop}
end
section
variable {X : Cx} {o e value : Expr} {f : Str} {pos pos' tpos : Pos} {ta tv : TE}
end
section
variable {X : Cx} {pins : List (Addr × Obj)} {σ : St} {H : Hp} {s : Shared} {A : Around} {E : Value → Shared → Prop} {Q : Value → Shared → Prop} {c : Value} {b : Bool}
end
end L2
namespace L2
open PySem PySem.Spec PyProof.Rows
section
variable {X : Cx} {e : Expr} {es : List Expr} {te : TE} {t : TA} {pos : Pos}
end
section
variable {X : Cx} {pins : List (Addr × Obj)} {σ : St} {H : Hp} {s s' : Shared}
end
section
variable {X : Cx} {CX : CXT} {k : Nat} {f C : Addr} {fd : FuncData} {ps : List Str} {sp : Sp} {dvs : List V} {ds : List Value} {E : XK} {x m : Str} {p pos apos : Pos} {e o : Expr} {es : List Expr} {ta : TE} {t : TA}
end
section
variable {X : Cx} {CX : CXT} {k : Nat} {f C : Addr} {fd : FuncData} {ps ks : List Str} {sp : Sp} {E : XK} {x m : Str} {p pos apos kpos : Pos} {e o : Expr} {es : List Expr} {kws : List Keyword} {te ta : TE} {t tk : TA} {nm : Option Str}
variable {g : List Value → List Value → List Value} {gV : List V → List V → List V}
end
end L2
namespace L2
open PySem PySem.Spec PyProof.Rows
section
variable {X : Cx} {x : Str} {p pos : Pos} {e : Expr} {es : List Expr} {t : TA} {id T : String} {r : List V → Hp → VK → Prop}
end
end L2
namespace L2
open PySem PySem.Spec PyProof.Rows
section
variable {κ : Type} [DecidableEq κ]
end
section
variable {P : Program} {w : World} {H : Hp} {h : Heap} {a : Addr}
end
section
variable {X : Cx} {pins : List (Addr × Obj)} {σ : St} {H : Hp} {s : Shared} {a : Addr} {y v : V} {u r : Value} {o : Option V} {A : Around} {E : Value → Shared → Prop}
theorem Inv.big (I:Inv X pins σ H s):sysModules<s.heap.objs.size:=by
 have h:mainGlobals<s.heap.objs.size:=(I.mod.glob.keeps I.bk).lt
 exact Nat.lt_trans (by decide) h
end
section
variable {X : Cx} {pins : List (Addr × Obj)} {σ : St} {H : Hp} {s : Shared} {a : Addr} {kvs : List (Key × V)} {k : Key} {u : Value} {A : Around} {E : Value → Shared → Prop}
end
section
variable {X : Cx} {o i e value : Expr} {pos pos' tpos : Pos} {td ty tv : TE}
end
theorem dk_empty {P:Program} {w:World} {H:Hp} (h:Heap) (hb:sysModules<h.objs.size):ObjOk P w H (h.push { cls:=.type "dict",data:=.dict #[] }) h.objs.size (.dK []) :=
 ⟨Nat.zero_le _,beq_eq_false_iff_ne.mpr (Ne.symm (Nat.ne_of_lt hb)),[],.nil,Heap.DictOf.new h⟩
def tDNewK:TE:=λ_ H Q=>∀ p,H p=none->Q (.ref p) (upd H p (.dK []))
section
variable {X : Cx} {pos : Pos}
theorem pe_dnewK:PE X (.Dict [] [] pos) tDNewK:=λpins s σ H Q I h =>
 wpAny_Dict_empty ⟨.ref s.heap.objs.size,_,I.laid (a:=s.heap.objs.size) (o:=.dK []) (t':=s.toks) (λ_ _ q=>Heap.get?_push_of_some _ q) (Nat.le_refl _) (dk_empty s.heap I.big),rfl,h _ (I.hok.fresh (Nat.le_refl _))⟩
end
structure M1 (X:Cx) (o:Expr) (m:Str) (apos:Pos) (e:Expr) (cpos:Pos):Prop where
 base:attributeBase o m X.env (eval o X.env)=eval o X.env
 few:((backTo cpos (starEach [e] X.env)).all (λx=>!x.1) && (backToKw cpos (keywordEach [] X.env)).all (λx=>x.1.isSome)
  && decide (([e]:List Expr).length+([]:List Keyword).length+(if ([]:List Keyword).isEmpty then 0 else 1)<30))=true
 line:(apos.endLine == cpos.line)=true
 trees:backTo cpos (starEach [e] X.env)=[(false,eval e X.env)]
structure M2 (X:Cx) (o:Expr) (m:Str) (apos:Pos) (e f:Expr) (cpos:Pos):Prop where
 base:attributeBase o m X.env (eval o X.env)=eval o X.env
 few:((backTo cpos (starEach [e,f] X.env)).all (λx=>!x.1) && (backToKw cpos (keywordEach [] X.env)).all (λx=>x.1.isSome)
  && decide (([e,f]:List Expr).length+([]:List Keyword).length+(if ([]:List Keyword).isEmpty then 0 else 1)<30))=true
 line:(apos.endLine == cpos.line)=true
 trees:backTo cpos (starEach [e,f] X.env)=[(false,eval e X.env),(false,eval f X.env)]
section
variable {X : Cx} {pins : List (Addr × Obj)} {σ : St} {H : Hp} {s : Shared} {a : Addr} {y d : V} {u r : Value} {o : Option V} {A : Around} {E : Value → Shared → Prop}
end
section
variable {X : Cx} {o e f : Expr} {apos cpos : Pos} {td ty tx : TE}
end
section
variable {X : Cx} {pins : List (Addr × Obj)} {σ : St} {H : Hp} {s : Shared} {a : Addr} {kvs : List (Key × V)} {A : Around} {E : Value → Shared → Prop}
end
section
variable {X : Cx} {pins : List (Addr × Obj)} {σ : St} {H : Hp} {s : Shared} {a : Addr} {y : V} {u : Value} {A : Around} {E : Value → Shared → Prop}
end
end L2
namespace Att
open PySem PySem.W PySem.Calls PyProof.Rows
section
variable {prog : Program} {w : World} {A : Around} {E : Value → Shared → Prop} {s : Shared} {K : Frag}
end
end Att
namespace L2
open PySem PySem.Spec PyProof.Rows
end L2
namespace L2
open PySem PySem.Spec PyProof.Rows
end L2
namespace L2
open PySem PySem.Spec PyProof.Rows
section
variable {P : Program} {w : World} {K : PySem.W.Frag} {mg : Str → Option Value} {base : Heap}
end
section
variable {X : Cx}
end
section
variable {κ : Type} [DecidableEq κ]
end
end L2
end
section
namespace L2
open PySem PySem.Spec PyProof.Rows
section
variable {X : Cx} {pins : List (Addr × Obj)} {σ σ0 : St} {H H0 : Hp} {s s0 : Shared} {d : Addr} {ob : Obj} {kvs : List (Key × V)}
end
theorem kit_tup_int {K:PySem.W.Frag}:PySem.W.kitOne K (.type "int") (.type "tuple")=some false:=by kernel_rfl
def compN2 (x y:Str) (N:List Str):List Str:=x::y::N.map λz=>if z=x\/z=y then ("":Str) else z
def CapOk2 (x y:Str) (l:List (Str×NameKind)):Prop:=∀ n k,l.lookup n=some k->((n=x\/n=y\/n = ".0")/\k=.local)\/(k≠.local/\k≠.cell/\k≠.free)
def capOk2 (x y:Str):List (Str×NameKind)->Bool
 | []=>true
 | (n,k)::r=>(((n == x || n == y || n == ".0") && k == .local) || (k != .local && k != .cell && k != .free)) && capOk2 x y r
theorem capOk2_of {x y:Str}:∀ {l:List (Str×NameKind)},capOk2 x y l=true->CapOk2 x y l
 | [],_,n,k,h=>by simp at h
 | (m,j)::r,h0,n,k,h=>by
  unfold capOk2 at h0
  rw [Bool.and_eq_true] at h0
  rw [List.lookup_cons] at h
  split at h
  ·rename_i e
   cases h
   have e':=beq_iff_eq.mp e
   subst e'
   have h1:=h0.1
   simp only [Bool.or_eq_true,Bool.and_eq_true,beq_iff_eq,bne_iff_ne,ne_eq] at h1
   rcases h1 with ⟨a,b⟩ | ⟨⟨a,b⟩,c⟩
   ·exact .inl ⟨by rcases a with (a | a) | a <;> simp [a],b⟩
   ·exact .inr ⟨a,b,c⟩
  ·exact capOk2_of h0.2 n k h
abbrev cxD (X:Cx) (x y:Str) (scope:Scope) (C:Addr) (s₂:Shared) (H₂:Hp) (fp:List Addr):Cx :=
 { X with N:=compN2 x y X.N,s₀:=s₂,H₀:=H₂,env:=compEnvC scope [] C X.env,outer:=X.stack,ex:=fp,fn:=λ_=>false,pn:=[],xe:=λ_ _=>False }
section
variable {X : Cx} {pins : List (Addr × Obj)} {σ : St} {H₂ : Hp} {s₂ : Shared} {fp : List Addr} {x y : Str} {scope : Scope} {C : Addr}
theorem okD (I:Inv X pins σ H₂ s₂) (hf:∀ b ∈ fp,FpOk X pins H₂ b) (ho:∀ b ∈ fp,∃ o,s₂.heap.get? b=some o) (hkind:scope.kind=.function) (hc:CapOk2 x y (relabel scope X.env).names) (hC:s₂.heap.objs.size<=C) :
  (cxD X x y scope C s₂ H₂ fp).Ok where
 mod:=I.ok.mod
 kind:=hkind
 glob:=I.ok.glob
 blt:=I.ok.blt
 above:=hC
 inj:=λy z c h1 h2=>by
  have h1':([]:List (Str×Addr)).lookup y=some c:=h1
  simp at h1'
 has:=λz hz=>by
  have hz':(relabel scope X.env).names.lookup z=some .cell\/(relabel scope X.env).names.lookup z=some .free:=hz
  rcases hz' with h | h
  ·rcases hc _ _ h with ⟨_,q⟩ | ⟨_,q,_⟩
   ·cases q
   ·exact absurd rfl q
  ·rcases hc _ _ h with ⟨_,q⟩ | ⟨_,_,q⟩
   ·cases q
   ·exact absurd rfl q
 cab:=λy c h _=>absurd (show false=true from h) Bool.false_ne_true
 hd:=I.ok.hd
 frames:=I.ok.frames
 stk:=.inl rfl
 exf:=λb hb=>by
  obtain ⟨o,e⟩:=ho b hb
  exact ⟨Nat.ne_of_lt (Nat.lt_of_lt_of_le (Heap.lt_size e) hC),λy c h=>by
   have h1':([]:List (Str×Addr)).lookup y=some c:=h
   simp at h1'⟩
 bs:=I.bs
 bsz:=Nat.le_trans I.ok.bsz I.sz
 noex:=λb o e hb=>by
  rcases (hf b hb).2.2.2.1 with z | z
  ·exact I.ok.noex b o e z
  ·exact absurd (Nat.lt_of_lt_of_le (Heap.lt_size (I.ok.bs b o e).1) z) (Nat.lt_irrefl _)
 exfs:=λb hb z=>by
  rcases List.mem_cons.mp (I.stkSub b z) with q | q
  ·exact (hf b hb).2.1 q
  ·exact (hf b hb).2.2.1 q
 funs:=I.stack
 frf:=I.stkFree
theorem invD {h₁:Heap} {tk:Nat} (I:Inv X pins σ H₂ s₂) (hf:∀ b ∈ fp,FpOk X pins H₂ b) (ho:∀ b ∈ fp,∃ o,s₂.heap.get? b=some o) (hkind:scope.kind=.function) (hc:CapOk2 x y (relabel scope X.env).names) (hx0:x≠"") (hy0:y≠"") (hdot:(".0":Str) ∉ X.N)
  (hC:C=s₂.heap.objs.size+1) (hns:h₁.Ns C λ_=>none) (old:∀ b o,s₂.heap.get? b=some o->h₁.get? b=some o) (hD:∃ n,h₁.get? s₂.heap.objs.size=some { cls:=.type "list",data:=.seq #[] n }) :
  Inv (cxD X x y scope C s₂ H₂ fp) [] (none::none::σ) (upd H₂ s₂.heap.objs.size (.lst [])) { s₂ with heap:=h₁,toks:=tk }:=by
 have hn:H₂ s₂.heap.objs.size=none:=I.hok.fresh (Nat.le_refl _)
 have nocell:∀ (z:Str) (c:Addr),(compEnvC scope [] C X.env).cells.lookup z=some c->False:=λz c e=>by
  have h1':([]:List (Str×Addr)).lookup z=some c:=e
  simp at h1'
 refine ⟨okD I hf ho hkind hc (by rw [hC]; exact Nat.le_succ _),rfl,I.bare,Un.laid old (Nat.le_refl _) hn,⟨_,hns,λi n v h1 h2 h3=>?_⟩,λz c e=>(nocell z c e).elim,?_,λz c e=>(nocell z c e).elim,λp hp=>absurd (show p ∈ ([]:List (Addr×Obj)) from hp) (by simp),?_,?_⟩
 ·exfalso
  match i,h1,h2 with
  | 0,h1,h2 =>
   have h2':some (none:Option V)=some (some v):=h2
   cases h2'
  | 1,h1,h2 =>
   have h2':some (none:Option V)=some (some v):=h2
   cases h2'
  | i+2,h1,h2 =>
   have h1':(X.N.map λz=>if z=x\/z=y then ("":Str) else z)[i]?=some n:=h1
   rw [List.getElem?_map] at h1'
   cases e:X.N[i]? with
   | none=>rw [e] at h1'; cases h1'
   | some z =>
    rw [e] at h1'
    have h1'':(if z=x\/z=y then ("":Str) else z)=n:=Option.some.inj h1'
    have h3':(relabel scope X.env).names.lookup n=some .local\/(relabel scope X.env).names.lookup n=some .cell\/(relabel scope X.env).names.lookup n=some .free:=h3
    have key:n=x\/n=y\/n = ".0":=by
     rcases h3' with q | q | q
     ·rcases hc _ _ q with ⟨a,_⟩ | ⟨a,_⟩
      ·exact a
      ·exact absurd rfl a
     ·rcases hc _ _ q with ⟨_,a⟩ | ⟨_,a,_⟩
      ·cases a
      ·exact absurd rfl a
     ·rcases hc _ _ q with ⟨_,a⟩ | ⟨_,_,a⟩
      ·cases a
      ·exact absurd rfl a
    by_cases hz:z=x\/z=y
    ·rw [if_pos hz] at h1''
     rcases key with q | q | q
     ·exact hx0 (q.symm.trans h1''.symm)
     ·exact hy0 (q.symm.trans h1''.symm)
     ·rw [q] at h1''
      exact absurd h1'' (by decide +kernel)
    ·rw [if_neg hz] at h1''
     subst h1''
     rcases key with q | q | q
     ·exact hz (.inl q)
     ·exact hz (.inr q)
     ·subst q
      exact hdot (List.mem_of_getElem? e)
 ·show (upd H₂ s₂.heap.objs.size (.lst [])) C=none
  rw [upd_ne (by rw [hC]; exact Nat.ne_of_gt (Nat.lt_succ_self _))]
  exact I.hok.fresh (by rw [hC]; exact Nat.le_succ _)
 ·obtain ⟨n,e⟩:=hD
  exact I.hok.laid old (Nat.le_refl _) ⟨Nat.zero_le _,[],n,.nil,e⟩
 ·show (none::none::σ).length=(compN2 x y X.N).length
  simp [compN2,I.len]
theorem fpD (I:Inv X pins σ H₂ s₂) (hf:∀ b ∈ fp,FpOk X pins H₂ b) (ho:∀ b ∈ fp,∃ o,s₂.heap.get? b=some o) (hC:s₂.heap.objs.size<=C) {H:Hp} (hn:∀ b ∈ fp,H b=none):∀ b ∈ fp,FpOk (cxD X x y scope C s₂ H₂ fp) [] H b:=λb hb=>by
 obtain ⟨o,e⟩:=ho b hb
 refine ⟨hn b hb,Nat.ne_of_lt (Nat.lt_of_lt_of_le (Heap.lt_size e) hC),λz=>?_,.inl hb,λy c h=>?_,λp hp=>absurd (show p ∈ ([]:List (Addr×Obj)) from hp) (by simp)⟩
 ·rcases List.mem_cons.mp (I.stkSub b z) with q | q
  ·exact (hf b hb).2.1 q
  ·exact (hf b hb).2.2.1 q
 ·have h1':([]:List (Str×Addr)).lookup y=some c:=h
  simp at h1'
end
section
variable {X : Cx} {x y : Str} {px py pos tpos : Pos} {scope : Scope} {elt iter : Expr} {ti te : TE} {k1 : Nat}
end
end L2
end
section
namespace L2
open PySem PySem.Spec PyProof.Rows Builtin Builtin.ObjectAttr
def overV:List Value->Bool
 | []=>false
 | v::r=>match v with
  | .ref _=>overV r
  | _=>(v::r) == VB
theorem overV_refuse (self:Value):∀ {l:List Value},overV l=true->refuseLoop self "__setattr__" l=pure ()
 | [],e=>by cases e
 | v::r,e=>by
  unfold overV at e
  split at e
  ·rw [refuseLoop_ref]; exact overV_refuse self e
  ·rw [beq_iff_eq.mp e]; exact PySem.F.store_ValueError.passes self
theorem overV_has:∀ {l:List Value},overV l=true->l.contains (.type "object")=true
 | [],e=>by cases e
 | v::r,e=>by
  unfold overV at e
  split at e
  ·rw [List.contains_cons,overV_has e,Bool.or_true]
  ·rw [beq_iff_eq.mp e]; decide
def overIn (K:PySem.W.Frag) (C:Addr):Bool:=(PySem.W.clsIn K C).any λcd=>overV cd.mro
structure XCls (K:PySem.W.Frag) (C:Addr):Prop where
 sa:PySem.W.findIn K (.ref C) "__setattr__"=some (some (.builtin "object.__setattr__"))
 ov:overIn K C=true
 hd:PySem.W.hasDictIn K C=true
 ga:PySem.W.findIn K (.ref C) "__getattribute__"=some (some (.builtin "BaseException.__getattribute__"))
 gh:PySem.W.findIn K (.ref C) "__getattr__"=some none
 mb:PySem.W.mroIn K C (.type "BaseException")=some true
section
variable {prog : Program} {w : World} {A : Around} {s : Shared} {K : PySem.W.Frag} {x C : Addr} {R : Result → Shared → Prop}
theorem xsa_open {name:Str} {tk:Tok} {v:Value} (X:K.In s.heap) (L0:PySem.W.Looks (model prog w) s.heap (typeOf (.ref x)) (.ref C)) (hp:overIn K C=true) (ht:PySem.W.findIn K (.ref C) name=some none)
  (h:wpAny (model prog w) A.in1 (storeInOwnDict (.ref x) (.ref C) (.str name tk) name v false)
   (λfin s'=>match fin with | .done f=>R (.ok f) s' | .again c'=>c'.quiet=true/\codeAny (model prog w) A c' R s') (λe s'=>R (.error e) s') s) :
  codeAny (model prog w) A (.call (.builtin "object.__setattr__") ⟨[.ref x,.str name tk,v],[]⟩) R s:=by
 have SF:=PySem.F.store_object
 obtain ⟨cd,hc,ho⟩:=PySem.W.any_some hp
 have ne:cd.mro.isEmpty=false:=by
  cases q:cd.mro with
  | nil=>rw [q] at ho; cases ho
  | cons _ _=>rfl
 have sub:PySem.W.Looks (model prog w) s.heap (isInstance (.ref x) (.type "object")) true:=L0.andThen (PySem.W.looks_mroIn X (by
  unfold PySem.W.mroIn
  rw [hc,Option.bind_some,if_neg (by rw [ne]; decide),overV_has ho]))
 refine codeAny_call_builtin SF.slot.plain SF.entry (@PySem.W.check_slot (model prog w) _ _ s "object.__setattr__" "object" "__setattr__" (.ref x) [.str name tk,v] [] _ SF.kind SF.split sub (SF.args (.ref x) (.str name tk) v) ?_)
 have hm:PySem.W.Looks (model prog w) s.heap (mroOf (.ref C)) cd.mro:=(PySem.W.looks_clsIn X hc).andThen .now
 rw [PySem.W.osa_eq,refuse_eq]
 refine wpAny_bind (wpAny_bind (L0.here (wpAny_bind (hm.here ?_))))
 rw [overV_refuse _ ho]
 exact wpAny_pure (wpAny_bind (L0.here (wpAny_bind ((PySem.W.looks_findIn X ht).here (wpAny_bind (wpAny_pure h))))))
end
def xnw (e C t:Addr) (od:Option Addr):HO:=.ext λh=>h.get? e=some (xo C t od)
def xdo (d:Addr) (fs:List (Str×V)):HO:=.ext λh=>∃ mA,h.Ns1 d mA/\(∀ f,RelO (fs.lookup f) (mA f))/\PySem.Within mA (fs.map (·.1))
theorem xnw_ok {P:Program} {w:World} {H:Hp} {h:Heap} {e C t:Addr} {od:Option Addr} (x:h.get? e=some (xo C t od)):ObjOk P w H h e (xnw e C t od):=⟨x,⟨_,x⟩,λh1 h2 z k=>k _ z⟩
theorem xdo_ok {P:Program} {w:World} {H:Hp} {h:Heap} {d:Addr} {fs:List (Str×V)} {mA:Str->Option Value} (x:h.Ns1 d mA) (y:∀ f,RelO (fs.lookup f) (mA f)) (z:PySem.Within mA (fs.map (·.1))):ObjOk P w H h d (xdo d fs) :=
 ⟨⟨mA,x,y,z⟩,(by obtain ⟨o,_,_,e,_⟩:=x; exact ⟨o,e⟩),λh1 h2 ⟨m,⟨o,es,ep,e,r⟩,y,z⟩ k=>⟨m,⟨o,es,ep,k _ e,r⟩,y,z⟩⟩
section
variable {X : Cx} {pins : List (Addr × Obj)} {σ : St} {H : Hp} {s : Shared} {e C t d : Addr} {fs : List (Str × V)} {f : Str} {y : V} {u : Value} {A : Around} {E : Value → Shared → Prop} {Q : Unit → Shared → Prop}
theorem xset0 (I:Inv X pins σ H s) (e0:H e=some (xnw e C t none)) (c:XCls X.K C) (n:NoAttr X.K C f) (ry:RelV y u)
  (h:∀ d H' s',H d=none->d≠e->H' e=some (xnw e C t (some d))->H' d=some (xdo d [(f,y)])->(∀ b,b≠e->b≠d->H' b=H b)->Inv X pins σ H' s'->Q () s') :
  wpAny (model X.prog X.w) A (setAttr (.ref e) f u) Q E s:=by
 have hx:s.heap.get? e=some (xo C t none):=(show ObjOk X.prog X.w H s.heap e (xnw e C t none) from I.hok e _ e0).1
 have IA:PySem.W.InstAt s.heap e (xo C t none) C none:=⟨hx,rfl,rfl,trivial⟩
 refine PySem.W.set_plain I.kIn IA c.sa (xsa_open (s:={ s with toks:=s.toks+1 }) I.kIn (EX.ty hx rfl) c.ov n ?_)
 obtain ⟨cd,hc,hd'⟩:=PySem.W.any_some c.hd
 refine wpAny_bind (wpAny_pure (wpAny_bind (wpAny_bind (wpAny_loadPart hx (wpAny_bind (PySem.W.Looks.here (s:={ s with toks:=s.toks+1 }) (PySem.W.looks_clsIn I.kIn hc) ?_))))))
 rw [hd']
 have hxs:e≠s.heap.objs.size:=Nat.ne_of_lt (Heap.lt_size hx)
 have I1:=I.laid (a:=s.heap.objs.size) (o:=xdo s.heap.objs.size []) (t':=s.toks+1) (h':=s.heap.push { cls:=.type "dict",data:=.dict #[] }) (λb o z=>Heap.get?_push_of_some _ z) (Nat.le_refl _)
  (xdo_ok (mA:=λ_=>none) (Heap.Ns1.of_empty ⟨_,#[],_,Heap.get?_push_at rfl rfl,rfl,λq hq=>absurd hq (by simp),λ_=>rfl⟩) (λ_=>trivial) PySem.Within.nil)
 rw [if_neg (by decide),if_neg (by show ¬ ((!true || !true)=true); decide)]
 have e1:(s.heap.push { cls:=.type "dict",data:=.dict #[] }).get? e=some (xo C t none):=Heap.get?_push_of_some _ hx
 refine wpAny_bind (wpAny_alloc' (wpAny_bind (wpAny_update' e1 (wpAny_pure ?_))))
 have he1:upd H s.heap.objs.size (xdo s.heap.objs.size []) e=some (xnw e C t none):=by rw [upd_ne hxs]; exact e0
 have hd0:H s.heap.objs.size=none:=I.hok.fresh (Nat.le_refl _)
 have e2:((s.heap.push { cls:=.type "dict",data:=.dict #[] }).update e λo=>{ cls:=o.cls,dict:=some s.heap.objs.size,data:=o.data,slots:=o.slots }).get? e=some (xo C t (some s.heap.objs.size)):=Heap.get?_update_self _ e1 rfl
 have I2:=I1.write (x:=e) (e:=e) (o:=xnw e C t (some s.heap.objs.size)) (t':=s.toks+1) (h':=(s.heap.push { cls:=.type "dict",data:=.dict #[] }).update e λo=>{ cls:=o.cls,dict:=some s.heap.objs.size,data:=o.data,slots:=o.slots })
  (by rw [he1]; exact True.intro) (.inl rfl) (λb o z q=>(upd_other z).trans q) ⟨_,e2⟩ (xnw_ok e2)
 have hd2:((s.heap.push { cls:=.type "dict",data:=.dict #[] }).update e λo=>{ cls:=o.cls,dict:=some s.heap.objs.size,data:=o.data,slots:=o.slots }).Ns1 s.heap.objs.size (λ_=>none) :=
  Heap.Ns1.of_empty ⟨_,#[],_,(upd_other hxs.symm).trans (Heap.get?_push_at rfl rfl),rfl,λq hq=>absurd hq (by simp),λ_=>rfl⟩
 generalize ((s.heap.push { cls:=.type "dict",data:=.dict #[] }).update e λo=>{ cls:=o.cls,dict:=some s.heap.objs.size,data:=o.data,slots:=o.slots })=h2 at *
 generalize s.heap.objs.size=d at *
 have hd3:upd (upd H d (xdo d [])) e (xnw e C t (some d)) d=some (xdo d []):=by rw [upd_ne hxs.symm,upd_same]
 show wpAny _ _ (storeInDict d (.str f s.toks) f u) _ _ _
 unfold storeInDict newKeyGuard
 refine wpAny_bind (wpAny_pure (wpAny_bind (wpAny_nsSet1 hd2 λh' hn' hs=>?_)))
 obtain ⟨oD,esD,epD,hoD,hdD,hcD⟩:=hn'.count (PySem.Within.cons f u PySem.Within.nil)
 refine wpAny_bind (wpAny_lookBehind hoD (by rw [hdD]; exact pastItsLine_dict (Nat.le_trans hcD (by rw [List.length_cons,List.length_nil,sizeLine_eq]; omega))) (wpAny_pure ?_))
 refine h d _ _ hd0 hxs.symm ?_ ?_ ?_ (I2.write (x:=d) (e:=d) (o:=xdo d [(f,y)]) (by rw [hd3]; exact True.intro) (.inl rfl) (λb o z q=>(hs.2 b z).trans q) ⟨_,hoD⟩ (xdo_ok hn' (λg=>?_) (λg hg=>?_)))
 ·rw [upd_ne hxs,upd_same]
 ·rw [upd_same]
 ·intro b z1 z2
  rw [upd_ne z2,upd_ne z1,upd_ne z2]
 ·show RelO (List.lookup g [(f,y)]) (if g=f then some u else none)
  by_cases q:g=f
  ·rw [q,if_pos rfl,List.lookup_cons_self]; exact ry
  ·rw [if_neg q,List.lookup_cons,beq_false_of_ne q]; exact True.intro
 ·by_cases q:g=f
  ·rw [q]; exact List.mem_cons_self ..
  ·exact absurd (if_neg q) hg
end
section
variable {prog : Program} {w : World} {A : Around} {s : Shared} {K : PySem.W.Frag} {x C : Addr} {E : Value → Shared → Prop}
theorem xga {name:Str} {v:Value} {b:Bool} {Q:Value->Shared->Prop} (X:K.In s.heap) (c:XCls K C) (L0:PySem.W.Looks (model prog w) s.heap (typeOf (.ref x)) (.ref C)) (Lf:PySem.W.Looks (model prog w) s.heap (find (.ref x) (.ref C) name) (.value v)) (hv:PySem.W.handedIn v=true)
  (h:Q v { s with toks:=s.toks+1 }):wpAny (model prog w) A (getAttr (.ref x) name b) Q E s:=by
 obtain ⟨hh,g,d,t,os⟩:=s
 have L1:=PySem.W.looks_findIn (M:=model prog w) X c.ga
 have L2:=PySem.W.looks_findIn (M:=model prog w) X c.gh
 have hx2:(Value.builtin "BaseException.__getattribute__" == Value.builtin "object.__getattribute__")=false:=by decide +kernel
 unfold getAttr getAttrBy
 refine wpAny_bind (wpAny_mkText (wpAny_holding (wpAny_bind (L0.at (wpAny_bind (L1.at ?_))))))
 dsimp only
 rw [if_neg (by rw [hx2,Bool.and_false]; exact Bool.false_ne_true)]
 unfold getAttrByItsOwn hookBefore
 refine wpAny_bind (L2.at ?_)
 refine wpAny_bind (wpAny_attempt (wpAny_holding ?_))
 unfold callGetattribute boundAndCalled
 rw [if_neg (by cases b <;> decide)]
 rw [PySem.F.attr_ValueError.ga.bind (.ref x)]
 refine wpAny_bind (wpAny_pure (wpAny_call ?_))
 refine codeAny_call_builtin PySem.F.attr_ValueError.ga.plain F.entry_bexc_ga (EX.check_ga X L0 c.mb ?_)
 refine wpAny_bind (wpAny_pure (a:=(Value.ref x,[Value.str name _])) ?_)
 refine wpAny_bind (wpAny_pure (a:=name) ?_)
 refine wpAny_bind (L0.at ?_)
 refine wpAny_bind (Lf.at ?_)
 refine wpAny_pure ?_
 exact PySem.W.handed_on hv h
end
end L2
end
section
namespace L2
open PySem PySem.Spec PyProof.Rows Builtin Builtin.ObjectAttr
section
variable {X : Cx} {pins : List (Addr × Obj)} {σ : St} {H : Hp} {s : Shared} {e C t d : Addr} {fs : List (Str × V)} {f : Str} {v : V}
theorem xget {A:Around} {E:Value->Shared->Prop} {b:Bool} {Q:Value->Shared->Prop} (I:Inv X pins σ H s) (e0:H e=some (xob e (.ref C) (some d))) (d0:H d=some (xdo d fs)) (c:XCls X.K C) (n:NoAttr X.K C f) (l:fs.lookup f=some v)
  (h:∀ u s',Inv X pins σ H s'->RelV v u->Q u s'):wpAny (model X.prog X.w) A (getAttr (.ref e) f b) Q E s:=by
 obtain ⟨⟨oe,h1,h2,h3,h4⟩,_,_⟩:=(show ObjOk X.prog X.w H s.heap e (xob e (.ref C) (some d)) from I.hok e _ e0)
 obtain ⟨⟨mA,hn,hr,_⟩,_,_⟩:=(show ObjOk X.prog X.w H s.heap d (xdo d fs) from I.hok d _ d0)
 obtain ⟨od,ho,hl⟩:=lookIn_ns hn
 obtain ⟨u,hu,ru⟩:=RelO.some_of (v:=v) (o:=mA f) (by rw [<- l]; exact hr f)
 have IA:PySem.W.InstAt s.heap e oe C (some od):=⟨h1,h2,h4,by rw [h3]; exact ho⟩
 have Lf:=PySem.W.looks_find (M:=model X.prog X.w) I.kIn IA (PySem.W.findObj_own c.hd n rfl (by rw [hl,hu]))
 exact xga I.kIn c (EX.ty h1 h2) Lf (handed_of ru) (h u _ (I.tok _) ru)
end
inductive tXFldR (K:PySem.W.Frag) (f:Str) (Q:VK) (x:V) (H1:Hp):Prop
 | mk (e C d fs v:_) (_:x=.ref e) (_:H1 e=some (xob e (.ref C) (some d))) (_:H1 d=some (xdo d fs)) (_:XCls K C) (_:NoAttr K C f) (_:fs.lookup f=some v) (_:Q v H1):tXFldR K f Q x H1
def tXFld (K:PySem.W.Frag) (ta:TE) (f:Str):TE:=λσ H Q=>ta σ H λx H1=>tXFldR K f Q x H1
def sXf0 (K:PySem.W.Frag) (ta tv:TE) (f:Str):TS:=λD σ H=>tv σ H λy H1=>ta σ H1 λx H2=>∃ e C t,x=.ref e/\H2 e=some (xnw e C t none)/\XCls K C/\NoAttr K C f /\
 ∀ d H',H2 d=none->d≠e->H' e=some (xnw e C t (some d))->H' d=some (xdo d [(f,y)])->(∀ b,b≠e->b≠d->H' b=H2 b)->D.nx σ H'
section
variable {X : Cx} {o e value : Expr} {f : Str} {pos pos' tpos : Pos} {ta tv : TE}
theorem pe_xfld (he:PE X e ta) (hb:attributeBase e f X.env (eval e X.env)=eval e X.env):PE X (.Attribute e f pos) (tXFld X.K ta f):=by
 intro pins s σ H Q I h
 refine attr_of hb (thn (he pins s σ H _ I h) λu s1 hpat=>?_)
 obtain ⟨x,H1,I1,rx,a,C,d,fs,v,ex,ea,ed,c,n,l,q⟩:=hpat
 subst ex
 obtain rfl:u=Value.ref a:=rx
 exact xget I1 ea ed c n l λu' s2 I2 ru=>⟨v,H1,I2,ru,q⟩
theorem pe_xfldK {K:PySem.W.Frag} (hK:X.K=K) (he:PE X e ta) (hb:attributeBase e f X.env (eval e X.env)=eval e X.env):PE X (.Attribute e f pos) (tXFld K ta f):=by
 subst hK
 exact pe_xfld he hb
theorem ps_xf0 (ha:PE X o ta) (hv:PE X value tv) (hs:swapsWith value (some (.Attribute o f pos')) pos.line X.env=pure false):PS X (.Assign [.Attribute o f pos'] value pos) (sXf0 X.K ta tv f):=by
 intro pins s σ H D I h
 refine plainObj_wpAny_Assign_Attribute (thn (hv pins s σ H _ I h) λu s1 ⟨y,H1,I1,ry,q⟩=>thn (ha pins s1 σ H1 _ I1 q) λov s2 hpat=>?_) hs
 obtain ⟨x,H2,I2,rx,a,C,t,ex,ea,c,n,q2⟩:=hpat
 subst ex
 obtain rfl:ov=Value.ref a:=rx
 exact xset0 I2 ea c n ry λd H' s3 h1 h2 h3 h4 h5 I3=>⟨σ,H',I3,q2 d H' h1 h2 h3 h4 h5⟩
end
def excInI (K:PySem.W.Frag) (C fI:Addr):Bool:=match K.lookup C with
 | some ⟨.type "type",_,.cls cd,sl⟩=>(match cd.mro,sl.toList with
  | .ref C'::bm,[_,_,_,_,some (.builtin n),_]=>C' == C && !cd.hasDel && n == "ValueError.__new__" && nsPlain K cd.ns && (PySem.W.nsIn K cd.ns "__init__" == some (some (.ref fI))) && tailOk K bm
  | _,_=>false)
 | _=>false
theorem ns_some_of {K:PySem.W.Frag} {h:Heap} {N:Addr} {mg:Str->Option Value} {n:Str} {v:Value} (X:K.In h) (G:h.Ns N mg) (e:PySem.W.nsIn K N n=some (some v)):mg n=some v:=by
 obtain ⟨o,es,ep,ho,hd,_,hf⟩:=G
 unfold PySem.W.nsIn at e
 split at e
 ·rename_i c d es' n' sl q
  have z:=X _ _ q
  rw [ho] at z
  cases z
  cases hd
  revert e
  cases hx:List.find? (λy=>y.key.isStr n) es.toList with
  | none =>
   dsimp only
   split <;> exact nofun
  | some en =>
   intro e
   cases e
   rw [<- hf]
   unfold nsFind findBy
   rw [<- Array.find?_toList,hx]
   rfl
 ·cases e
theorem excInI_obj {K:PySem.W.Frag} {h₀:Heap} {C fI:Addr} (X₀:K.In h₀) (q:excInI K C fI=true):∃ bm N nm qn bs hdct sn sub ab col dd k0 k1 k2 k3 k5 mN,mN "__init__"=some (.ref fI) /\
  ∀ h:Heap,K.In h->h.get? C=some (excClassObj nm qn C N bs bm hdct sn sub ab col dd k0 k1 k2 k3 k5 "ValueError.__new__")/\h.Ns N mN/\OwnTail h VB bm:=by
 unfold excInI at q
 split at q
 ·rename_i dd cd sl ho
  split at q
  ·rename_i C' bm k0 k1 k2 k3 n k5 hm hs
   simp only [Bool.and_eq_true,beq_iff_eq,Bool.not_eq_true'] at q
   obtain ⟨⟨⟨⟨⟨rfl,hdel⟩,rfl⟩,hp⟩,hi⟩,ht⟩:=q
   obtain ⟨nm,bs,mro,ns,qn,hd,sn,sub,ab,col,del⟩:=cd
   dsimp only at hm hdel hi hp
   subst hm hdel
   have hsl:sl=#[k0,k1,k2,k3,some (.builtin "ValueError.__new__"),k5]:=by
    obtain ⟨l⟩:=sl
    simp only at hs
    rw [hs]
   subst hsl
   unfold nsPlain at hp
   split at hp
   ·rename_i c1 d1 es ep sl1 hl
    have sk:StrKeys es:=λen hen=>by
     have y:=(List.all_eq_true.mp hp) en (by simpa using hen)
     split at y
     ·rename_i n t hk
      exact ⟨n,t,hk⟩
     ·cases y
    have hN:∀ h:Heap,K.In h->h.Ns ns (nsFind es):=λh X=>⟨_,es,ep,X _ _ hl,rfl,sk,λ_=>rfl⟩
    exact ⟨bm,ns,nm,qn,bs,hd,sn,sub,ab,col,dd,k0,k1,k2,k3,k5,nsFind es,ns_some_of X₀ (hN h₀ X₀) hi,λh X=>⟨X _ _ ho,hN h X,tail_own X₀ ht h X⟩⟩
   ·cases hp
  ·cases q
 ·cases q
inductive spXI (C:Addr) (n:Nat) (ff:List V->List (Str×V)) (vs:List V) (H:Hp) (Q:VK) (E:XK):Prop
 | mk (e t:Addr) (xs:List V) (_:vs=.ref e::xs) (_:xs.length=n) (_:H e=some (xnw e C t none)) (_:∀ (d:Addr) (H':Hp),H d=none->d≠e->H' e=some (xnw e C t (some d))->H' d=some (xdo d (ff xs))->(∀ b,b≠e->b≠d->H' b=H b)->Q .non H'):spXI C n ff vs H Q E
def RaisesG (X:Cx) (E:XK):Prop:=∀ (pins:List (Addr×Obj)) (σ:St) (H:Hp) (s:Shared) (e C t:Addr) (od:Option Addr),Inv X pins σ H s->s.heap.get? e=some (xo C t od)->(∀ o,X.s₀.heap.get? e=some o->e ∈ X.ex)->H e=none->E (.ref C) od H->X.xe (.ref e) s
theorem raisesGR {P:Program} {w:World} {K:PySem.W.Frag} {mg:Str->Option Value} {base:Heap} {N:List Str} {qual:Str} {scope:Scope} {f:Addr} {cd:Value} {A:Around} {outer:List Env} {s₀:Shared} {H₀:Hp} {E:XK}:RaisesG (cxR P w K mg base N qual scope f cd A outer s₀ H₀ E) E:=λpins σ H s e C t od I he hn hH q=>by
 refine raisesG I he ?_ hH q
 cases z:s₀.heap.get? e with
 | none=>rfl
 | some o=>exact absurd (show e ∈ ([]:List Addr) from hn o z) (by simp)
section
variable {X : Cx} {pins : List (Addr × Obj)} {σ : St} {H : Hp} {s : Shared} {e C t : Addr}
theorem Inv.lay {h':Heap} {us:List Value} (I:Inv X pins σ H s) (M:Heap.MadeExcOf s.heap h' e (.ref C) us):H e=none/\∃ t,h'.get? e=some (xo C t none)/\Inv X pins σ (upd H e (xnw e C t none)) { s with heap:=h' }:=by
 obtain ⟨t,he,_,_⟩:=M.there
 have hH:H e=none:=by
  cases z:H e with
  | none=>rfl
  | some u =>
   obtain ⟨ob,zb⟩:=(I.hok e u z).is
   rw [M.new] at zb
   cases zb
 have ne:∀ b o,s.heap.get? b=some o->b≠e:=λb o z y=>by rw [y,M.new] at z; cases z
 refine ⟨hH,t,he,I.un (t':=s.toks) ⟨λb o z _ _ _=>M.keeps b o z,λb o z _ _ _=>⟨o.slots,M.keeps b o z⟩,λb o z n _=>by rw [upd_ne (ne b o z)]; exact n,λb o z _=>⟨o,M.keeps b o z⟩,λb xs z=>by rw [upd_ne (ne_of_none z hH)]; exact z,λb o u z=>by rw [upd_ne (ne_of_none z hH)]; exact z,λb ps z=>⟨#[],by rw [upd_ne (ne_of_none z hH),z]; simp⟩⟩ λa u q=>?_⟩
 by_cases ha:a=e
 ·subst ha
  rw [upd_same] at q
  cases q
  exact xnw_ok he
 ·rw [upd_ne ha] at q
  exact (I.hok a u q).stay (λb o _ z=>M.keeps b o z) (λb z=>by rw [upd_ne (ne_of_none z hH)]; exact z) λb xs z=>by rw [upd_ne (ne_of_none z hH)]; exact z
theorem Inv.let {od:Option Addr} (I:Inv X pins σ H s) (e0:H e=some (xnw e C t od)):Inv X pins σ (λb=>if b=e then none else H b) s:=by
 have k:∀ b u,H b=some u->(∀ φ,u≠.ext φ)->(λb=>if b=e then none else H b) b=some u:=λb u z n=>by
  show (if b=e then none else H b)=some u
  rw [if_neg (λy=>by rw [y,e0] at z; cases z; exact n _ rfl)]
  exact z
 refine I.un (h':=s.heap) (t':=s.toks) ⟨λb o z _ _ _=>z,λb o z _ _ _=>⟨o.slots,z⟩,λb o z n _=>?_,λb o z _=>⟨o,z⟩,λb xs z=>k b _ z nofun,λb o u z=>k b _ z nofun,λb ps z=>⟨#[],(k b _ z nofun).trans (by simp)⟩⟩ λa u q=>?_
 ·show (if b=e then none else H b)=none
  split
  ·rfl
  ·exact n
 ·by_cases ha:a=e
  ·rw [if_pos ha] at q; cases q
  ·rw [if_neg ha] at q
   exact (I.hok a u q).stay (λb o _ z=>z) (λb z=>k b _ z nofun) λb xs z=>k b _ z nofun
end
section
variable {X : Cx} {x : Str} {C fI : Addr} {fdI : FuncData} {psI : List Str} {k n : Nat} {ff : List V → List (Str × V)} {E : XK} {e₀ : Expr} {rest : List Expr} {t : TA} {np cpos pos : Pos}
def tRaiseI (C:Addr) (n:Nat) (ff:List V->List (Str×V)) (E:XK) (t:TA):TS:=λ_ σ H=>t σ H λvs H1=>vs.length=n/\∀ d,H1 d=none->E (.ref C) (some d) (upd H1 d (xdo d (ff vs)))
theorem ps_raiseI (hK:excInI X.K C fI=true) (hf:PySem.W.isFn X.K (.ref fI)=true) (hm:X.mg x=some (.ref C)) (hR:RaisesG X E) (hA:X.calm=true) (F:FnOk X.prog X.w X.K X.mg X.base CX0 k fI fdI psI (spXI C n ff)) (hr:Room (k+1) X.A) (hb:Binds X.K fdI psI []) (hz:n<=100)
  (ha:PA X (e₀::rest) t) (hg:Gl X x:=by rfl) (hd:(x == ("__debug__":Str))=false:=by decide)
  (he:starEach (e₀::rest) X.env=(false,eval e₀ X.env)::starEach rest X.env:=by rfl) (hpl:(backTo cpos (starEach rest X.env)).any (·.1)=false:=by rfl) :
  PS X (.Raise (some (.Call (.Name x np) (e₀::rest) [] cpos)) none pos) (tRaiseI C n ff E t):=by
 intro pins s σ H D I h
 obtain ⟨bm,N,nm,q,bs,hdct,sn,sub,ab,col,dd,k0,k1,k2,k3,k5,mN,hi,hK⟩:=excInI_obj I.kIn hK
 obtain ⟨_,_,T₀⟩:=hK _ I.kIn
 refine Raise_init (C:=C) (fI:=fI) (nm:=nm) (q:=q) (N:=N) (bs:=bs) (bm:=bm) (hdct:=hdct) (sn:=sn) (sub:=sub) (ab:=ab) (col:=col) (dd:=dd) (k0:=k0) (k1:=k1) (k2:=k2) (k3:=k3) (k5:=k5)
  PySem.F.excBase_ValueError (mN:=mN) (T₀.hasType PySem.F.excBase_ValueError.hasBase) (I.ok.hd hA) (by rw [he]; show (false || (backTo cpos (starEach rest X.env)).any (·.1))=false; rw [hpl]; rfl) hi (ld_glob I hg hm ⟨rfl,?_⟩ hd)
 have h1:=ha cpos pins s σ H _ I h
 rw [he] at h1 ⊢
 refine Calls.evalArgs_plain (wpAny_mono h1 (λus s₂ h₂=>?_) λ_ _ y=>y)
 obtain ⟨vs,H1,I1,r,hl,q⟩:=h₂
 obtain ⟨g1,g2,g3⟩:=hK _ I1.kIn
 have hsz:us.length<=sizeLine:=by rw [<- r.length,hl]; exact Nat.le_trans hz (by decide)
 refine ⟨rfl,hsz,g1,g2,g3,?_,λh' e M=>?_⟩
 ·have y:=beq_iff_eq.mp hf
  unfold PySem.W.typeIn at y
  obtain ⟨oI,y1,y2⟩:=Option.map_eq_some_iff.mp y
  exact ⟨oI,I1.kIn _ _ y1,y2⟩
 obtain ⟨H1e,t0,he0,I2⟩:=I1.lay M
 have hsp:spXI C n ff (V.ref e::vs) (upd H1 e (xnw e C t0 none)) (λv H2=>v=.non/\∃ d,H1 d=none/\d≠e/\H2 e=some (xnw e C t0 (some d))/\H2 d=some (xdo d (ff vs))/\∀ b,b≠e->b≠d->H2 b=H1 b) E0 :=
  ⟨e,t0,vs,rfl,hl,upd_same,λd H' d1 d2 d3 d4 d5=>⟨rfl,d,by rw [upd_ne d2] at d1; exact d1,d2,d3,d4,λb b1 b2=>by rw [d5 b b1 b2,upd_ne b1]⟩⟩
 have r2:Vals (V.ref e::vs) (Value.ref e::us):=.cons rfl r
 have hlen:(Value.ref e::us++[]).length=psI.length:=by
  have z:=r2.length
  rw [F.len _ _ _ _ hsp] at z
  rw [List.append_nil]
  exact z.symm
 have hbb:=hb _ (Value.ref e::us) I2.kIn hlen
 rw [List.append_nil] at hbb
 refine wpAny_call (codeAny_mono (F.run _ X.stack _ _ ⟨Value.ref e::us,[]⟩ (Value.ref e::us) _ _ E0 (hr.make C us []) (I2.env0.make C us []) hbb r2 hsp) λr s' hq=>?_)
 cases r with
 | error x=>exact hq.elim
 | ok fl =>
  cases fl with
  | ret u =>
   obtain ⟨v,H',I3,rv,ev,d,d1,d2,d3,d4,d5⟩:=I2.after hq
   subst ev
   have he3:s'.heap.get? e=some (xo C t0 (some d)):=(show ObjOk X.prog X.w H' s'.heap e (xnw e C t0 (some d)) from I3.hok e _ d3).1
   have I4:=I3.let d3
   have eH:(λb=>if b=e then none else H' b)=upd H1 d (xdo d (ff vs)):=by
    funext b
    by_cases b1:b=e
    ·rw [if_pos b1,b1,upd_ne d2.symm,H1e]
    ·rw [if_neg b1]
     by_cases b2:b=d
     ·rw [b2,d4,upd_same]
     ·rw [d5 b b1 b2,upd_ne b2]
   rw [eH] at I4
   refine ⟨rv,(hK _ I3.kIn).1,⟨t0,some d,he3⟩,hR pins σ _ s' e C t0 (some d) I4 he3 (λo z=>?_) (by rw [upd_ne d2.symm]; exact H1e) (q d d1)⟩
   by_cases hx:e ∈ X.ex
   ·exact hx
   ·obtain ⟨o',z'⟩:=I1.base.there e o z hx
    rw [M.new] at z'
    cases z'
  | next=>exact False.elim hq
  | brk=>exact False.elim hq
  | cont=>exact False.elim hq
end
end L2
end
section
namespace L2
open PySem
structure PEq (X:Cx) (e:Expr) (t:TE):Prop where
 h:PE X e t
structure PAq (X:Cx) (es:List Expr) (t:TA):Prop where
 h:PA X es t
structure PSq (X:Cx) (st:Stmt) (t:TS):Prop where
 h:PS X st t
structure PSsq (X:Cx) (st:List Stmt) (t:TS):Prop where
 h:PSs X st t
theorem paq_nil {X:Cx}:PAq X [] tNil:=⟨pa_nil⟩
theorem paq_cons {X:Cx} {e:Expr} {es:List Expr} {te:TE} {t:TA} (h1:PEq X e te) (h2:PAq X es t) (hs:∀ (l:List Expr) (env:Env),starEach (e::l) env=(false,eval e env)::starEach l env:=by intro _ _; rfl):PAq X (e::es) (tCons te t):=⟨pa_cons h1.h h2.h (hs es X.env)⟩
theorem peq_lst {X:Cx} {es:List Expr} {t:TA} {pos:Pos} (h:PAq X es t):PEq X (.List es pos) (tLst t):=⟨pe_lst h.h⟩
theorem pssq_one {X:Cx} {st:Stmt} {t:TS} (h:PSq X st t):PSsq X [st] t:=⟨pss_one h.h⟩
structure PTq (X:Cx) (c:Expr) (t:TT):Prop where
 h:PT X c t
structure PIq (X:Cx) (tg iter:Expr) (w:TI):Prop where
 h:PI X tg iter w
structure PGq (X:Cx) (tg:Expr) (g:TG):Prop where
 h:PG X tg g
section
variable {X : Cx} {st : Stmt} {rest : List Stmt} {t u : TS} {e tg iter : Expr} {te : TE} {pos : Pos}
theorem pssq_nil:PSsq X [] tNext:=⟨pss_nil⟩
theorem pssq_cons (h1:PSq X st t) (h2:PSsq X rest u):PSsq X (st::rest) (tSeq t u):=⟨pss_cons h1.h h2.h⟩
theorem psq_if {c:Expr} {a b:List Stmt} {tc:TT} (hc:PTq X c tc) (ha:PSsq X a t) (hb:PSsq X b u):PSq X (.If c a b pos) (tIfS tc t u):=⟨ps_if hc.h ha.h hb.h⟩
theorem peq_op {a b:Expr} {ta tb:TE} {op:Operator} {r:R2} (ho:OpR X (binaryOp op) r) (ha:PEq X a ta) (hb:PEq X b tb):PEq X (.BinOp a op b pos) (tOp r ta tb):=⟨pe_op ho ha.h hb.h⟩
theorem psq_setq {i:Nat} {x:Str} {pos':Pos} (hN:X.N.Nodup) (hi:X.N[i]?=some x) (hx:Loc X.env.scope x) (he:PEq X e te) (hs:swapsWith e (some (.Name x pos')) pos.line X.env=pure false:=by rfl) (hf:X.fn x=true\/X.env.scope.names.lookup x=some .local:=by first | exact .inl rfl | exact .inr rfl | assumption) :
  PSq X (.Assign [.Name x pos'] e pos) (tAsg te (gName i)):=⟨ps_set hN hi hx he.h hs hf⟩
theorem PSsq.ex {D:Ends} {σ:St} {H:Hp} {sts:List Stmt} (h:PSsq X sts t) (g:t D σ H):∃ t,PSs X sts t/\t D σ H:=⟨t,h.h,g⟩
end
inductive IntCs:List Expr->List Int->Prop
 | nil:IntCs [] []
 | cons {z:Int} {j:Nat} {p:Pos} {es:List Expr} {zs:List Int}:IntCs es zs->IntCs (.Constant (.int z) j p::es) (z::zs)
end L2
end
section
namespace K32
open PySem L2
abbrev sWhole:Stmt:=top 23
abbrev sBelow:Stmt:=top 24
abbrev sWord:Stmt:=top 25
abbrev sEight:Stmt:=top 37
abbrev sImage:Stmt:=top 38
abbrev sInit:Stmt:=inClass (top 41) 0
def below:V->Int->Bool
 | .int i,b=>decide (0<=i) && decide (i<b)
 | _,_=>false
theorem below_of {i b:Int} (h0:0<=i) (h1:i<b):below (.int i) b=true:=by simp [below,h0,h1]
structure Dn (K:PySem.W.Frag) (mg:Str->Option Value) (x:Str) (st:Stmt) (ps:List Str) (f:Addr) (fd:FuncData):Prop where
 F:Fun K x x st f fd
 m:mg x=some (.ref f)
 b:Binds K fd ps []
structure Me (K:PySem.W.Frag) (C:Addr) (x qual:Str) (st:Stmt) (ps:List Str) (f:Addr) (fd:FuncData):Prop where
 F:Fun K x qual st f fd
 m:Meth K C x f
 b:Binds K fd ps []
structure Txt (K:PySem.W.Frag) (mg:Str->Option Value):Prop where
 isi:mg "isinstance"=none
 int:mg "int"=none
 boo:mg "bool"=none
 lst:mg "list"=none
 len:mg "len"=none
 all:mg "all"=none
 rng:mg "range"=none
structure Sto (K:PySem.W.Frag) (mg:Str->Option Value) (C NP NL NW NI:Addr):Prop where
 cl:Cls K C
 nh:NoAttr K C "held"
 words:∃ t,mg "WORDS"=some (.int 281474976710656 t)
 cells:∃ t,mg "CELLS"=some (.int 8 t)
 most:∃ t,mg "MOST_PAGES"=some (.int 24 t)
 np:mg "NoPage"=some (.ref NP)
 xp:L2.excIn K NP=true
 nl:mg "NoPlace"=some (.ref NL)
 xl:L2.excIn K NL=true
 nw:mg "NoWord"=some (.ref NW)
 xw:L2.excIn K NW=true
 ni:mg "NoImage"=some (.ref NI)
 xi:L2.excIn K NI=true
def flds (h:Addr):List (Str×V):=putF "held" (.ref h) []
structure Mem (C:Addr) (H:Hp) (m h:Addr) (ps:Pgs):Prop where
 ob:∃ dx,H m=some (.ins C dx (flds h))
 pg:Pg H h ps
 good:Good ps
 len:1<=ps.length/\ps.length<=24
inductive spWhole (vs:List V) (H:Hp) (Q:VK) (E:XK):Prop
 | mk (x:_) (_:vs=[x]) (_:Th H x) (_:Q (.bl (isI x)) H):spWhole vs H Q E
inductive spBelow (vs:List V) (H:Hp) (Q:VK) (E:XK):Prop
 | mk (x b:_) (_:vs=[x,.int b]) (_:Th H x) (_:Q (.bl (below x b)) H):spBelow vs H Q E
inductive spWord (vs:List V) (H:Hp) (Q:VK) (E:XK):Prop
 | mk (x:_) (_:vs=[x]) (_:Th H x) (_:Q (.bl (below x 281474976710656)) H):spWord vs H Q E
section
variable {P : Program} {w : World} {K : PySem.W.Frag} {mg : Str → Option Value} {base : Heap} {C NP NL NW NI : Addr}
theorem scWh:FnScope ["thing"] ["thing"] (defScope sWhole):=FSc
theorem ok_whole {f:Addr} {fd:FuncData} (F:Fun K "is_whole" "is_whole" sWhole f fd) (T:Txt K mg):FnOk P w K mg base CX0 1 f fd ["thing"] spWhole:=by
 refine F.ok scWh (λvs H Q E h=>?_) (λcdv A outer s H vs Q E hr h=>?_)
 ·obtain ⟨x,rfl,_⟩:=h
  rfl
 ·obtain ⟨x,rfl,th,q⟩:=h
  refine ⟨_,(pss_one (ps_ret (pe_and (pe_callB call_isint (by rfl) T.isi PyProof.Rows.boot_isinstance (pa_cons (pv 0) (pa_cons (pe_bltn (by rfl) T.int PyProof.Rows.boot_int (show RelV (.ty "int") (.type "int") from rfl)) pa_nil))) (pe_one (pe_not (pe_callB call_isbool (by rfl) T.isi PyProof.Rows.boot_isinstance (pa_cons (pv 0) (pa_cons (pe_bltn (by rfl) T.boo PyProof.Rows.boot_bool (show RelV (.ty "bool") (.type "bool") from rfl)) pa_nil)))))))),?_⟩
  refine ⟨x,rfl,x,rfl,th,_,rfl,?_⟩
  cases th with
  | non=>exact iteF q
  | bl b=>exact iteT ⟨_,rfl,_,rfl,.bl b,_,rfl,q⟩
  | int i=>exact iteT ⟨_,rfl,_,rfl,.int i,_,rfl,q⟩
  | str z=>exact iteF q
  | lst e=>exact iteF q
  | frz e=>exact iteF q
  | tup e=>exact iteF q
  | dic e=>exact iteF q
theorem scBe:FnScope ["thing","bound"] ["thing","bound"] (defScope sBelow):=FSc
theorem ok_below {f f1:Addr} {fd fd1:FuncData} (F:Fun K "is_below" "is_below" sBelow f fd) (W:Dn K mg "is_whole" sWhole ["thing"] f1 fd1) (T:Txt K mg):FnOk P w K mg base CX0 2 f fd ["thing","bound"] spBelow:=by
 have G:FnOk P w K mg base CX0 1 f1 fd1 ["thing"] spWhole:=ok_whole W.F T
 refine F.ok scBe (λvs H Q E h=>?_) (λcdv A outer s H vs Q E hr h=>?_)
 ·obtain ⟨x,b,rfl,_⟩:=h
  rfl
 ·obtain ⟨x,b,rfl,th,q⟩:=h
  refine ⟨_,(pss_one (ps_ret (pe_and (pe_call G hr (by rfl) W.m W.F.kp W.b .nil pass0 (pa_cons (pv 0) pa_nil)) (pe_one (pe_chain op_le op_lt pe_int (pv 0) (pv 1)))))),?_⟩
  refine ⟨x,rfl,x,rfl,th,_,rfl,?_⟩
  cases th with
  | int i =>
   refine iteT ⟨_,rfl,0,i,rfl,rfl,_,rfl,?_⟩
   by_cases h0:(0:Int)<=i
   ·rw [decide_eq_true h0]
    refine iteT ⟨_,rfl,i,b,rfl,rfl,?_⟩
    simp only [below,decide_eq_true h0,Bool.true_and] at q
    exact q
   ·rw [decide_eq_false h0]
    refine iteF ?_
    simp only [below,decide_eq_false h0,Bool.false_and] at q
    exact q
  | non=>exact iteF q
  | bl b=>exact iteF q
  | str z=>exact iteF q
  | lst e=>exact iteF q
  | frz e=>exact iteF q
  | tup e=>exact iteF q
  | dic e=>exact iteF q
theorem scWd:FnScope ["thing"] ["thing"] (defScope sWord):=FSc
theorem ok_word {f f1:Addr} {fd fd1:FuncData} (F:Fun K "is_word" "is_word" sWord f fd) (B:Dn K mg "is_below" sBelow ["thing","bound"] f1 fd1) (G:FnOk P w K mg base CX0 2 f1 fd1 ["thing","bound"] spBelow) (S:Sto K mg C NP NL NW NI):FnOk P w K mg base CX0 3 f fd ["thing"] spWord:=by
 refine F.ok scWd (λvs H Q E h=>?_) (λcdv A outer s H vs Q E hr h=>?_)
 ·obtain ⟨x,rfl,_⟩:=h
  rfl
 ·obtain ⟨x,rfl,th,q⟩:=h
  obtain ⟨t1,m1⟩:=S.words
  refine ⟨_,(pss_one (ps_ret (pe_call G hr (by rfl) B.m B.F.kp B.b .nil pass0 (pa_cons (pv 0) (pa_cons (pe_glob (by rfl) m1 (show RelV (.int 281474976710656) (.int 281474976710656 t1) from ⟨_,rfl⟩)) pa_nil))))),?_⟩
  exact ⟨x,rfl,x,_,rfl,th,q⟩
theorem scEi:FnScope ["thing"] ["thing"] (defScope sEight):=FSc
theorem ndEi:(compN "word" ["thing"]).Nodup:=by decide +kernel
theorem dotEi:(".0":Str) ∉ (["thing"]:List Str):=by decide +kernel
inductive spEight (vs:List V) (H:Hp) (Q:VK) (E:XK):Prop
 | mk (p:Addr) (ws:List Int) (_:vs=[.ref p]) (_:H p=some (.lst (ws.map V.int))) (_:ws.length=8) (_:(∀ w ∈ ws,0<=w/\w<281474976710656)) (_:∀ H',Same H H'->Q (.bl true) H'):spEight vs H Q E
theorem ok_eight {f f1:Addr} {fd fd1:FuncData} (F:Fun K "is_eight_words" "is_eight_words" sEight f fd) (B:Dn K mg "is_word" sWord ["thing"] f1 fd1) (G:FnOk P w K mg base CX0 3 f1 fd1 ["thing"] spWord) (S:Sto K mg C NP NL NW NI) (T:Txt K mg):FnOk P w K mg base CX0 4 f fd ["thing"] spEight:=by
 refine F.ok scEi (λvs H Q E h=>?_) (λcdv A outer s H vs Q E hr h=>?_)
 ·obtain ⟨p,ws,rfl,_⟩:=h
  rfl
 ·obtain ⟨p,ws,rfl,hp,hl,hw,q⟩:=h
  obtain ⟨t2,m2⟩:=S.cells
  refine ⟨_,(pss_one (ps_ret (pe_and (pe_callB call_islist (by rfl) T.isi PyProof.Rows.boot_isinstance (pa_cons (pv 0) (pa_cons (pe_bltn (by rfl) T.lst PyProof.Rows.boot_list (show RelV (.ty "list") (.type "list") from rfl)) pa_nil))) (pe_and (pe_cmpR op_eq (pe_callB call_len_seq (by rfl) T.len PySem.boot_len (pa_cons (pv 0) pa_nil)) (pe_glob (by rfl) m2 (show RelV (.int 8) (.int 8 t2) from ⟨_,rfl⟩)) (nomark _)) (pe_one (pe_callB (call_allB rfl) (by rfl) T.all PyProof.Rows.boot_all (pa_cons (pe_comp (cl:=[]) (tc:=tYes) (te:=tCall spWord [] E0 (tCons (tVar 0) tNil)) rfl (pi_list (pv 0)) (closureFor_none (by decide +kernel)) (show CapOk _ _ _ _ from ⟨.inl ⟨.inr rfl,rfl⟩,.inl ⟨.inl rfl,rfl⟩,.inr (.inl ⟨by decide,by decide,by decide⟩),trivial⟩) trivial (λC s₂ H₂ fp=>.nil) (λC s₂ H₂ fp=>(pe_call G hr (by rfl) B.m B.F.kp B.b .nil pass0 (pa_cons (pv 0) pa_nil))) ndEi (hdot:=dotEi)) pa_nil))))))),?_⟩
  refine ⟨_,rfl,_,rfl,.lst hp,_,rfl,iteTS (isLst_of hp) ?_⟩
  refine ⟨_,rfl,p,_,rfl,.inl (SqL.of hp),rfl,_,rfl,iteTS (by show decide (V.int ((ws.map V.int).length:Int)=V.int 8)=true; rw [List.length_map,hl]; rfl) ?_⟩
  refine ⟨_,rfl,p,rfl,⟨_,SqL.of hp⟩,comp_list (xs:=ws.map V.int) (λD i ys H'=>H D=none/\Same H H'/\ys=(List.replicate i true).map V.bl/\H' D=some (.lst ys)) ?_ ?_ ?_ ?_⟩
  ·exact λD hD=>⟨hD,same_new hD,rfl,upd_same⟩
  ·rintro D i ys H' _ ⟨hD,ss,rfl,hy⟩
   exact ⟨SqL.of (ss _ _ hp),hy⟩
  ·rintro D i x ys H' hi ⟨hD,ss,rfl,hy⟩
   rw [List.getElem?_map] at hi
   cases e:ws[i]? with
   | none=>rw [e] at hi; cases hi
   | some z =>
    rw [e] at hi
    have hi':V.int z=x:=Option.some.inj hi
    subst hi'
    obtain ⟨z0,z1⟩:=hw z (List.mem_of_getElem? e)
    have hil:i<8:=by rw [<- hl]; exact (List.getElem?_eq_some_iff.mp e).1
    refine iteT ⟨_,rfl,_,rfl,.int z,?_⟩
    rw [below_of z0 z1]
    refine ⟨hy,?_,hD,Same.set ss hD,?_,upd_same⟩
    ·rw [List.length_map,List.length_replicate]
     exact Nat.lt_of_lt_of_le hil (by decide)
    ·rw [List.replicate_succ',List.map_append]
     rfl
  ·rintro D ys H' ⟨hD,ss,rfl,hy⟩
   refine ⟨D,_,rfl,hy,?_⟩
   rw [show ((List.replicate (ws.map V.int).length true).all id)=true by simp]
   exact q H' ss
theorem scIm:FnScope ["pages","page"] ["pages"] (defScope sImage):=FSc
inductive spImage (vs:List V) (H:Hp) (Q:VK) (E:XK):Prop
 | mk (p:Addr) (ps:Pgs) (_:vs=[.ref p]) (_:Pg H p ps) (_:Good ps) (_:1<=ps.length) (_:ps.length<=24) (_:∀ H',Same H H'->Q .non H'):spImage vs H Q E
theorem ok_image {f f1:Addr} {fd fd1:FuncData} (F:Fun K "check_image" "check_image" sImage f fd) (B:Dn K mg "is_eight_words" sEight ["thing"] f1 fd1) (G:FnOk P w K mg base CX0 4 f1 fd1 ["thing"] spEight) (S:Sto K mg C NP NL NW NI) (T:Txt K mg):FnOk P w K mg base (CXr P w) 5 f fd ["pages"] spImage:=by
 refine F.okR scIm (λvs H Q E h=>?_) (λcdv A outer s H vs Q E hr h=>?_)
 ·obtain ⟨p,ps,rfl,_⟩:=h
  rfl
 ·obtain ⟨p,ps,rfl,g,hg,l1,l2,q⟩:=h
  obtain ⟨t3,m3⟩:=S.most
  refine ⟨_,(pss_cons (ps_if (PW.pt (pw_or (pt_not (pt_val (pe_callB call_islist (by rfl) T.isi PyProof.Rows.boot_isinstance (pa_cons (pv 0) (pa_cons (pe_bltn (by rfl) T.lst PyProof.Rows.boot_list (show RelV (.ty "list") (.type "list") from rfl)) pa_nil))))) (pw_or1 (pt_not (pt_chain op_le op_le pe_int (pe_callB call_len_seq (by rfl) T.len PySem.boot_len (pa_cons (pv 0) pa_nil)) (pe_glob (by rfl) m3 (show RelV (.int 24) (.int 24 t3) from ⟨_,rfl⟩))))))) (pss_one (ps_raise S.xi S.ni raisesR rfl (pa_cons pe_str pa_nil))) pss_nil) (pss_one (ps_for passesOwnR rfl (pi_list (pv 0)) (pg_name (i:=1) scIm.nd rfl (Or.inl rfl)) (pss_one (ps_if (PW.pt (pw_and (pt_cmpR op_notN (pv 1) pe_non (nomark _)) (pw_and1 (pt_not (pt_val (pe_call G hr (by rfl) B.m B.F.kp B.b .nil pass0 (pa_cons (pv 1) pa_nil))))))) (pss_one (ps_raise S.xi S.ni raisesR rfl (pa_cons pe_str pa_nil))) pss_nil))))),?_⟩
  refine ⟨_,rfl,_,rfl,.lst g.top,_,rfl,iteFS (by show (!isLst H (.ref p))=false; rw [isLst_of g.top]; rfl) ?_⟩
  refine ⟨_,rfl,p,_,rfl,.inl (SqL.of g.top),1,_,rfl,rfl,_,rfl,iteTS (by show decide ((1:Int)<=((ps.map pgV).length:Int))=true; rw [List.length_map]; exact decide_eq_true (by omega)) ?_⟩
  refine ⟨_,24,rfl,rfl,_,rfl,iteFS (by show (!decide ((((ps.map pgV).length:Int))<=24))=false; rw [List.length_map,decide_eq_true (by omega)]; rfl) ?_⟩
  refine ⟨_,rfl,p,rfl,⟨_,SqL.of g.top⟩,for_list (K:=K) (a:=p) (xs:=ps.map pgV) (λi σ H'=>(∃ v,σ=[some (.ref p),v])/\Same H H') ⟨⟨_,rfl⟩,Same.refl _⟩ (λi σ H' _ ⟨_,ss⟩=>SqL.of (ss _ _ g.top)) ?_ ?_⟩
  ·rintro i x σ H' hi ⟨⟨v,rfl⟩,ss⟩
   rw [List.getElem?_map] at hi
   cases e:ps[i]? with
   | none=>rw [e] at hi; cases hi
   | some o =>
    rw [e] at hi
    have hi':pgV o=x:=Option.some.inj hi
    subst hi'
    cases o with
    | none =>
     refine ⟨_,rfl,rfl,_,rfl,iteF ?_⟩
     refine iteF ?_
     exact ⟨⟨_,rfl⟩,ss⟩
    | some z =>
     obtain ⟨a,ws⟩:=z
     refine ⟨_,rfl,rfl,_,rfl,iteT ?_⟩
     refine ⟨_,rfl,a,ws,rfl,ss _ _ (g.each i a ws e).1,(hg i a ws e).1,(hg i a ws e).2,λH2 s2=>⟨_,rfl,iteF ?_⟩⟩
     exact ⟨⟨_,rfl⟩,ss.trans s2⟩
  ·rintro σ H' ⟨_,ss⟩
   exact q H' ss
theorem scIn:FnScope ["self","pages"] ["self","pages"] (defScope sInit):=FSc
theorem ndIn:(compN "page" ["self","pages"]).Nodup:=by decide +kernel
theorem dotIn:(".0":Str) ∉ (["self","pages"]:List Str):=by decide +kernel
inductive spInit (C:Addr) (vs:List V) (H:Hp) (Q:VK) (E:XK):Prop
 | mk (m dx p:Addr) (ps:Pgs) (_:vs=[.ref m,.ref p]) (_:H m=some (.ins C dx [])) (_:Pg H p ps) (_:Good ps) (_:1<=ps.length) (_:ps.length<=24) (_:∀ (h:Addr) (H':Hp) (qs:Pgs),(∀ b o,b≠m->H b=some o->H' b=some o)->Mem C H' m h qs->cont qs=cont ps->(∀ b,At h qs b->H b=none)->Q .non H'):spInit C vs H Q E
theorem good_cont {ps qs:Pgs} (h:cont qs=cont ps) (g:Good ps):Good qs:=λi p ws e=>by
 obtain ⟨q,f⟩:=cont_some h e
 exact g i q ws f
theorem ok_init {f f1:Addr} {fd fd1:FuncData} (F:Fun K "__init__" "Memory.__init__" sInit f fd) (B:Dn K mg "check_image" sImage ["pages"] f1 fd1) (G:FnOk P w K mg base (CXr P w) 5 f1 fd1 ["pages"] spImage) (S:Sto K mg C NP NL NW NI) (T:Txt K mg):FnOk P w K mg base (CXr P w) 6 f fd ["self","pages"] (spInit C):=by
 refine F.okR scIn (λvs H Q E h=>?_) (λcdv A outer s H vs Q E hr h=>?_)
 ·obtain ⟨m,dx,p,ps,rfl,_⟩:=h
  rfl
 ·obtain ⟨m,dx,p,ps,rfl,hm,g,hg,l1,l2,q⟩:=h
  refine ⟨_,(pss_cons (ps_expr (pe_call G hr (by rfl) B.m B.F.kp B.b .nil passR (pa_cons (pv 1) pa_nil))) (pss_one (ps_fld (pv 0) (pe_comp (cl:=[]) (tc:=tYes) (te:=tCopy K) rfl (pi_list (pv 1)) (closureFor_none (by decide +kernel)) (show CapOk _ _ _ _ from ⟨.inl ⟨.inr rfl,rfl⟩,.inl ⟨.inl rfl,rfl⟩,.inr (.inl ⟨by decide,by decide,by decide⟩),trivial⟩) trivial (λC s₂ H₂ fp=>.nil) (λC s₂ H₂ fp=>(pe_ifExp (pt_cmpR op_isN (pv 0) pe_non (nomark _)) pe_non (pe_callTy call_list_of (by rfl) T.lst PyProof.Rows.boot_list (pa_cons (pv 0) pa_nil)))) ndIn (hdot:=dotIn)) rfl))),?_⟩
  refine ⟨_,rfl,p,ps,rfl,g,hg,l1,l2,λH1 s1=>?_⟩
  refine ⟨_,rfl,p,rfl,⟨_,SqL.of (s1 _ _ g.top)⟩,copy_pages (g.same s1) (by omega) λD H2 qs s2 g2 hc hf=>?_⟩
  have s12:=s1.trans s2
  have hm2:=s12 _ _ hm
  have nm:∀ b,At D qs b->b≠m:=λb hb z=>by
   have:=s1.free (hf b hb)
   rw [z,hm] at this
   cases this
  refine ⟨_,rfl,m,C,dx,_,rfl,hm2,S.cl,S.nh,(by show 0<1000; decide),?_⟩
  refine q D _ qs (λb o hb e=>by rw [upd_ne hb]; exact s12 _ _ e) ⟨⟨dx,upd_same⟩,g2.keep λb hb=>upd_ne (nm b hb),good_cont hc hg,?_⟩ hc λb hb=>s1.free (hf b hb)
  have:=cont_len hc
  omega
end
end K32
end
section
namespace K32
open PySem L2
theorem below_far {i b:Int} (h:b<=i):below (.int i) b=false:=by
 have e:decide (i<b)=false:=decide_eq_false (by omega)
 simp [below,e]
structure Both (C:Addr) (H:Hp) (m h D:Addr) (ps qs:Pgs):Prop where
 M:Mem C H m h ps
 g:Pg H D qs
 c:cont ps=cont qs
 ap:∀ b,At h ps b->¬ At D qs b
theorem passX0 {P:Program} {w:World} {X:Cx}:Passes (CXr P w) X E0:=by
 rintro _ _ _ _ _ _ _ ⟨_,_,_,_,_,_,_,_,_,_,_,_,_,_,_,q⟩
 exact q.elim
end K32
end
section
namespace K32
open PySem L2
abbrev sSInit:Stmt:=inClass (top 35) 0
abbrev Rs:=List (Int×Int×Int)
inductive Rws (H:Hp):List (Key×V)->Rs->Prop
 | nil:Rws H [] []
 | cons {k p r:Int} {t:Addr} {kvs:List (Key×V)} {rs:Rs}:H t=some (.tup [.int p,.int r])->Rws H kvs rs->Rws H ((Sum.inl k,.ref t)::kvs) ((k,p,r)::rs)
theorem Rws.imp {H H':Hp} (f:∀ t xs,H t=some (.tup xs)->H' t=some (.tup xs)) {kvs:List (Key×V)} {rs:Rs} (h:Rws H kvs rs):Rws H' kvs rs:=by
 induction h with
 | nil=>exact .nil
 | cons e _ ih=>exact .cons (f _ _ e) ih
structure Shf (K:PySem.W.Frag) (mg:Str->Option Value) (C:Addr):Prop where
 cl:Cls K C
 nm:NoAttr K C "most"
 ns:NoAttr K C "seats"
 seats:∃ t,mg "SEATS"=some (.int 12 t)
structure FsOk (fs:List (Str×V)) (n:Int) (q:Addr):Prop where
 most:fs.lookup ("most":Str)=some (.int n)
 seats:fs.lookup ("seats":Str)=some (.ref q)
 no:∀ m:Str,¬ m = "most"->¬ m = "seats"->fs.lookup m=none
 few:fs.length<=100
theorem length_putF_of (f:Str) (v:V):∀ {fs:List (Str×V)},(fs.lookup f).isSome=true->(putF f v fs).length=fs.length
 | [],h=>by simp at h
 | (g,x)::r,h=>by
  show (if g=f then (g,v)::r else (g,x)::putF f v r).length=_
  by_cases e:g=f
  ·rw [if_pos e]
   rfl
  ·rw [if_neg e,List.length_cons,List.length_cons,length_putF_of f v (fs:=r)]
   rw [List.lookup_cons,beq_eq_false_iff_ne.mpr (Ne.symm e)] at h
   exact h
structure Sh (C:Addr) (H:Hp) (m q:Addr) (n:Int) (rs:Rs):Prop where
 ob:∃ dx fs,H m=some (.ins C dx fs)/\FsOk fs n q
 se:∃ kvs,H q=some (.dK kvs)/\Rws H kvs rs
 nd:(rs.map (·.1)).Nodup
 ln:rs.length<=13
 n1:1<=n
 n2:n<=12
theorem Sh.same {C:Addr} {H H':Hp} {m q:Addr} {n:Int} {rs:Rs} (S:Sh C H m q n rs) (s:Same H H'):Sh C H' m q n rs:=by
 obtain ⟨dx,fs,e,f⟩:=S.ob
 obtain ⟨kvs,e2,r⟩:=S.se
 exact ⟨⟨dx,fs,s _ _ e,f⟩,⟨kvs,s _ _ e2,r.imp λt xs z=>s _ _ z⟩,S.nd,S.ln,S.n1,S.n2⟩
def But (a:Addr) (H H':Hp):Prop:=∀ b o,b≠a->H b=some o->H' b=some o
theorem But.upd {a:Addr} {H:Hp} {o:HO}:But a H (upd H a o):=λb u h e=>by rw [upd_ne h]; exact e
theorem Sh.but {C a:Addr} {H H':Hp} {m q:Addr} {n:Int} {rs:Rs} (S:Sh C H m q n rs) (s:But a H H') (h1:m≠a) (h2:q≠a) (h3:∀ xs,H a≠some (.tup xs)):Sh C H' m q n rs:=by
 obtain ⟨dx,fs,e,f⟩:=S.ob
 obtain ⟨kvs,e2,r⟩:=S.se
 exact ⟨⟨dx,fs,s _ _ h1 e,f⟩,⟨kvs,s _ _ h2 e2,r.imp λt xs z=>s _ _ (λy=>h3 xs (y ▸ z)) z⟩,S.nd,S.ln,S.n1,S.n2⟩
inductive Trs (H:Hp):List V->Rs->Prop
 | nil:Trs H [] []
 | cons {k p r:Int} {t:Addr} {ys:List V} {rs:Rs}:H t=some (.tup [.int k,.int p,.int r])->Trs H ys rs->Trs H (.ref t::ys) ((k,p,r)::rs)
structure TL (H:Hp) (l:Addr) (rs:Rs):Prop where
 ls:∃ ys,H l=some (.lst ys)/\Trs H ys rs
inductive spSInit (C:Addr) (vs:List V) (H:Hp) (Q:VK) (E:XK):Prop
 | mk (m dx:Addr) (n:Int) (_:vs=[.ref m,.int n]) (_:H m=some (.ins C dx [])) (_:1<=n) (_:n<=12) (_:∀ (q:Addr) (H':Hp),But m H H'->H q=none->Sh C H' m q n []->Q .non H'):spSInit C vs H Q E
section
variable {P : Program} {w : World} {K : PySem.W.Frag} {mg : Str → Option Value} {base : Heap} {C : Addr}
theorem scSIn:FnScope ["self","most"] ["self","most"] (defScope sSInit):=FSc
theorem ok_sinit {f f1:Addr} {fd fd1:FuncData} (F:Fun K "__init__" "Shelf.__init__" sSInit f fd) (D1:Dn K mg "is_whole" sWhole ["thing"] f1 fd1) (G1:FnOk P w K mg base CX0 1 f1 fd1 ["thing"] spWhole) (S:Shf K mg C):FnOk P w K mg base CX0 2 f fd ["self","most"] (spSInit C):=by
 obtain ⟨t1,m1⟩:=S.seats
 refine F.ok scSIn (λvs H Q E h=>?_) (λcdv A outer s H vs Q E hr h=>?_)
 ·obtain ⟨m,dx,n,rfl,_⟩:=h
  rfl
 ·obtain ⟨m,dx,n,rfl,hm,h1,h2,q⟩:=h
  refine ⟨_,pss_cons (ps_if (PW.pt (pw_or (pt_not (pt_val (pe_call G1 hr (by rfl) D1.m D1.F.kp D1.b .nil pass0 (pa_cons (pv 1) pa_nil)))) (pw_or1 (pt_not (pt_chain op_le op_le pe_int (pv 1) (pe_glob (by rfl) m1 (show RelV (.int 12) (.int 12 t1) from ⟨_,rfl⟩))))))) pss_never pss_nil) (pss_cons (ps_fld (pv 0) (pv 1) rfl) (pss_one (ps_fld (pv 0) pe_dnewK rfl))),?_⟩
  refine ⟨_,rfl,.int n,rfl,.int n,_,rfl,iteF ?_⟩
  refine ⟨_,rfl,1,n,rfl,rfl,_,rfl,?_⟩
  rw [decide_eq_true h1]
  refine iteT ⟨n,12,rfl,rfl,_,rfl,?_⟩
  rw [decide_eq_true h2]
  refine iteF ?_
  refine ⟨_,rfl,_,rfl,m,C,dx,_,rfl,hm,S.cl,S.nm,(by show 0<1000; decide),?_⟩
  intro p hp
  have np:m≠p:=ne_of_none upd_same hp
  refine ⟨_,rfl,m,C,dx,_,rfl,(by rw [upd_ne np]; exact upd_same),S.cl,S.ns,(by show 1<1000; decide),?_⟩
  have hp0:H p=none:=by
   rw [upd_ne np.symm] at hp
   exact hp
  refine q p _ (λb o hb e=>?_) hp0 ⟨⟨dx,_,upd_same,⟨?_,?_,λg z1 z2=>?_,?_⟩⟩,⟨[],?_,.nil⟩,List.nodup_nil,by decide,h1,h2⟩
  ·rw [upd_ne hb,upd_ne (ne_of_none e hp0),upd_ne hb]
   exact e
  ·rw [lookup_putF,if_neg (by decide +kernel),lookup_putF,if_pos rfl]
  ·rw [lookup_putF,if_pos rfl]
  ·rw [lookup_putF,if_neg z2,lookup_putF,if_neg z1]
   rfl
  ·exact Nat.le_trans (length_putF _ _ _) (Nat.le_trans (Nat.succ_le_succ (length_putF _ _ _)) (by decide))
  ·rw [upd_ne np.symm]
   exact upd_same
end
end K32
end
section
namespace K32
open PySem L2
abbrev sPInit:Stmt:=inClass (top 60) 0
abbrev sWInit:Stmt:=inClass (top 59) 0
structure Wf (fs:List (Str×V)) (m r aw:Addr) (b:Int):Prop where
 mem:fs.lookup ("memory":Str)=some (.ref m)
 bas:fs.lookup ("base":Str)=some (.int b)
 rck:fs.lookup ("rack":Str)=some (.ref r)
 ans:fs.lookup ("answers":Str)=some (.ref aw)
 no:∀ n:Str,¬ n = "memory"->¬ n = "base"->¬ n = "rack"->¬ n = "answers"->fs.lookup n=none
 len:fs.length<=8
theorem Wf.nq {fs:List (Str×V)} {m r aw:Addr} {b:Int} (wf:Wf fs m r aw b) (n:Str) (h1:¬ n = "memory":=by decide +kernel) (h2:¬ n = "base":=by decide +kernel) (h3:¬ n = "rack":=by decide +kernel) (h4:¬ n = "answers":=by decide +kernel):fs.lookup n=none:=wf.no n h1 h2 h3 h4
structure Plc (K:PySem.W.Frag) (PL:Addr):Prop where
 cl:Cls K PL
 nm:NoAttr K PL "memory"
 nb:NoAttr K PL "base"
 nr:NoAttr K PL "rack"
 na:NoAttr K PL "answers"
structure Way (C SC PL:Addr) (H:Hp) (a m h r q aw:Addr) (ps:Pgs) (n:Int) (rs:Rs) (bs:List Bool) (b:Int):Prop where
 ob:∃ dx fs,H a=some (.ins PL dx fs)/\Wf fs m r aw b
 M:Mem C H m h ps
 S:Sh SC H r q n rs
 an:H aw=some (.lst (bs.map V.bl))
 nd:¬ At h ps aw
inductive spWInit (SC PL:Addr) (vs:List V) (H:Hp) (Q:VK) (E:XK):Prop
 | mk (a dx:Addr) (fs:List (Str×V)) (n:Int) (_:vs=[.ref a,.int n]) (_:H a=some (.ins PL dx fs)) (_:fs.length<900) (_:1<=n) (_:n<=12) (_:∀ (r q:Addr) (H':Hp),But a H H'->H r=none->H q=none->H' a=some (.ins PL dx (putF "rack" (.ref r) (putF "base" (.int 0) fs)))->Sh SC H' r q n []->Q .non H'):spWInit SC PL vs H Q E
inductive spPInit (C SC PL:Addr) (vs:List V) (H:Hp) (Q:VK) (E:XK):Prop
 | mk (a dx p l:Addr) (ps:Pgs) (n:Int) (bs:List Bool) (_:vs=[.ref a,.ref p,.int n,.ref l]) (_:H a=some (.ins PL dx [])) (_:Pg H p ps) (_:Good ps) (_:1<=ps.length) (_:ps.length<=24) (_:1<=n) (_:n<=12) (_:H l=some (.lst (bs.map V.bl))) (_:∀ (m h r q aw:Addr) (H':Hp) (qs:Pgs),But a H H'->Way C SC PL H' a m h r q aw qs n [] bs 0->cont qs=cont ps->(∀ b,(b=m\/b=r\/b=q\/b=aw\/At h qs b)->H b=none)->Q .non H'):spPInit C SC PL vs H Q E
section
variable {P : Program} {w : World} {K : PySem.W.Frag} {mg : Str → Option Value} {base : Heap} {C NP NL NW NI SC PL WC : Addr}
theorem scwinit:FnScope ["self","most"] ["self","most"] (defScope sWInit):=FSc
theorem ok_winit {f f1:Addr} {fd fd1:FuncData} (F:Fun K "__init__" "Ways.__init__" sWInit f fd) (MK:Mk K SC f1) (mS:mg "Shelf"=some (.ref SC)) (BI:Binds K fd1 ["self","most"] []) (GI:FnOk P w K mg base CX0 2 f1 fd1 ["self","most"] (spSInit SC)) (PC:Plc K PL):FnOk P w K mg base CX0 4 f fd ["self","most"] (spWInit SC PL):=by
 refine F.ok scwinit (λvs H Q E h'=>?_) (λcdv A outer s H vs Q E hr h'=>?_)
 ·obtain ⟨a,dx,fs,n,rfl,_⟩:=h'
  rfl
 ·obtain ⟨a,dx,fs,n,rfl,ha,hl,n1,n2,q0⟩:=h'
  refine ⟨_,(pss_cons (ps_fld (pv 0) pe_int rfl) (pss_one (ps_fld (pv 0) (pe_make MK GI hr (by rfl) mS BI .nil pass0 (pa_cons (pv 1) pa_nil)) rfl))),?_⟩
  refine ⟨_,rfl,a,PL,dx,fs,rfl,ha,PC.cl,PC.nb,(by omega),?_⟩
  have za:upd H a (.ins PL dx (putF "base" (.int 0) fs)) a=some (.ins PL dx (putF "base" (.int 0) fs)):=upd_same
  have ka:∀ b o,H b=some o->b≠a->upd H a (.ins PL dx (putF "base" (.int 0) fs)) b=some o:=λb o e z=>by rw [upd_ne z]; exact e
  have fa:∀ b,upd H a (.ins PL dx (putF "base" (.int 0) fs)) b=none->b≠a/\H b=none:=λb e=>by
   have z:b≠a:=λz=>by rw [z,upd_same] at e; cases e
   rw [upd_ne z] at e
   exact ⟨z,e⟩
  generalize upd H a (.ins PL dx (putF "base" (.int 0) fs))=H1 at *
  refine ⟨_,rfl,λr dr hr0 hdr ner=>?_⟩
  have s0:Same H1 (upd (upd H1 dr (.own r)) r (.ins SC dr [])):=(same_new hdr).trans (same_new (by rw [upd_ne ner.symm]; exact hr0))
  refine ⟨r,dr,n,rfl,upd_same,n1,n2,λq H2 b2 fq sh2=>⟨rfl,?_⟩⟩
  obtain ⟨ra,fr⟩:=fa r hr0
  obtain ⟨qa,fq⟩:=fa q (s0.free fq)
  have ha2:=b2 a _ ra.symm (s0 _ _ za)
  refine ⟨_,rfl,a,PL,dx,_,rfl,ha2,PC.cl,PC.nr,(by have:=length_putF "base" (.int 0) fs; omega),?_⟩
  exact q0 r q _ (λb o z e=>by rw [upd_ne z]; exact b2 b o (ne_of_none e fr) (s0 _ _ (ka b o e z))) fr fq upd_same (sh2.but But.upd ra qa λxs z=>by rw [ha2] at z; cases z)
theorem scPl2:FnScope ["self","pages","most","words"] ["self","pages","most","words"] (defScope sPInit):=FSc
theorem ok_plinit {f f1 f2:Addr} {fd fd1 fd2:FuncData} (F:Fun K "__init__" "Plain.__init__" sPInit f fd) (MK:Mk K C f1) (mM:mg "Memory"=some (.ref C)) (BI:Binds K fd1 ["self","pages"] []) (GI:FnOk P w K mg base (CXr P w) 6 f1 fd1 ["self","pages"] (spInit C)) (CM:CMeth K WC "__init__" f2) (mW:mg "Ways"=some (.ref WC)) (BW:Binds K fd2 ["self","most"] []) (GW:FnOk P w K mg base CX0 4 f2 fd2 ["self","most"] (spWInit SC PL)) (PC:Plc K PL) (T:Txt K mg):FnOk P w K mg base CX0 8 f fd ["self","pages","most","words"] (spPInit C SC PL):=by
 refine F.ok scPl2 (λvs H Q E h'=>?_) (λcdv A outer s H vs Q E hr h'=>?_)
 ·obtain ⟨a,dx,p,l,ps,n,bs,rfl,_⟩:=h'
  rfl
 ·obtain ⟨a,dx,p,l,ps,n,bs,rfl,ha,gp,hg,l1,l2,n1,n2,hl,q0⟩:=h'
  have hr4:Room 4 _:=hr.mono (by decide)
  refine ⟨_,(pss_cons (ps_fld (pv 0) (pe_make MK GI hr (by rfl) mM BI .nil passX0 (pa_cons (pv 1) pa_nil)) rfl) (pss_cons (ps_expr (pe_cmeth GW hr4 (by rfl) mW CM BW .nil pass0 (pa_cons (pv 0) (pa_cons (pv 2) pa_nil)))) (pss_one (ps_fld (pv 0) (pe_callTy call_list_of (by rfl) T.lst PyProof.Rows.boot_list (pa_cons (pv 3) pa_nil)) rfl)))),?_⟩
  refine ⟨_,rfl,λm dm hm0 hdm nem=>?_⟩
  have s0:Same H (upd (upd H dm (.own m)) m (.ins C dm [])):=(same_new hdm).trans (same_new (by rw [upd_ne nem.symm]; exact hm0))
  refine ⟨m,dm,p,ps,rfl,upd_same,gp.same s0,hg,l1,l2,λh H2 qs b2 M2 hc hf=>⟨rfl,?_⟩⟩
  have k2:∀ b o,H b=some o->H2 b=some o:=λb o e=>b2 b o (ne_of_none e hm0) (s0 _ _ e)
  have f2:∀ b,H2 b=none->H b=none:=λb e=>by
   cases hb:H b with
   | none=>rfl
   | some o=>rw [k2 b o hb] at e; cases e
  have am:m≠a:=(ne_of_none ha hm0).symm
  have ah:¬ At h qs a:=λz=>by have:=s0.free (hf a z); rw [ha] at this; cases this
  refine ⟨_,rfl,a,PL,dx,_,rfl,k2 _ _ ha,PC.cl,PC.nm,(by show 0<1000; decide),?_⟩
  have za:upd H2 a (.ins PL dx (putF "memory" (.ref m) [])) a=some (.ins PL dx (putF "memory" (.ref m) [])):=upd_same
  have ka:∀ b o,H2 b=some o->b≠a->upd H2 a (.ins PL dx (putF "memory" (.ref m) [])) b=some o:=λb o e z=>by rw [upd_ne z]; exact e
  have fa:∀ b,upd H2 a (.ins PL dx (putF "memory" (.ref m) [])) b=none->b≠a/\H2 b=none:=λb e=>by
   have z:b≠a:=λz=>by rw [z,upd_same] at e; cases e
   rw [upd_ne z] at e
   exact ⟨z,e⟩
  generalize upd H2 a (.ins PL dx (putF "memory" (.ref m) []))=H3 at *
  have f1l:(putF "memory" (.ref m) ([]:List (Str×V))).length<=1:=length_putF _ _ _
  refine ⟨_,rfl,_,rfl,a,dx,_,n,rfl,za,(by omega),n1,n2,λr q H4 b4 fr fq ha4 sh4=>?_⟩
  obtain ⟨ra,fr2⟩:=fa r fr
  obtain ⟨qa,fq2⟩:=fa q fq
  have k4:∀ b o,H2 b=some o->b≠a->H4 b=some o:=λb o e z=>b4 b o z (ka b o e z)
  have la:l≠a:=ne_of hl ha nofun
  refine ⟨_,rfl,l,_,rfl,.inl (SqL.of (k4 l _ (k2 _ _ hl) la)),λaw haw=>?_⟩
  have s5:=same_new (o:=.lst (bs.map V.bl)) haw
  have z5:upd H4 aw (.lst (bs.map V.bl)) aw=some (.lst (bs.map V.bl)):=upd_same
  generalize upd H4 aw (.lst (bs.map V.bl))=H5 at *
  have aaw:aw≠a:=(ne_of_none ha4 haw).symm
  have faw:H aw=none:=by
   cases hb:H aw with
   | none=>rfl
   | some o=>rw [k4 aw o (k2 _ _ hb) aaw] at haw; cases haw
  have f2l:=length_putF "base" (.int 0) (putF "memory" (.ref m) ([]:List (Str×V)))
  have f3l:=length_putF "rack" (.ref r) (putF "base" (.int 0) (putF "memory" (.ref m) ([]:List (Str×V))))
  refine ⟨_,rfl,a,PL,dx,_,rfl,s5 _ _ ha4,PC.cl,PC.na,(by omega),?_⟩
  have kM:∀ b o,H2 b=some o->b≠a->upd H5 a (.ins PL dx (putF "answers" (.ref aw) (putF "rack" (.ref r) (putF "base" (.int 0) (putF "memory" (.ref m) []))))) b=some o:=λb o e z=>by rw [upd_ne z]; exact s5 _ _ (k4 b o e z)
  obtain ⟨dm2,em2⟩:=M2.ob
  refine q0 m h r q aw _ qs (λb o z e=>kM b o (k2 _ _ e) z) ⟨⟨dx,_,upd_same,⟨?_,?_,?_,?_,λg z1 z2 z3 z4=>?_,?_⟩⟩,⟨⟨dm2,kM m _ em2 am⟩,M2.pg.keep λb hb=>?_,M2.good,M2.len⟩,(sh4.same s5).but But.upd ra qa (λxs z=>by rw [s5 _ _ ha4] at z; cases z),by rw [upd_ne aaw]; exact z5,λz=>?_⟩ hc λb hb=>?_
  ·rw [lookup_putF,if_neg (by decide +kernel),lookup_putF,if_neg (by decide +kernel),lookup_putF,if_neg (by decide +kernel),lookup_putF,if_pos rfl]
  ·rw [lookup_putF,if_neg (by decide +kernel),lookup_putF,if_neg (by decide +kernel),lookup_putF,if_pos rfl]
  ·rw [lookup_putF,if_neg (by decide +kernel),lookup_putF,if_pos rfl]
  ·rw [lookup_putF,if_pos rfl]
  ·rw [lookup_putF,if_neg z4,lookup_putF,if_neg z3,lookup_putF,if_neg z2,lookup_putF,if_neg z1]
   rfl
  ·have f4l:=length_putF "answers" (.ref aw) (putF "rack" (.ref r) (putF "base" (.int 0) (putF "memory" (.ref m) ([]:List (Str×V)))))
   omega
  ·obtain ⟨u,y⟩:=M2.pg.at hb
   rw [y]
   exact kM b u y λz=>ah (z ▸ hb)
  ·obtain ⟨u,y⟩:=M2.pg.at z
   rw [k4 aw u y aaw] at haw
   cases haw
  ·rcases hb with rfl | rfl | rfl | rfl | hb
   ·exact hm0
   ·exact f2 _ fr2
   ·exact f2 _ fq2
   ·exact faw
   ·exact s0.free (hf b hb)
end
end K32
end
section
namespace L2
open PySem PySem.Spec PyProof.Rows
section
variable {X : Cx} {k : Nat} {f C : Addr} {fd : FuncData} {ps : List Str} {sp : Sp} {ds : List Value} {dvs : List V} {x : Str} {p pos : Pos} {e : Expr} {es : List Expr} {t : TA}
theorem run_makeX {pins:List (Addr×Obj)} {σ:St} {H:Hp} {s:Shared} {Q:VK} {E:XK} {us:List Value} {vs:List V} (M:Mk X.K C f) (F:FnOk X.prog X.w X.K X.mg X.base (CXr X.prog X.w) k f fd ps sp) (hr:Room (k+1) X.A) (hb:Binds X.K fd ps ds) (hd:Vals dvs ds)
  (I:Inv X pins σ H s) (r:Vals vs us)
  (h:∀ x dx,H x=none->H dx=none->dx≠x->sp (.ref x::(vs++dvs)) (upd (upd H dx (.own x)) x (.ins C dx [])) (λv H2=>v=.non/\Q (.ref x) H2) E) :
  wpAny (model X.prog X.w) X.A (call (.ref C) us) (EP X pins σ Q) (XE X pins σ E) s:=by
 have hq:=h (s.heap.objs.size+1) s.heap.objs.size (I.hok.fresh (Nat.le_succ _)) (I.hok.fresh (Nat.le_refl _)) (Nat.ne_of_lt (Nat.lt_succ_self _))
 have I2:=Inv.made (C:=C) I
 have r2:Vals (V.ref (s.heap.objs.size+1)::(vs++dvs)) (Value.ref (s.heap.objs.size+1)::(us++ds)):=.cons rfl (r.append hd)
 have hl:(Value.ref (s.heap.objs.size+1)::us++ds).length=ps.length:=by
  have e:=r2.length
  rw [F.len _ _ _ _ hq] at e
  exact e.symm
 refine wpAny_call (make_map (f:=f) I.kIn M.makes M.init (beq_iff_eq.mp M.fn) (codeAny_mono (F.run _ X.stack _ _ ⟨Value.ref (s.heap.objs.size+1)::us,[]⟩ (Value.ref (s.heap.objs.size+1)::(us++ds)) _ _ E (hr.make C us [])
  (I2.env0.make C us []) (hb _ (Value.ref (s.heap.objs.size+1)::us) I2.kIn hl) r2 hq) λr s' hq'=>?_))
 cases r with
 | error e=>exact ⟨_,_,I2,hq'⟩
 | ok fl =>
  cases fl with
  | ret u =>
   obtain ⟨v,H',I3,rv,ev,q3⟩:=I2.after hq'
   subst ev
   exact ⟨rv,⟨V.ref (s.heap.objs.size+1),H',I3,rfl,q3⟩⟩
  | next=>exact False.elim hq'
  | brk=>exact False.elim hq'
  | cont=>exact False.elim hq'
def tMakeX (C:Addr) (sp:Sp) (dvs:List V) (t:TA):TEX:=λσ H Q E=>t σ H λvs H1=>∀ x dx,H1 x=none->H1 dx=none->dx≠x->sp (.ref x::(vs++dvs)) (upd (upd H1 dx (.own x)) x (.ins C dx [])) (λv H2=>v=.non/\Q (.ref x) H2) E
theorem pex_make (M:Mk X.K C f) (F:FnOk X.prog X.w X.K X.mg X.base (CXr X.prog X.w) k f fd ps sp) (hr:Room (k+1) X.A) (hg:Gl X x) (hm:X.mg x=some (.ref C)) (hb:Binds X.K fd ps ds) (hd:Vals dvs ds)
  (ha:PA X.nox (e::es) t) (hdb:(x == ("__debug__":Str))=false:=by decide) (he:starEach (e::es) X.env=(false,eval e X.env)::starEach es X.env:=by rfl) (hpl:(backTo pos (starEach es X.env)).any (·.1)=false:=by rfl) :
  PEX X (.Call (.Name x p) (e::es) [] pos) (tMakeX C sp dvs t):=by
 intro pins s σ H Q E I h
 refine wpAny_Call_Name_kw (ld_glob I hg hm ?_ hdb)
 refine PySem.W.callWith_K (h₀:=X.base) I.ok.mod.kin M.kp (wpAny_mono (ha pos pins s σ H _ (I.wish _) h) (λus s1 q=>?_) λ_ _ z=>z.elim) he hpl
 obtain ⟨vs,H1,I1,r,q⟩:=q
 exact ⟨I1.kIn,run_makeX M F hr hb hd I1.unwish r q⟩
end
section
variable {X : Cx}
end
end L2
end
section
namespace K32
open PySem L2
def NotEight (H:Hp) (x:V):Prop:=(Th H x/\isLst H x=false)\/(∃ a xs,x=.ref a/\H a=some (.lst xs)/\xs.length≠8)\/(∃ a xs,x=.ref a/\H a=some (.lst xs)/\xs.length=8/\(∀ v ∈ xs,Th H v)/\∃ v ∈ xs,below v 281474976710656=false)
theorem isLst_same {H H':Hp} {x:V} (t:Th H x) (s:Same H H'):isLst H' x=isLst H x:=by
 cases t with
 | lst e=>unfold isLst; dsimp only; rw [e,s _ _ e]
 | frz e=>unfold isLst; dsimp only; rw [e,s _ _ e]
 | tup e=>unfold isLst; dsimp only; rw [e,s _ _ e]
 | dic e=>unfold isLst; dsimp only; rw [e,s _ _ e]
 | _=>rfl
theorem NotEight.same {H H':Hp} {x:V} (h:NotEight H x) (s:Same H H'):NotEight H' x:=by
 rcases h with ⟨t,e⟩ | ⟨a,xs,rfl,e,hl⟩ | ⟨a,xs,rfl,e,hl,ht,hv⟩
 ·exact .inl ⟨t.same s,by rw [isLst_same t s]; exact e⟩
 ·exact .inr (.inl ⟨a,xs,rfl,s _ _ e,hl⟩)
 ·exact .inr (.inr ⟨a,xs,rfl,s _ _ e,hl,λv m=>(ht v m).same s,hv⟩)
def PgOk (H:Hp) (v:V):Prop:=v=.non\/∃ (p:Addr) (ws:List Int),v=.ref p/\H p=some (.lst (ws.map V.int))/\ws.length=8/\∀ w ∈ ws,0<=w/\w<281474976710656
theorem PgOk.same {H H':Hp} {v:V} (h:PgOk H v) (s:Same H H'):PgOk H' v:=by
 rcases h with h | ⟨p,ws,h1,h2,h3⟩
 ·exact .inl h
 ·exact .inr ⟨p,ws,h1,s _ _ h2,h3⟩
def BadI (H:Hp) (x:V):Prop:=(Th H x/\isLst H x=false)\/(∃ a xs,x=.ref a/\H a=some (.lst xs)/\(xs.length=0\/24<xs.length)/\xs.length<=1000) \/
 ∃ a xs,x=.ref a/\H a=some (.lst xs)/\1<=xs.length/\xs.length<=24/\(∀ v ∈ xs,PgOk H v\/(v≠.non/\NotEight H v))/\∃ v ∈ xs,v≠.non/\NotEight H v
theorem BadI.same {H H':Hp} {x:V} (h:BadI H x) (s:Same H H'):BadI H' x:=by
 rcases h with ⟨t,e⟩ | ⟨a,xs,h1,h2,h3⟩ | ⟨a,xs,h1,h2,h3,h4,h5,v,hv,h6⟩
 ·exact .inl ⟨t.same s,by rw [isLst_same t s]; exact e⟩
 ·exact .inr (.inl ⟨a,xs,h1,s _ _ h2,h3⟩)
 ·exact .inr (.inr ⟨a,xs,h1,s _ _ h2,h3,h4,λu hu=>(h5 u hu).elim (λz=>.inl (z.same s)) (λz=>.inr ⟨z.1,z.2.same s⟩),v,hv,h6.1,h6.2.same s⟩)
theorem FnOk.or {P:Program} {w:World} {K:PySem.W.Frag} {mg:Str->Option Value} {base:Heap} {CX:CXT} {k:Nat} {f:Addr} {fd:FuncData} {ps:List Str} {sp sq:Sp} (a:FnOk P w K mg base CX k f fd ps sp) (b:FnOk P w K mg base CX k f fd ps sq):FnOk P w K mg base CX k f fd ps (λvs H Q E=>sp vs H Q E\/sq vs H Q E) :=
 ⟨λvs H Q E h=>h.elim (a.len vs H Q E) (b.len vs H Q E),λA o s H as us vs Q E hr e0 hb r h=>h.elim (a.run A o s H as us vs Q E hr e0 hb r) (b.run A o s H as us vs Q E hr e0 hb r)⟩
def goodM:V->Bool
 | .int i=>decide (1<=i) && decide (i<=12)
 | _=>false
structure ShN (K:PySem.W.Frag) (mg:Str->Option Value) (NS:Addr):Prop where
 xs:excIn K NS=true
 ns:mg "NoShelf"=some (.ref NS)
theorem _root_.L2.Th.but {H H':Hp} {x:V} {a C dx:Addr} {fs:List (Str×V)} (t:Th H x) (s:But a H H') (ha:H a=some (.ins C dx fs)):Th H' x:=by
 cases t with
 | non=>exact .non
 | bl b=>exact .bl b
 | int i=>exact .int i
 | str z=>exact .str z
 | lst e=>exact .lst (s _ _ (ne_of e ha nofun) e)
 | frz e=>exact .frz (s _ _ (ne_of e ha nofun) e)
 | tup e=>exact .tup (s _ _ (ne_of e ha nofun) e)
 | dic e=>exact .dic (s _ _ (ne_of e ha nofun) e)
inductive spEightN (vs:List V) (H:Hp) (Q:VK) (E:XK):Prop
 | mk (x:_) (_:vs=[x]) (_:NotEight H x) (_:∀ H',Same H H'->Q (.bl false) H'):spEightN vs H Q E
def spEightB:Sp:=λvs H Q E=>spEight vs H Q E\/spEightN vs H Q E
def spImageN (NI:Addr):Sp:=λvs H _ E=>∃ x,vs=[x]/\BadI H x/\∀ H',Same H H'->E (.ref NI) none H'
def spSInitN (SC NS:Addr):Sp:=λvs H _ E=>∃ (m dx:Addr) (x:V),vs=[.ref m,x]/\H m=some (.ins SC dx [])/\Th H x/\goodM x=false/\E (.ref NS) none H
def spWInitN (PL NS:Addr):Sp:=λvs H _ E=>∃ (a dx:Addr) (fs:List (Str×V)) (x:V),vs=[.ref a,x]/\H a=some (.ins PL dx fs)/\fs.length<900/\Th H x/\goodM x=false/\∀ H',But a H H'->E (.ref NS) none H'
def spMInitN (C NI:Addr):Sp:=λvs H _ E=>∃ (m dx:Addr) (x:V),vs=[.ref m,x]/\H m=some (.ins C dx [])/\BadI H x/\∀ H',Same H H'->E (.ref NI) none H'
def spPInitI (PL NI:Addr):Sp:=λvs H _ E=>∃ (a dx:Addr) (x y z:V),vs=[.ref a,x,y,z]/\H a=some (.ins PL dx [])/\BadI H x/\∀ H',Same H H'->E (.ref NI) none H'
def spPInitS (PL NS:Addr):Sp:=λvs H _ E=>∃ (a dx p:Addr) (ps:Pgs) (x z:V),vs=[.ref a,.ref p,x,z]/\H a=some (.ins PL dx [])/\Pg H p ps/\Good ps/\1<=ps.length/\ps.length<=24/\Th H x/\goodM x=false/\∀ H',But a H H'->E (.ref NS) none H'
section
variable {P : Program} {w : World} {K : PySem.W.Frag} {mg : Str → Option Value} {base : Heap} {C NP NL NW NI NS SC PL WC FA HE : Addr}
theorem ok_eightN {f f1:Addr} {fd fd1:FuncData} (F:Fun K "is_eight_words" "is_eight_words" sEight f fd) (B:Dn K mg "is_word" sWord ["thing"] f1 fd1) (G:FnOk P w K mg base CX0 3 f1 fd1 ["thing"] spWord) (S:Sto K mg C NP NL NW NI) (T:Txt K mg):FnOk P w K mg base CX0 4 f fd ["thing"] spEightN:=by
 refine F.ok scEi (λvs H Q E h=>?_) (λcdv A outer s H vs Q E hr h=>?_)
 ·obtain ⟨x,rfl,_⟩:=h
  rfl
 ·obtain ⟨x,rfl,hx,q⟩:=h
  obtain ⟨t2,m2⟩:=S.cells
  refine ⟨_,(pss_one (ps_ret (pe_and (pe_callB call_islist (by rfl) T.isi PyProof.Rows.boot_isinstance (pa_cons (pv 0) (pa_cons (pe_bltn (by rfl) T.lst PyProof.Rows.boot_list (show RelV (.ty "list") (.type "list") from rfl)) pa_nil))) (pe_and (pe_cmpR op_eq (pe_callB call_len_seq (by rfl) T.len PySem.boot_len (pa_cons (pv 0) pa_nil)) (pe_glob (by rfl) m2 (show RelV (.int 8) (.int 8 t2) from ⟨_,rfl⟩)) (nomark _)) (pe_one (pe_callB (call_allB rfl) (by rfl) T.all PyProof.Rows.boot_all (pa_cons (pe_comp (cl:=[]) (tc:=tYes) (te:=tCall spWord [] E0 (tCons (tVar 0) tNil)) rfl (pi_list (pv 0)) (closureFor_none (by decide +kernel)) (by repeat' (first | exact trivial | refine ⟨.inl ⟨.inr rfl,rfl⟩,?_⟩ | refine ⟨.inl ⟨.inl rfl,rfl⟩,?_⟩ | refine ⟨.inr (.inl ⟨by decide,by decide,by decide⟩),?_⟩ | refine ⟨.inr (.inr ⟨rfl,by decide +kernel,by decide +kernel,rfl,rfl⟩),?_⟩)) trivial (λC s₂ H₂ fp=>.nil) (λC s₂ H₂ fp=>(pe_call G hr (by rfl) B.m B.F.kp B.b .nil pass0 (pa_cons (pv 0) pa_nil))) ndEi (hdot:=dotEi)) pa_nil))))))),?_⟩
  rcases hx with ⟨t,e⟩ | ⟨p,xs,rfl,hp,hl⟩ | ⟨p,xs,rfl,hp,hl,ht,hv⟩
  ·refine ⟨_,rfl,_,rfl,t,_,rfl,iteFS e (q H (Same.refl _))⟩
  ·refine ⟨_,rfl,_,rfl,.lst hp,_,rfl,iteTS (isLst_of hp) ?_⟩
   refine ⟨_,rfl,p,_,rfl,.inl (SqL.of hp),rfl,_,rfl,iteFS (decide_eq_false λz=>hl (by have:=V.int.inj z; omega)) (q H (Same.refl _))⟩
  ·refine ⟨_,rfl,_,rfl,.lst hp,_,rfl,iteTS (isLst_of hp) ?_⟩
   refine ⟨_,rfl,p,_,rfl,.inl (SqL.of hp),rfl,_,rfl,iteTS (by show decide (V.int (xs.length:Int)=V.int 8)=true; rw [hl]; rfl) ?_⟩
   refine ⟨_,rfl,p,rfl,⟨_,SqL.of hp⟩,comp_list (xs:=xs) (λD i ys H'=>H D=none/\Same H H'/\ys=((xs.take i).map λv=>below v 281474976710656).map V.bl/\H' D=some (.lst ys)) ?_ ?_ ?_ ?_⟩
   ·exact λD hD=>⟨hD,same_new hD,rfl,upd_same⟩
   ·rintro D i ys H' _ ⟨hD,ss,rfl,hy⟩
    exact ⟨SqL.of (ss _ _ hp),hy⟩
   ·rintro D i x ys H' hi ⟨hD,ss,rfl,hy⟩
    have hil:i<8:=by rw [<- hl]; exact (List.getElem?_eq_some_iff.mp hi).1
    refine iteT ⟨_,rfl,_,rfl,(ht x (List.mem_of_getElem? hi)).same ss,?_⟩
    refine ⟨hy,?_,hD,Same.set ss hD,?_,upd_same⟩
    ·rw [List.length_map,List.length_map,List.length_take]
     exact Nat.lt_of_lt_of_le (by omega:min i xs.length<1001) (by decide)
    ·rw [List.take_add_one,hi,List.map_append,List.map_append]
     rfl
   ·rintro D ys H' ⟨hD,ss,rfl,hy⟩
    refine ⟨D,_,rfl,hy,?_⟩
    rw [List.take_length] at *
    rw [show ((xs.map λv=>below v 281474976710656).all id)=false by
     obtain ⟨v,hm,hb⟩:=hv
     rw [List.all_eq_false]
     exact ⟨_,List.mem_map.mpr ⟨v,hm,rfl⟩,by rw [hb]; decide⟩]
    exact q H' ss
theorem ok_imageN {f f1:Addr} {fd fd1:FuncData} (F:Fun K "check_image" "check_image" sImage f fd) (B:Dn K mg "is_eight_words" sEight ["thing"] f1 fd1) (G:FnOk P w K mg base CX0 4 f1 fd1 ["thing"] spEightB) (S:Sto K mg C NP NL NW NI) (T:Txt K mg):FnOk P w K mg base (CXr P w) 5 f fd ["pages"] (spImageN NI):=by
 refine F.okR scIm (λvs H Q E h=>?_) (λcdv A outer s H vs Q E hr h=>?_)
 ·obtain ⟨x,rfl,_⟩:=h
  rfl
 ·obtain ⟨x,rfl,bad,q⟩:=h
  obtain ⟨t3,m3⟩:=S.most
  refine ⟨_,(pss_cons (ps_if (PW.pt (pw_or (pt_not (pt_val (pe_callB call_islist (by rfl) T.isi PyProof.Rows.boot_isinstance (pa_cons (pv 0) (pa_cons (pe_bltn (by rfl) T.lst PyProof.Rows.boot_list (show RelV (.ty "list") (.type "list") from rfl)) pa_nil))))) (pw_or1 (pt_not (pt_chain op_le op_le pe_int (pe_callB call_len_seq (by rfl) T.len PySem.boot_len (pa_cons (pv 0) pa_nil)) (pe_glob (by rfl) m3 (show RelV (.int 24) (.int 24 t3) from ⟨_,rfl⟩))))))) (pss_one (ps_raise S.xi S.ni raisesR rfl (pa_cons pe_str pa_nil))) pss_nil) (pss_one (ps_for passesOwnR rfl (pi_list (pv 0)) (pg_name (i:=1) scIm.nd rfl (Or.inl rfl)) (pss_one (ps_if (PW.pt (pw_and (pt_cmpR op_notN (pv 1) pe_non (nomark _)) (pw_and1 (pt_not (pt_val (pe_call G hr (by rfl) B.m B.F.kp B.b .nil pass0 (pa_cons (pv 1) pa_nil))))))) (pss_one (ps_raise S.xi S.ni raisesR rfl (pa_cons pe_str pa_nil))) pss_nil))))),?_⟩
  rcases bad with ⟨th,hl⟩ | ⟨a,xs,rfl,ha,hl,hz⟩ | ⟨a,xs,rfl,ha,l1,l2,hall,v,hv,hb⟩
  ·exact ⟨_,rfl,x,rfl,th,_,rfl,iteTS (by show (!isLst H x)=true; rw [hl]; rfl) ⟨by decide,q H (Same.refl _)⟩⟩
  ·refine ⟨_,rfl,_,rfl,.lst ha,_,rfl,iteFS (by show (!isLst H (.ref a))=false; rw [isLst_of ha]; rfl) ?_⟩
   refine ⟨_,rfl,a,_,rfl,.inl (SqL.of ha),1,_,rfl,rfl,_,rfl,?_⟩
   rcases hl with hl | hl
   ·refine iteFS (by show decide ((1:Int)<=(xs.length:Int))=false; exact decide_eq_false (by omega)) ?_
    exact ⟨_,rfl,iteT ⟨by decide,q H (Same.refl _)⟩⟩
   ·refine iteTS (by show decide ((1:Int)<=(xs.length:Int))=true; exact decide_eq_true (by omega)) ?_
    refine ⟨_,24,rfl,rfl,_,rfl,iteTS (by show (!decide ((xs.length:Int)<=24))=true; rw [decide_eq_false (by omega)]; rfl) ?_⟩
    exact ⟨by decide,q H (Same.refl _)⟩
  ·refine ⟨_,rfl,_,rfl,.lst ha,_,rfl,iteFS (by show (!isLst H (.ref a))=false; rw [isLst_of ha]; rfl) ?_⟩
   refine ⟨_,rfl,a,_,rfl,.inl (SqL.of ha),1,_,rfl,rfl,_,rfl,iteTS (by show decide ((1:Int)<=(xs.length:Int))=true; exact decide_eq_true (by omega)) ?_⟩
   refine ⟨_,24,rfl,rfl,_,rfl,iteFS (by show (!decide ((xs.length:Int)<=24))=false; rw [decide_eq_true (by omega)]; rfl) ?_⟩
   refine ⟨_,rfl,a,rfl,⟨_,SqL.of ha⟩,for_list (K:=K) (a:=a) (xs:=xs) (λi σ H'=>(∃ v,σ=[some (.ref a),v])/\Same H H'/\∀ j v,j<i->xs[j]?=some v->PgOk H v) ⟨⟨_,rfl⟩,Same.refl _,λj v hj=>by omega⟩ (λi σ H' _ ⟨_,ss,_⟩=>SqL.of (ss _ _ ha)) ?_ ?_⟩
   ·rintro i u σ H' hi ⟨⟨v',rfl⟩,ss,hp⟩
    have nxt:∀ {H2:Hp},Same H' H2->PgOk H u->(∃ v,[some (V.ref a),some u]=[some (V.ref a),v])/\Same H H2/\∀ j v,j<i+1->xs[j]?=some v->PgOk H v:=λs2 hu=>⟨⟨_,rfl⟩,ss.trans s2,λj w hj hw=>by
     by_cases z:j<i
     ·exact hp j w z hw
     ·have:j=i:=by omega
      subst this
      rw [hi] at hw
      cases hw
      exact hu⟩
    rcases hall u (List.mem_of_getElem? hi) with hu | ⟨hne,hu⟩
    ·rcases id hu with rfl | ⟨p,ws,rfl,hp1,hp2,hp3⟩
     ·exact ⟨_,rfl,rfl,_,rfl,iteF (nxt (Same.refl _) hu)⟩
     ·exact ⟨_,rfl,rfl,_,rfl,iteT ⟨_,rfl,.inl ⟨p,ws,rfl,ss _ _ hp1,hp2,hp3,λH2 s2=>⟨_,rfl,iteF (nxt s2 hu)⟩⟩⟩⟩
    ·refine ⟨_,rfl,rfl,_,rfl,iteTS (by rw [decide_eq_false hne]; rfl) ?_⟩
     exact ⟨_,rfl,.inr ⟨u,rfl,hu.same ss,λH2 s2=>⟨_,rfl,iteT ⟨by decide,q H2 (ss.trans s2)⟩⟩⟩⟩
   ·rintro σ H' ⟨_,ss,hp⟩
    exfalso
    obtain ⟨j,hj⟩:=List.getElem?_of_mem hv
    have hjl:=(List.getElem?_eq_some_iff.mp hj).1
    rcases hp j v hjl hj with z | ⟨p,ws,rfl,h1,h2,h3⟩
    ·exact hb.1 z
    ·rcases hb.2 with ⟨_,z⟩ | ⟨a',ys,z1,z2,z3⟩ | ⟨a',ys,z1,z2,z3,z4,y,hy,z5⟩
     ·rw [isLst_of h1] at z
      cases z
     ·cases z1
      rw [h1] at z2
      cases z2
      rw [List.length_map] at z3
      exact z3 h2
     ·cases z1
      rw [h1] at z2
      cases z2
      obtain ⟨w',hw',rfl⟩:=List.mem_map.mp hy
      obtain ⟨w0,w1⟩:=h3 w' hw'
      rw [below_of w0 w1] at z5
      cases z5
theorem scSn:FnScope ["self","most"] ["self","most"] (defScope sSInit):=FSc
theorem ok_sinitN {f f1:Addr} {fd fd1:FuncData} (F:Fun K "__init__" "Shelf.__init__" sSInit f fd) (D1:Dn K mg "is_whole" sWhole ["thing"] f1 fd1) (G1:FnOk P w K mg base CX0 1 f1 fd1 ["thing"] spWhole) (SS:Shf K mg SC) (N:ShN K mg NS):FnOk P w K mg base (CXr P w) 2 f fd ["self","most"] (spSInitN SC NS):=by
 obtain ⟨t1,m1⟩:=SS.seats
 refine F.okR scSn (λvs H Q E h=>?_) (λcdv A outer s H vs Q E hr h=>?_)
 ·obtain ⟨m,dx,x,rfl,_⟩:=h
  rfl
 ·obtain ⟨m,dx,x,rfl,hm,th,bad,e⟩:=h
  refine ⟨_,pss_cons (ps_if (PW.pt (pw_or (pt_not (pt_val (pe_call G1 hr (by rfl) D1.m D1.F.kp D1.b .nil pass0 (pa_cons (pv 1) pa_nil)))) (pw_or1 (pt_not (pt_chain op_le op_le pe_int (pv 1) (pe_glob (by rfl) m1 (show RelV (.int 12) (.int 12 t1) from ⟨_,rfl⟩))))))) (pss_one (ps_raise N.xs N.ns raisesR rfl (pa_cons pe_str pa_nil))) pss_nil) pss_never,?_⟩
  refine ⟨_,rfl,x,rfl,th,_,rfl,?_⟩
  cases x with
  | int i =>
   refine iteF ⟨_,rfl,1,i,rfl,rfl,_,rfl,?_⟩
   by_cases h1:1<=i
   ·rw [decide_eq_true h1]
    refine iteT ⟨i,12,rfl,rfl,_,rfl,?_⟩
    have h2:¬ i<=12:=λh2=>by
     have bad:(decide (1<=i) && decide (i<=12))=false:=bad
     rw [decide_eq_true h1,decide_eq_true h2] at bad
     cases bad
    rw [decide_eq_false h2]
    exact iteT ⟨by decide,e⟩
   ·rw [decide_eq_false h1]
    exact iteF ⟨_,rfl,iteT ⟨by decide,e⟩⟩
  | _=>exact iteT ⟨by decide,e⟩
theorem ok_minitN {f f1:Addr} {fd fd1:FuncData} (F:Fun K "__init__" "Memory.__init__" sInit f fd) (B:Dn K mg "check_image" sImage ["pages"] f1 fd1) (G:FnOk P w K mg base (CXr P w) 5 f1 fd1 ["pages"] (spImageN NI)):FnOk P w K mg base (CXr P w) 6 f fd ["self","pages"] (spMInitN C NI):=by
 refine F.okR scIn (λvs H Q E h=>?_) (λcdv A outer s H vs Q E hr h=>?_)
 ·obtain ⟨m,dx,x,rfl,_⟩:=h
  rfl
 ·obtain ⟨m,dx,x,rfl,hm,bad,q⟩:=h
  refine ⟨_,pss_cons (ps_expr (pe_call G hr (by rfl) B.m B.F.kp B.b .nil passR (pa_cons (pv 1) pa_nil))) pss_never,?_⟩
  exact ⟨_,rfl,x,rfl,bad,λH1 s1=>q H1 s1⟩
theorem scWn:FnScope ["self","most"] ["self","most"] (defScope sWInit):=FSc
theorem scPn:FnScope ["self","pages","most","words"] ["self","pages","most","words"] (defScope sPInit):=FSc
theorem ok_winitN {f f1:Addr} {fd fd1:FuncData} (F:Fun K "__init__" "Ways.__init__" sWInit f fd) (MK:Mk K SC f1) (mS:mg "Shelf"=some (.ref SC)) (BI:Binds K fd1 ["self","most"] []) (GI:FnOk P w K mg base (CXr P w) 2 f1 fd1 ["self","most"] (spSInitN SC NS)) (PC:Plc K PL):FnOk P w K mg base (CXr P w) 4 f fd ["self","most"] (spWInitN PL NS):=by
 refine F.okR scWn (λvs H Q E h=>?_) (λcdv A outer s H vs Q E hr h=>?_)
 ·obtain ⟨a,dx,fs,x,rfl,_⟩:=h
  rfl
 ·obtain ⟨a,dx,fs,x,rfl,ha,hl,th,bad,q⟩:=h
  refine ⟨_,pss_cons (ps_fld (pv 0) pe_int rfl) (pss_cons (ps_fld (pv 0) (pe_make MK GI hr (by rfl) mS BI .nil passR (pa_cons (pv 1) pa_nil)) rfl) pss_never),?_⟩
  refine ⟨_,rfl,a,PL,dx,fs,rfl,ha,PC.cl,PC.nb,(by omega),?_⟩
  have th1:Th (upd H a (.ins PL dx (putF "base" (.int 0) fs))) x:=th.but But.upd ha
  have k1:But a H (upd H a (.ins PL dx (putF "base" (.int 0) fs))):=But.upd
  have f1:∀ b,upd H a (.ins PL dx (putF "base" (.int 0) fs)) b=none->H b=none:=λb e=>by
   by_cases z:b=a
   ·rw [z,upd_same] at e; cases e
   ·rw [upd_ne z] at e; exact e
  generalize upd H a (.ins PL dx (putF "base" (.int 0) fs))=H1 at *
  refine ⟨_,rfl,λr dr hr0 hdr ner=>?_⟩
  have s0:Same H1 (upd (upd H1 dr (.own r)) r (.ins SC dr [])):=(same_new hdr).trans (same_new (by rw [upd_ne ner.symm]; exact hr0))
  exact ⟨r,dr,x,rfl,upd_same,th1.same s0,bad,q _ λb o z e=>s0 _ _ (k1 b o z e)⟩
theorem ok_plinitI {f f1:Addr} {fd fd1:FuncData} (F:Fun K "__init__" "Plain.__init__" sPInit f fd) (MK:Mk K C f1) (mM:mg "Memory"=some (.ref C)) (BI:Binds K fd1 ["self","pages"] []) (GI:FnOk P w K mg base (CXr P w) 6 f1 fd1 ["self","pages"] (spMInitN C NI)):FnOk P w K mg base (CXr P w) 8 f fd ["self","pages","most","words"] (spPInitI PL NI):=by
 refine F.okR scPn (λvs H Q E h=>?_) (λcdv A outer s H vs Q E hr h=>?_)
 ·obtain ⟨a,dx,x,y,z,rfl,_⟩:=h
  rfl
 ·obtain ⟨a,dx,x,y,z,rfl,ha,bad,q⟩:=h
  refine ⟨_,pss_cons (ps_fld (pv 0) (pe_make MK GI hr (by rfl) mM BI .nil passR (pa_cons (pv 1) pa_nil)) rfl) pss_never,?_⟩
  refine ⟨_,rfl,λm dm hm0 hdm nem=>?_⟩
  have s0:Same H (upd (upd H dm (.own m)) m (.ins C dm [])):=(same_new hdm).trans (same_new (by rw [upd_ne nem.symm]; exact hm0))
  exact ⟨m,dm,x,rfl,upd_same,bad.same s0,λH1 s1=>q H1 (s0.trans s1)⟩
theorem ok_plinitS {f f1 f2:Addr} {fd fd1 fd2:FuncData} (F:Fun K "__init__" "Plain.__init__" sPInit f fd) (MK:Mk K C f1) (mM:mg "Memory"=some (.ref C)) (BI:Binds K fd1 ["self","pages"] []) (GI:FnOk P w K mg base (CXr P w) 6 f1 fd1 ["self","pages"] (spInit C)) (CM:CMeth K WC "__init__" f2) (mW:mg "Ways"=some (.ref WC)) (BW:Binds K fd2 ["self","most"] []) (GW:FnOk P w K mg base (CXr P w) 4 f2 fd2 ["self","most"] (spWInitN PL NS)) (PC:Plc K PL):FnOk P w K mg base (CXr P w) 8 f fd ["self","pages","most","words"] (spPInitS PL NS):=by
 refine F.okR scPn (λvs H Q E h=>?_) (λcdv A outer s H vs Q E hr h=>?_)
 ·obtain ⟨a,dx,p,ps,x,z,rfl,_⟩:=h
  rfl
 ·obtain ⟨a,dx,p,ps,x,z,rfl,ha,gp,hg,l1,l2,th,bad,q0⟩:=h
  have hr4:Room 4 _:=hr.mono (by decide)
  refine ⟨_,pss_cons (ps_fld (pv 0) (pe_make MK GI hr (by rfl) mM BI .nil passX0 (pa_cons (pv 1) pa_nil)) rfl) (pss_cons (ps_expr (pe_cmeth GW hr4 (by rfl) mW CM BW .nil passR (pa_cons (pv 0) (pa_cons (pv 2) pa_nil)))) pss_never),?_⟩
  refine ⟨_,rfl,λm dm hm0 hdm nem=>?_⟩
  have s0:Same H (upd (upd H dm (.own m)) m (.ins C dm [])):=(same_new hdm).trans (same_new (by rw [upd_ne nem.symm]; exact hm0))
  refine ⟨m,dm,p,ps,rfl,upd_same,gp.same s0,hg,l1,l2,λh H2 qs b2 M2 hc hf=>⟨rfl,?_⟩⟩
  have k2:Same H H2:=λb o e=>b2 b o (ne_of_none e hm0) (s0 _ _ e)
  refine ⟨_,rfl,a,PL,dx,_,rfl,k2 _ _ ha,PC.cl,PC.nm,(by show 0<1000; decide),?_⟩
  have f1l:(putF "memory" (.ref m) ([]:List (Str×V))).length<=1:=length_putF _ _ _
  refine ⟨_,rfl,_,rfl,a,dx,_,x,rfl,upd_same,(by omega),(th.same k2).but But.upd (k2 _ _ ha),bad,λH4 b4=>q0 H4 λb o z e=>b4 b o z ?_⟩
  rw [upd_ne z]
  exact k2 _ _ e
end
end K32
end
section
namespace L2
open PySem PySem.Spec PyProof.Rows
def isS:V->Bool
 | .str _=>true
 | _=>false
def isTup (H:Hp):V->Bool
 | .ref a=>match H a with | some (.tup _)=>true | _=>false
 | _=>false
section
variable {K : PySem.W.Frag}
theorem kit_str_non:PySem.W.kitOne K (.type "NoneType") (.type "str")=some false:=by kernel_rfl
theorem kit_str_bl:PySem.W.kitOne K (.type "bool") (.type "str")=some false:=by kernel_rfl
theorem kit_str_int:PySem.W.kitOne K (.type "int") (.type "str")=some false:=by kernel_rfl
theorem kit_str_str:PySem.W.kitOne K (.type "str") (.type "str")=some true:=by kernel_rfl
theorem kit_str_lst:PySem.W.kitOne K (.type "list") (.type "str")=some false:=by kernel_rfl
theorem kit_str_tup:PySem.W.kitOne K (.type "tuple") (.type "str")=some false:=by kernel_rfl
theorem kit_str_dic:PySem.W.kitOne K (.type "dict") (.type "str")=some false:=by kernel_rfl
theorem kit_tup_non:PySem.W.kitOne K (.type "NoneType") (.type "tuple")=some false:=by kernel_rfl
theorem kit_tup_bl:PySem.W.kitOne K (.type "bool") (.type "tuple")=some false:=by kernel_rfl
theorem kit_tup_str:PySem.W.kitOne K (.type "str") (.type "tuple")=some false:=by kernel_rfl
theorem kit_tup_lst:PySem.W.kitOne K (.type "list") (.type "tuple")=some false:=by kernel_rfl
theorem kit_tup_dic:PySem.W.kitOne K (.type "dict") (.type "tuple")=some false:=by kernel_rfl
end
section
variable {X : Cx}
theorem call_isstr:CallR X (.builtin "isinstance") (λxs H Q=>∃ x,xs=[x,.ty "str"]/\Th H x/\Q (.bl (isS x)) H):=by
 intro pins s σ H xs us Q I r h
 obtain ⟨x,rfl,th,q⟩:=h
 obtain ⟨u,v,rfl,rx,rt⟩:=r.two
 obtain rfl:v=PySem.Value.type "str":=rt
 cases th with
 | non=>exact isinst_ok I rx .non kit_str_non λtk=>⟨.bl _,H,I.tok tk,rfl,q⟩
 | bl b=>exact isinst_ok I rx (.bl b) kit_str_bl λtk=>⟨.bl _,H,I.tok tk,rfl,q⟩
 | int i=>exact isinst_ok I rx (.int i) kit_str_int λtk=>⟨.bl _,H,I.tok tk,rfl,q⟩
 | str z=>exact isinst_ok I rx (.str z) kit_str_str λtk=>⟨.bl _,H,I.tok tk,rfl,q⟩
 | lst e=>exact isinst_ok I rx (.lst e) kit_str_lst λtk=>⟨.bl _,H,I.tok tk,rfl,q⟩
 | frz e=>exact isinst_ok I rx (.frz e) kit_str_lst λtk=>⟨.bl _,H,I.tok tk,rfl,q⟩
 | tup e=>exact isinst_ok I rx (.tup e) kit_str_tup λtk=>⟨.bl _,H,I.tok tk,rfl,q⟩
 | dic e=>exact isinst_ok I rx (.dK e) kit_str_dic λtk=>⟨.bl _,H,I.tok tk,rfl,q⟩
theorem call_istupT:CallR X (.builtin "isinstance") (λxs H Q=>∃ x,xs=[x,.ty "tuple"]/\Th H x/\Q (.bl (isTup H x)) H):=by
 intro pins s σ H xs us Q I r h
 obtain ⟨x,rfl,th,q⟩:=h
 obtain ⟨u,v,rfl,rx,rt⟩:=r.two
 obtain rfl:v=PySem.Value.type "tuple":=rt
 cases th with
 | non=>exact isinst_ok I rx .non kit_tup_non λtk=>⟨.bl _,H,I.tok tk,rfl,q⟩
 | bl b=>exact isinst_ok I rx (.bl b) kit_tup_bl λtk=>⟨.bl _,H,I.tok tk,rfl,q⟩
 | int i=>exact isinst_ok I rx (.int i) kit_tup_int λtk=>⟨.bl _,H,I.tok tk,rfl,q⟩
 | str z=>exact isinst_ok I rx (.str z) kit_tup_str λtk=>⟨.bl _,H,I.tok tk,rfl,q⟩
 | lst e=>exact isinst_ok I rx (.lst e) kit_tup_lst λtk=>⟨.bl _,H,I.tok tk,rfl,by simp only [isTup,e] at q; exact q⟩
 | frz e=>exact isinst_ok I rx (.frz e) kit_tup_lst λtk=>⟨.bl _,H,I.tok tk,rfl,by simp only [isTup,e] at q; exact q⟩
 | tup e=>exact isinst_ok I rx (.tup e) kit_tup_tup λtk=>⟨.bl _,H,I.tok tk,rfl,by simp only [isTup,e] at q; exact q⟩
 | dic e=>exact isinst_ok I rx (.dK e) kit_tup_dic λtk=>⟨.bl _,H,I.tok tk,rfl,by simp only [isTup,e] at q; exact q⟩
end
end L2
end
section
namespace L2
open PySem PySem.Spec PyProof.Rows
section
variable {X : Cx} {e : Expr} {te : TEX} {pos : Pos}
end
end L2
end
section
namespace L2
open PySem PySem.Spec PyProof.Rows
section
variable {prog : Program} {w : World} {A : Around} {E : Value → Shared → Prop} {s : Shared}
theorem nextT_item {j t:Addr} {k:Nat} {us:Array Value} {u:Value} {Q:Value->Shared->Prop} (st:s.heap.IsTupleIter j t k) (tt:s.heap.IsTuple t us) (hu:us[k]?=some u)
  (q:∀ g,g.IsTupleIter j t (k+1)->Heap.SameBut j s.heap g->Q u { s with heap:=g }):wpAny (model prog w) A (Builtin.SmallTypes.nextOf (.ref j)) Q E s:=by
 obtain ⟨ob,e1,e2,e3⟩:=id st
 obtain ⟨ot,f1,_,m,f2⟩:=tt
 unfold Builtin.SmallTypes.nextOf
 refine wpAny_bind (wpAny_callSpecial?_slot (name:=Str.ofString "__next__") st.typeIs F.slot_tuple_iterator_next (wpAny_call_entry F.slot_tuple_iterator_next st.typeIs F.entry_tuple_iterator_next ?_ (F.args_tuple_iterator_next_1 _)))
 show wpAny _ _ (field (.ref j) 0 >>= _) _ _ s
 refine wpAny_bind (wpAny_field e1 e3 (x:=.ref t) rfl ?_)
 show wpAny _ _ (if (Value.ref t == Value.none)=true then _ else _) _ _ s
 rw [if_neg (show ¬ ((Value.ref t == Value.none)=true) from Bool.false_ne_true)]; show wpAny _ _ (field (.ref j) 1 >>= _) _ _ s
 refine wpAny_bind (wpAny_field e1 e3 (x:=.int k 0) rfl ?_)
 show wpAny _ _ (seqItems? (.ref t) >>= _) _ _ s
 refine wpAny_bind (wpAny_seqItems f1 f2 ?_)
 simp only [Int.toNat_natCast,hu]
 refine wpAny_bind (wpAny_setField e1 e3 (by simp) (wpAny_pure ⟨u,rfl,wpAny_pure (q _ ?_ (Heap.SameBut.update ..))⟩))
 exact ⟨_,Heap.get?_update_self _ e1 (Obj.isFreed_of_fields (Obj.data_mapFields e3 _)),(Obj.cls_mapFields ..).trans e2,by rw [Obj.data_mapFields e3]; simp [rawInt]⟩
theorem nextT_end {j t:Addr} {k:Nat} {us:Array Value} {Q:Value->Shared->Prop} (calm:A.handled=none) (st:s.heap.IsTupleIter j t k) (tt:s.heap.IsTuple t us) (hu:us[k]?=none)
  (q:∀ g e,Heap.ExtBut j s.heap g->(∃ o,g.get? e=some o/\o.cls=.type "StopIteration")->E (.ref e) { s with heap:=g }):wpAny (model prog w) A (Builtin.SmallTypes.nextOf (.ref j)) Q E s:=by
 obtain ⟨ob,e1,e2,e3⟩:=id st
 obtain ⟨ot,f1,_,m,f2⟩:=tt
 unfold Builtin.SmallTypes.nextOf
 refine wpAny_bind (wpAny_callSpecial?_slot (name:=Str.ofString "__next__") st.typeIs F.slot_tuple_iterator_next (wpAny_call_entry F.slot_tuple_iterator_next st.typeIs F.entry_tuple_iterator_next ?_ (F.args_tuple_iterator_next_1 _)))
 show wpAny _ _ (field (.ref j) 0 >>= _) _ _ s
 refine wpAny_bind (wpAny_field e1 e3 (x:=.ref t) rfl ?_)
 show wpAny _ _ (if (Value.ref t == Value.none)=true then _ else _) _ _ s
 rw [if_neg (show ¬ ((Value.ref t == Value.none)=true) from Bool.false_ne_true)]; show wpAny _ _ (field (.ref j) 1 >>= _) _ _ s
 refine wpAny_bind (wpAny_field e1 e3 (x:=.int k 0) rfl ?_)
 show wpAny _ _ (seqItems? (.ref t) >>= _) _ _ s
 refine wpAny_bind (wpAny_seqItems f1 f2 ?_)
 simp only [Int.toNat_natCast,hu]
 refine wpAny_bind (wpAny_rule (wpAny_bind (wpAny_setField e1 e3 (by simp) ?_)))
 show wpAny _ _ (newExc (.type "StopIteration") [] >>= _) _ _ _; refine wpAny_bind ?_
 simp only [newExc,newTuple]; refine wpAny_bind (wpAny_newObj_type ?_ (by size_fits))
 refine wpAny_bind (m:=firstArgMember _ _) (wpAny_of_eq (a:=Value.none) (by first | rfl | (simp only [firstArgMember]; rfl)) ?_); refine wpAny_newObj_type ?_ (by size_fits)
 simp only [raiseNew]; refine wpAny_bind (wpAny_handled ?_)
 first | rw [show A.in1.handled=none from calm] | rw [calm]
 refine wpAny_bind (wpAny_pure (wpAny_throw ?_)); exact q _ _ (((Heap.SameBut.update ..).extBut.push _).push _) ⟨_,Heap.get?_push_size _ rfl,rfl⟩
theorem zipT_item {z TI TO i1 i2 l1 l2:Addr} {k:Nat} {us vs:Array Value} {u v a b:Value} {Q:Option Value->Shared->Prop} (D:ZipApart z TI TO i1 i2 l1 l2) (hz:IsZip s.heap z TI TO .none) (hTI:IsPair s.heap TI (.ref i1) (.ref i2)) (hTO:IsPair s.heap TO a b)
  (h1:s.heap.IsTupleIter i1 l1 k) (h2:s.heap.IsTupleIter i2 l2 k) (t1:s.heap.IsTuple l1 us) (t2:s.heap.IsTuple l2 vs) (hu:us[k]?=some u) (hv:vs[k]?=some v)
  (q:∀ g,IsZip g z TI TO (rawInt s.heap.objs.size)->IsPair g TO u v->g.IsTupleIter i1 l1 (k+1)->g.IsTupleIter i2 l2 (k+1)->IsPair g s.heap.objs.size u v->g.objs.size=s.heap.objs.size+1 ->
   (∀ c o,c≠z->c≠TO->c≠i1->c≠i2->s.heap.get? c=some o->g.get? c=some o)->Q (some (.ref s.heap.objs.size)) { s with heap:=g }):wpAny (model prog w) A (pyNext (.ref z)) Q E s:=by
 have ty:s.TypeIs (.ref z) "zip":=⟨_,hz,rfl⟩
 unfold pyNext
 refine wpAny_bind (wpAny_attempt (wpAny_callSpecial?_slot (name:=Str.ofString "__next__") ty F.slot_zip_next (wpAny_call_entry F.slot_zip_next ty F.entry_zip_next (Q:=λx s'=>wpAny _ _ _ _ _ s') ?_ (F.args_zip_next_1 _))))
 show wpAny _ _ (field (.ref z) 2 >>= _) _ _ _; refine wpAny_bind (wpAny_field hz rfl (x:=.bool false) rfl ?_)
 show wpAny _ _ (field (.ref z) 3 >>= _) _ _ _; refine wpAny_bind (wpAny_field hz rfl (x:=.ref TI) rfl ?_)
 refine wpAny_bind (wpAny_seqItems hTI rfl ?_); show wpAny _ _ (Builtin.SmallTypes.ownedTupleIsFree (.ref z) >>= _) _ _ _; refine wpAny_bind ?_
 unfold Builtin.SmallTypes.ownedTupleIsFree; refine wpAny_bind (wpAny_field hz rfl (x:=.none) rfl (wpAny_pure ?_))
 simp only [if_true]; refine wpAny_bind (wpAny_rule ?_); refine wpAny_bind (wpAny_field hz rfl (x:=.ref TO) rfl ?_)
 refine wpAny_bind (wpAny_setField_rec hz (by simp) λg1 z1 s1=>?_); replace z1:IsZip g1 z TI TO .ellipsis:=z1
 refine wpAny_bind ?_; simp only [List.zipIdx_cons,List.zipIdx_nil,List.forIn_cons,List.forIn_nil]
 refine wpAny_bind (wpAny_bind (wpAny_onRaise ?_)); show wpAny _ _ (Builtin.SmallTypes.nextOf (.ref i1) >>= _) _ _ _
 refine wpAny_bind (nextT_item (h1.extBut s1.extBut D.i1z) (t1.extBut s1.extBut D.l1z) hu λg2 p2 s2=>wpAny_pure ?_)
 have o2:IsPair g2 TO a b:=s2.extBut _ _ D.TOi1 (s1.extBut _ _ D.TOz hTO)
 refine wpAny_bind (wpAny_seqItems o2 rfl ?_); refine wpAny_bind (wpAny_updateSeq_pair o2 λg3 o3 s3=>?_); replace o3:IsPair g3 TO u b:=o3
 refine wpAny_bind (wpAny_letGo (wpAny_pure ?_)); refine wpAny_bind (wpAny_bind (wpAny_onRaise ?_)); show wpAny _ _ (Builtin.SmallTypes.nextOf (.ref i2) >>= _) _ _ _
 refine wpAny_bind (nextT_item (((h2.extBut s1.extBut D.i2z).extBut s2.extBut D.i12.symm).extBut s3.extBut D.TOi2.symm) (((t2.extBut s1.extBut D.l2z).extBut s2.extBut D.l2i1).extBut s3.extBut D.l2TO) hv λg4 p4 s4=>wpAny_pure ?_)
 have o4:IsPair g4 TO u b:=s4.extBut _ _ D.TOi2 o3
 refine wpAny_bind (wpAny_seqItems o4 rfl ?_); refine wpAny_bind (wpAny_updateSeq_pair o4 λg5 o5 s5=>?_); replace o5:IsPair g5 TO u v:=o5
 refine wpAny_bind (wpAny_letGo (wpAny_pure (wpAny_pure ?_))); refine wpAny_bind (wpAny_seqItems o5 rfl ?_); refine wpAny_bind (wpAny_newTuple ?_)
 have sz:g5.objs.size=s.heap.objs.size:=by rw [s5.1,s4.1,s3.1,s2.1,s1.1]
 have z5:IsZip g5 z TI TO .ellipsis:=s5.extBut _ _ D.TOz.symm (s4.extBut _ _ D.i2z.symm (s3.extBut _ _ D.TOz.symm (s2.extBut _ _ D.i1z.symm z1)))
 have k5:∀ c o,c≠z->c≠TO->c≠i1->c≠i2->s.heap.get? c=some o->g5.get? c=some o:=λc o c1 c2 c3 c4 e=>s5.extBut _ _ c2 (s4.extBut _ _ c4 (s3.extBut _ _ c2 (s2.extBut _ _ c3 (s1.extBut _ _ c1 e))))
 have p1:g5.IsTupleIter i1 l1 (k+1):=((p2.extBut s3.extBut D.TOi1.symm).extBut s4.extBut D.i12).extBut s5.extBut D.TOi1.symm
 have p5:g5.IsTupleIter i2 l2 (k+1):=p4.extBut s5.extBut D.TOi2.symm
 have zlt:z<g5.objs.size:=Heap.lt_size z5
 show wpAny _ _ (Builtin.SmallTypes.ownedTupleHandOut (.ref z) (.ref g5.objs.size) >>= _) _ _ _; refine wpAny_bind ?_
 unfold Builtin.SmallTypes.ownedTupleHandOut
 have z6:IsZip (g5.push { cls:=.type "tuple",data:=.seq #[u,v] }) z TI TO .ellipsis:=Heap.get?_push_of_some _ z5
 refine wpAny_bind (wpAny_setField_rec z6 (by simp) λg7 z7 s7=>?_); replace z7:IsZip g7 z TI TO (rawInt g5.objs.size):=z7
 refine wpAny_setField_rec z7 (by simp) λg8 z8 s8=>?_; replace z8:IsZip g8 z TI TO (rawInt g5.objs.size):=z8
 have up:∀ c o,c≠z->g5.get? c=some o->g8.get? c=some o:=λc o c1 e=>s8.extBut _ _ c1 (s7.extBut _ _ c1 (Heap.get?_push_of_some _ e))
 have tp:IsPair g8 g5.objs.size u v:=s8.extBut _ _ (Nat.ne_of_gt zlt) (s7.extBut _ _ (Nat.ne_of_gt zlt) (Heap.get?_push_size _ rfl))
 have n8:g8.objs.size=g5.objs.size+1:=by rw [s8.1,s7.1,Heap.size_push]
 rw [sz] at z8 tp n8
 have fin:=q g8 z8 (up _ _ D.TOz o5) (p1.at λo e=>up _ o D.i1z e) (p5.at λo e=>up _ o D.i2z e) tp n8 λc o c1 c2 c3 c4 e=>up c o c1 (k5 c o c1 c2 c3 c4 e)
 rw [<- sz] at fin
 exact wpAny_pure ⟨_,rfl,wpAny_pure fin⟩
theorem zipT_end {z TI TO i1 i2 l1 l2:Addr} {k:Nat} {us vs:Array Value} {a b:Value} {Q:Option Value->Shared->Prop} (calm:A.handled=none) (D:ZipApart z TI TO i1 i2 l1 l2) (hz:IsZip s.heap z TI TO .none) (hTI:IsPair s.heap TI (.ref i1) (.ref i2)) (hTO:IsPair s.heap TO a b)
  (h1:s.heap.IsTupleIter i1 l1 k) (h2:s.heap.IsTupleIter i2 l2 k) (t1:s.heap.IsTuple l1 us) (t2:s.heap.IsTuple l2 vs) (hend:us[k]?=none\/vs[k]?=none)
  (q:∀ g,(∀ c o,c≠z->c≠TO->c≠i1->c≠i2->s.heap.get? c=some o->g.get? c=some o)->Q none { s with heap:=g }):wpAny (model prog w) A (pyNext (.ref z)) Q E s:=by
 have ty:s.TypeIs (.ref z) "zip":=⟨_,hz,rfl⟩
 unfold pyNext
 refine wpAny_bind (wpAny_attempt (wpAny_callSpecial?_slot (name:=Str.ofString "__next__") ty F.slot_zip_next (wpAny_call_entry F.slot_zip_next ty F.entry_zip_next ?_ (F.args_zip_next_1 _))))
 show wpAny _ _ (field (.ref z) 2 >>= _) _ _ _; refine wpAny_bind (wpAny_field hz rfl (x:=.bool false) rfl ?_)
 show wpAny _ _ (field (.ref z) 3 >>= _) _ _ _; refine wpAny_bind (wpAny_field hz rfl (x:=.ref TI) rfl ?_)
 refine wpAny_bind (wpAny_seqItems hTI rfl ?_); show wpAny _ _ (Builtin.SmallTypes.ownedTupleIsFree (.ref z) >>= _) _ _ _; refine wpAny_bind ?_
 unfold Builtin.SmallTypes.ownedTupleIsFree; refine wpAny_bind (wpAny_field hz rfl (x:=.none) rfl (wpAny_pure ?_))
 simp only [if_true]; refine wpAny_bind (wpAny_rule ?_); refine wpAny_bind (wpAny_field hz rfl (x:=.ref TO) rfl ?_)
 refine wpAny_bind (wpAny_setField_rec hz (by simp) λg1 z1 s1=>?_); replace z1:IsZip g1 z TI TO .ellipsis:=z1
 refine wpAny_bind ?_; simp only [List.zipIdx_cons,List.zipIdx_nil,List.forIn_cons,List.forIn_nil]
 refine wpAny_bind (wpAny_bind (wpAny_onRaise ?_)); show wpAny _ _ (Builtin.SmallTypes.nextOf (.ref i1) >>= _) _ _ _
 cases hu:us[k]? with
 | none =>
  refine wpAny_bind (nextT_end calm (h1.extBut s1.extBut D.i1z) (t1.extBut s1.extBut D.l1z) hu λg2 e s2 he=>?_)
  obtain ⟨oe,e1,e2⟩:=he
  have z2:IsZip g2 z TI TO .ellipsis:=s2 _ _ D.i1z.symm z1
  have ne:e≠z:=λx=>by subst x; rw [z2] at e1; cases e1; simp at e2
  refine wpAny_setField_rec z2 (by simp) λg3 _ s3=>?_
  refine wpAny_bind (wpAny_isInstance (T:="StopIteration") (b:=true) ⟨oe,s3.extBut _ _ ne e1,e2⟩ isSubtype_stop ?_)
  exact wpAny_pure (q _ λc o c1 _ c3 _ x=>s3.extBut _ _ c1 (s2 _ _ c3 (s1.extBut _ _ c1 x)))
 | some u =>
  have hv:vs[k]?=none:=by rcases hend with h | h; rw [hu] at h; cases h; exact h
  refine wpAny_bind (nextT_item (h1.extBut s1.extBut D.i1z) (t1.extBut s1.extBut D.l1z) hu λg2 p2 s2=>wpAny_pure ?_)
  have o2:IsPair g2 TO a b:=s2.extBut _ _ D.TOi1 (s1.extBut _ _ D.TOz hTO)
  refine wpAny_bind (wpAny_seqItems o2 rfl ?_); refine wpAny_bind (wpAny_updateSeq_pair o2 λg3 o3 s3=>?_)
  refine wpAny_bind (wpAny_letGo (wpAny_pure ?_)); refine wpAny_bind (wpAny_bind (wpAny_onRaise ?_)); show wpAny _ _ (Builtin.SmallTypes.nextOf (.ref i2) >>= _) _ _ _
  refine wpAny_bind (nextT_end calm (((h2.extBut s1.extBut D.i2z).extBut s2.extBut D.i12.symm).extBut s3.extBut D.TOi2.symm) (((t2.extBut s1.extBut D.l2z).extBut s2.extBut D.l2i1).extBut s3.extBut D.l2TO) hv λg4 e s4 he=>?_)
  obtain ⟨oe,e1,e2⟩:=he
  have z4:IsZip g4 z TI TO .ellipsis:=s4 _ _ D.i2z.symm (s3.extBut _ _ D.TOz.symm (s2.extBut _ _ D.i1z.symm z1))
  have ne:e≠z:=λx=>by subst x; rw [z4] at e1; cases e1; simp at e2
  refine wpAny_setField_rec z4 (by simp) λg5 _ s5=>?_
  refine wpAny_bind (wpAny_isInstance (T:="StopIteration") (b:=true) ⟨oe,s5.extBut _ _ ne e1,e2⟩ isSubtype_stop ?_)
  exact wpAny_pure (q _ λc o c1 c2 c3 c4 x=>s5.extBut _ _ c1 (s4 _ _ c4 (s3.extBut _ _ c2 (s2.extBut _ _ c3 (s1.extBut _ _ c1 x)))))
end
end L2
end
section
namespace L2
open PySem PySem.Spec PyProof.Rows
section
variable {prog : Program} {w : World} {A : Around} {E : Value → Shared → Prop} {s : Shared}
def zT1 (h:Heap) (a:Addr):Heap:=h.push { cls:=.type "tuple_iterator",data:=.fields #[.ref a,.int 0 0] }
def zT2 (h:Heap) (a b:Addr):Heap:=(zT1 h a).push { cls:=.type "tuple_iterator",data:=.fields #[.ref b,.int 0 0] }
def zT3 (h:Heap) (a b:Addr):Heap:=(zT2 h a b).push { cls:=.type "tuple",data:=.seq #[.ref h.objs.size,.ref (zT1 h a).objs.size] }
def zT4 (h:Heap) (a b:Addr):Heap:=(zT3 h a b).push { cls:=.type "tuple",data:=.seq #[.none,.none] }
def zT5 (h:Heap) (a b:Addr):Heap:=(zT4 h a b).push { cls:=.type "zip",data:=.fields #[.none,.bool false,.bool false,.ref (zT2 h a b).objs.size,.ref (zT3 h a b).objs.size] }
theorem newZipT (a b:Addr) (us vs:Array Value):Meets (Builtin.«zip.__new__» ⟨[.type "zip",.ref a,.ref b],[]⟩)
  (λ_ R s=>s.heap.IsTuple a us/\s.heap.IsTuple b vs/\R (.ok (.ret (.ref (zT4 s.heap a b).objs.size))) { s with heap:=zT5 s.heap a b }) :=
 .of_wp λprog w A R s h=>by
  obtain ⟨hp,g,d,tk,os⟩:=s; obtain ⟨ha,hb,h⟩:=h
  have hsub:=sub_zip
  have hA:Heap.IsTuple (Shared.heap ⟨hp,g,d,tk,os⟩) a us:=ha
  have hB:Heap.IsTuple (Shared.heap ⟨hp.push { cls:=.type "tuple_iterator",data:=.fields #[.ref a,.int 0 0] },g,d,tk,os⟩) b vs:=Heap.IsTuple.push hb _
  wp_walk using wpAny_pyIter_tuple hA,wpAny_pyIter_tuple hB
  exact ⟨_,rfl,h⟩
theorem call_zipT {a b:Addr} {us vs:Array Value} {Q:Value->Shared->Prop} (ha:s.heap.IsTuple a us) (hb:s.heap.IsTuple b vs)
  (h:∀ g,IsZip g (s.heap.objs.size+4) (s.heap.objs.size+2) (s.heap.objs.size+3) .none->IsPair g (s.heap.objs.size+2) (.ref s.heap.objs.size) (.ref (s.heap.objs.size+1))->IsPair g (s.heap.objs.size+3) .none .none ->
   g.IsTupleIter s.heap.objs.size a 0->g.IsTupleIter (s.heap.objs.size+1) b 0->(∀ c o,s.heap.get? c=some o->g.get? c=some o)->Q (.ref (s.heap.objs.size+4)) { s with heap:=g }):wpAny (model prog w) A (call (.type "zip") [.ref a,.ref b]) Q E s:=by
 refine callType_new F.called_zip (by decide) (F.typeCall_zip_2 _ _) (F.newCall_zip_2 _ _) (λobj=>F.args_object_init_3 obj _ _) F.entry_zip_new (newZipT a b us vs) ⟨ha,hb,?_⟩
 have z1:(zT1 s.heap a).objs.size=s.heap.objs.size+1:=Heap.size_push ..
 have z2:(zT2 s.heap a b).objs.size=s.heap.objs.size+2:=by unfold zT2; rw [Heap.size_push,z1]
 have z3:(zT3 s.heap a b).objs.size=s.heap.objs.size+3:=by unfold zT3; rw [Heap.size_push,z2]
 have z4:(zT4 s.heap a b).objs.size=s.heap.objs.size+4:=by unfold zT4; rw [Heap.size_push,z3]
 have k45:∀ c o,(zT4 s.heap a b).get? c=some o->(zT5 s.heap a b).get? c=some o:=λc o e=>Heap.get?_push_of_some _ e
 have k34:∀ c o,(zT3 s.heap a b).get? c=some o->(zT5 s.heap a b).get? c=some o:=λc o e=>k45 c o (Heap.get?_push_of_some _ e)
 have k23:∀ c o,(zT2 s.heap a b).get? c=some o->(zT5 s.heap a b).get? c=some o:=λc o e=>k34 c o (Heap.get?_push_of_some _ e)
 have k12:∀ c o,(zT1 s.heap a).get? c=some o->(zT5 s.heap a b).get? c=some o:=λc o e=>k23 c o (Heap.get?_push_of_some _ e)
 have g5:(zT5 s.heap a b).get? (zT4 s.heap a b).objs.size=some { cls:=.type "zip",data:=.fields #[.none,.bool false,.bool false,.ref (zT2 s.heap a b).objs.size,.ref (zT3 s.heap a b).objs.size] }:=Heap.get?_push_size _ rfl
 have g4:(zT5 s.heap a b).get? (zT3 s.heap a b).objs.size=some { cls:=.type "tuple",data:=.seq #[.none,.none] }:=k45 _ _ (Heap.get?_push_size _ rfl)
 have g3:(zT5 s.heap a b).get? (zT2 s.heap a b).objs.size=some { cls:=.type "tuple",data:=.seq #[.ref s.heap.objs.size,.ref (zT1 s.heap a).objs.size] }:=k34 _ _ (Heap.get?_push_size _ rfl)
 have g2:(zT5 s.heap a b).get? (zT1 s.heap a).objs.size=some { cls:=.type "tuple_iterator",data:=.fields #[.ref b,.int 0 0] }:=k23 _ _ (Heap.get?_push_size _ rfl)
 have g1:(zT5 s.heap a b).get? s.heap.objs.size=some { cls:=.type "tuple_iterator",data:=.fields #[.ref a,.int 0 0] }:=k12 _ _ (Heap.get?_push_size _ rfl)
 show _/\_
 rw [z2,z3,z4] at g5; rw [z1,z2] at g3; rw [z3] at g4; rw [z1] at g2; rw [z4]
 exact ⟨⟨_,g5,rfl⟩,h _ g5 g3 g4 ⟨_,g1,rfl,rfl⟩ ⟨_,g2,rfl,rfl⟩ λc o x=>k12 c o (Heap.get?_push_of_some _ x)⟩
end
theorem SqT.apart {X:Cx} {pins:List (Addr×Obj)} {σ:St} {H:Hp} {s:Shared} {a b:Addr} {xs:List V} (I:Inv X pins σ H s) (h:SqT X.K H a xs) (f:FpOk X pins H b):a≠b:=by
 rintro rfl
 rcases h with (h | ⟨o,h⟩) | ⟨o,its,n,hk,_⟩
 ·rw [f.1] at h; cases h
 ·rw [f.1] at h; cases h
 ·have hb:X.base.get? a=some o:=I.ok.mod.kin a o hk
  rcases f.2.2.2.1 with z | z
  ·exact I.ok.noex a o hb z
  ·exact absurd (Nat.lt_of_lt_of_le (Heap.lt_size (I.ok.bs a o hb).1) z) (Nat.lt_irrefl _)
def Itz (K:PySem.W.Frag) (a b:Addr):It :=
 ⟨λi H=>∃ xs ys x y,SqT K H a xs/\SqT K H b ys/\xs[i]?=some x/\ys[i]?=some y,
   λi H v H'=>∃ t x y,H t=none/\v=.ref t/\(∀ xs,SqT K H a xs->xs[i]?=some x)/\(∀ ys,SqT K H b ys->ys[i]?=some y)/\H'=upd H t (.tup [x,y]),
   λi H=>∃ xs ys,SqT K H a xs/\SqT K H b ys/\(xs.length<=i\/ys.length<=i)⟩
structure ZA (z TI TO i1 i2:Addr):Prop where
 a1:TI≠z
 a2:TO≠z
 a3:i1≠z
 a4:i2≠z
 a5:TI≠TO
 a6:TI≠i1
 a7:TI≠i2
 a8:TO≠i1
 a9:TO≠i2
 a0:i1≠i2
theorem za_new (n:Nat):ZA (n+4) (n+2) (n+3) n (n+1) :=
 ⟨by show @Ne Nat _ _; omega,by show @Ne Nat _ _; omega,by show @Ne Nat _ _; omega,by show @Ne Nat _ _; omega,by show @Ne Nat _ _; omega,by show @Ne Nat _ _; omega,by show @Ne Nat _ _; omega,by show @Ne Nat _ _; omega,by show @Ne Nat _ _; omega,by show @Ne Nat _ _; omega⟩
theorem turn_zip {P:Program} {w:World} {K:PySem.W.Frag} {elts:List Expr} {x1:Nat} {pos:Pos} (a b z TI TO i1 i2:Addr) (Z:ZA z TI TO i1 i2) :
  Turn P w K (.Tuple elts x1 pos) (Itz K a b) [z,TI,TO,i1,i2] z (λi h=>IsZip h z TI TO .none/\IsPair h TI (.ref i1) (.ref i2)/\(∃ c d,IsPair h TO c d)/\h.IsTupleIter i1 a i/\h.IsTupleIter i2 b i) where
 mem:=by simp
 obj:=λi h st c hc=>by
  obtain ⟨h1,h2,⟨c1,d1,h3⟩,⟨o4,e4,_,d4⟩,o5,e5,_,d5⟩:=st
  simp only [List.mem_cons,List.not_mem_nil,or_false] at hc
  rcases hc with rfl | rfl | rfl | rfl | rfl
  ·exact ⟨_,h1,λv z=>by cases z⟩
  ·exact ⟨_,h2,λv z=>by cases z⟩
  ·exact ⟨_,h3,λv z=>by cases z⟩
  ·exact ⟨o4,e4,λv z=>by rw [d4] at z; cases z⟩
  ·exact ⟨o5,e5,λv z=>by rw [d5] at z; cases z⟩
 keep:=λi h h' st k=>by
  obtain ⟨h1,h2,⟨c1,d1,h3⟩,h4,h5⟩:=st
  exact ⟨k _ (by simp) _ h1,k _ (by simp) _ h2,⟨c1,d1,k _ (by simp) _ h3⟩,h4.at λo e=>k _ (by simp) o e,h5.at λo e=>k _ (by simp) o e⟩
 item:=by
  intro X hP hw hK hc i pins s σ H E I hf st hg
  subst hP hw hK
  obtain ⟨xs,ys,x,y,qa,qb,hx,hy⟩:=hg
  obtain ⟨us,ra,pa,_⟩:=I.tuple qa
  obtain ⟨vs,rb,pb,_⟩:=I.tuple qb
  obtain ⟨u,hu,ru⟩:=ra.get hx
  obtain ⟨v,hv,rv⟩:=rb.get hy
  obtain ⟨h1,h2,⟨c1,d1,h3⟩,h4,h5⟩:=st
  have D:ZipApart z TI TO i1 i2 a b:=⟨Z.a1,Z.a2,Z.a3,Z.a4,Z.a5,Z.a6,Z.a7,Z.a8,Z.a9,Z.a0,qa.apart I (hf z (by simp)),qa.apart I (hf TO (by simp)),qa.apart I (hf i1 (by simp)),qa.apart I (hf i2 (by simp)),qb.apart I (hf z (by simp)),qb.apart I (hf TO (by simp)),qb.apart I (hf i1 (by simp)),qb.apart I (hf i2 (by simp))⟩
  have lts:∀ c ∈ [z,TI,TO,i1,i2],c<s.heap.objs.size:=λc hc=>by
   simp only [List.mem_cons,List.not_mem_nil,or_false] at hc
   rcases hc with rfl | rfl | rfl | rfl | rfl
   ·exact Heap.lt_size h1
   ·exact Heap.lt_size h2
   ·exact Heap.lt_size h3
   ·obtain ⟨o,e,_⟩:=h4; exact Heap.lt_size e
   ·obtain ⟨o,e,_⟩:=h5; exact Heap.lt_size e
  refine zipT_item D h1 h2 h3 h4 h5 (show s.heap.IsTuple a us.toArray from pa) (show s.heap.IsTuple b vs.toArray from pb) (by simpa using hu) (by simpa using hv) λg1 z1 o1 j1 j2 tp sz kp=>⟨_,rfl,?_⟩
  refine wpAny_letOwnedTupleGo_zip z1 λg2 z2 s2=>?_
  have s2:Heap.SameBut z g1 g2:=s2
  have hT:H s.heap.objs.size=none:=I.hok.fresh (Nat.le_refl _)
  have I1:Inv X pins σ (upd H s.heap.objs.size (.tup [x,y])) { s with heap:=s.heap.push { cls:=.type "tuple",data:=.seq #[u,v] },toks:=s.toks }:=by
   refine I.laid (λb o z=>Heap.get?_push_of_some _ z) (Nat.le_refl _) ?_
   exact ⟨by show 2<=sizeLine; decide,[u,v],.cons ru (.cons rv .nil),_,Heap.get?_push_size _ rfl,rfl,_,rfl⟩
  have hf1:∀ c ∈ [z,TI,TO,i1,i2],FpOk X pins (upd H s.heap.objs.size (.tup [x,y])) c:=λc hc=>by
   obtain ⟨f0,f⟩:=hf c hc
   refine ⟨?_,f⟩
   rw [upd_ne (Nat.ne_of_lt (lts c hc))]
   exact f0
  have I2:Inv X pins σ (upd H s.heap.objs.size (.tup [x,y])) { s with heap:=g2,toks:=s.toks }:=by
   refine Inv.turnedN (s:={ s with heap:=s.heap.push { cls:=.type "tuple",data:=.seq #[u,v] },toks:=s.toks }) (h':=g2) (t':=s.toks) (fp:=[z,TI,TO,i1,i2]) I1 (λc o hc e=>?_) hf1
   have n1:c≠z:=λq=>hc (by simp [q])
   rw [s2.2 c n1]
   by_cases hcT:c=s.heap.objs.size
   ·subst hcT
    have e':some _=some o:=(Heap.get?_push_size s.heap (o:={ cls:=.type "tuple",data:=.seq #[u,v] }) rfl).symm.trans e
    rw [<- e']
    exact tp
   ·refine kp c o n1 (λq=>hc (by simp [q])) (λq=>hc (by simp [q])) (λq=>hc (by simp [q])) ?_
    rwa [show (s.heap.push { cls:=.type "tuple",data:=.seq #[u,v] }).get? c=s.heap.get? c from Heap.get?_push_ne _ _ _ hcT] at e
  refine ⟨.ref s.heap.objs.size,_,I2,rfl,⟨_,x,y,hT,rfl,λzs hz=>by rw [I.tuple_inj hz qa]; exact hx,λzs hz=>by rw [I.tuple_inj hz qb]; exact hy,rfl⟩,⟨z2,?_,⟨_,_,s2.extBut _ _ Z.a2 o1⟩,j1.extBut s2.extBut Z.a3,j2.extBut s2.extBut Z.a4⟩,λc hc=>(hf1 c hc).1⟩
  exact s2.extBut _ _ Z.a1 (kp _ _ Z.a1 Z.a5 Z.a6 Z.a7 h2)
 done:=by
  intro X hP hw hK hc i pins s σ H E I hf st hg
  subst hP hw hK
  obtain ⟨xs,ys,qa,qb,hx⟩:=hg
  obtain ⟨us,ra,pa,_⟩:=I.tuple qa
  obtain ⟨vs,rb,pb,_⟩:=I.tuple qb
  obtain ⟨h1,h2,⟨c1,d1,h3⟩,h4,h5⟩:=st
  have D:ZipApart z TI TO i1 i2 a b:=⟨Z.a1,Z.a2,Z.a3,Z.a4,Z.a5,Z.a6,Z.a7,Z.a8,Z.a9,Z.a0,qa.apart I (hf z (by simp)),qa.apart I (hf TO (by simp)),qa.apart I (hf i1 (by simp)),qa.apart I (hf i2 (by simp)),qb.apart I (hf z (by simp)),qb.apart I (hf TO (by simp)),qb.apart I (hf i1 (by simp)),qb.apart I (hf i2 (by simp))⟩
  have la:=ra.length
  have lb:=rb.length
  refine zipT_end (I.ok.hd hc) D h1 h2 h3 h4 h5 (show s.heap.IsTuple a us.toArray from pa) (show s.heap.IsTuple b vs.toArray from pb) ?_ λg kp=>⟨rfl,I.turnedN (t':=s.toks) (fp:=[z,TI,TO,i1,i2]) (λc o hc e=>kp c o (λq=>hc (by simp [q])) (λq=>hc (by simp [q])) (λq=>hc (by simp [q])) (λq=>hc (by simp [q])) e) hf⟩
  rcases hx with hx | hx
  ·exact .inl (by simp; omega)
  ·exact .inr (by simp; omega)
 self:=λ_ _ _ _ _ st h=>wpAny_pyIter_zip st.1 h
def iZip (K:PySem.W.Frag) (ta:TA):TI:=λσ H R=>ta σ H λvs H1=>∃ a b xs ys,vs=[.ref a,.ref b]/\SqT K H1 a xs/\SqT K H1 b ys/\R (Itz K a b) H1
theorem pi_zip {X:Cx} {elts:List Expr} {x1:Nat} {tpos p pos:Pos} {e1 e2:Expr} {ta:TA} (hg:Gl X "zip") (hm:X.mg "zip"=none) (ha:PA X [e1,e2] ta) (hs:starEach [e1,e2] X.env=[(false,eval e1 X.env),(false,eval e2 X.env)]:=by rfl) (hs2:starEach [e2] X.env=[(false,eval e2 X.env)]:=by rfl) :
  PI X (.Tuple elts x1 tpos) (.Call (.Name "zip" p) [e1,e2] [] pos) (iZip X.K ta):=by
 intro pins s σ H R I h
 refine Call_ (ld_blt I hg hm boot_zip (PyProof.Rows.callWith_type1 (thn (ha pos pins s σ H _ I h) λus s1 hpat=>?_) (by rw [hs,hs2]) (by rw [hs2]; rfl)))
 obtain ⟨vs,H1,I1,r1,q1⟩:=hpat
 obtain ⟨a,b,xs,ys,e,qa,qb,q⟩:=q1
 subst e
 cases r1 with
 | cons r rr =>
  cases rr with
  | cons r' rr =>
   cases rr
   cases r
   cases r'
   obtain ⟨us,ra,pa,_⟩:=I1.tuple qa
   obtain ⟨vs,rb,pb,_⟩:=I1.tuple qb
   refine call_zipT (show s1.heap.IsTuple a us.toArray from pa) (show s1.heap.IsTuple b vs.toArray from pb) λg g1 g2 g3 g4 g5 kp=>?_
   refine wpAny_pyIter_zip g1 ?_
   refine ⟨_,[s1.heap.objs.size+4,s1.heap.objs.size+2,s1.heap.objs.size+3,s1.heap.objs.size,s1.heap.objs.size+1],_,_,H1,rfl,I1.kept (t':=s1.toks) kp,turn_zip a b _ _ _ _ _ (za_new _),⟨g1,g2,⟨_,_,g3⟩,g4,g5⟩,λc hc=>?_,q⟩
   have hb':s1.heap.objs.size<=c:=by
    simp only [List.mem_cons,List.not_mem_nil,or_false] at hc
    rcases hc with rfl | rfl | rfl | rfl | rfl
    ·exact Nat.le_add_right _ 4
    ·exact Nat.le_add_right _ 2
    ·exact Nat.le_add_right _ 3
    ·exact Nat.le_refl _
    ·exact Nat.le_add_right _ 1
   exact I1.fpOk hb' (I1.hok.fresh hb')
end L2
end
section
namespace L2
open PySem PySem.Spec PyProof.Rows
section
variable {X : Cx} {pins : List (Addr × Obj)} {σ : St} {H₂ : Hp} {s₂ : Shared} {fp : List Addr} {x y : Str} {scope : Scope} {C : Addr}
end
def tComp2 (K:PySem.W.Frag) (wi:TI) (te:TE):TE:=λσ H Q=>wi σ H λJ H1=>∀ D,H1 D=none->∃ W:Nat->Nat->List V->Hp->Prop,(∃ m,W 0 m [] (upd H1 D (.lst [])))/\∀ i m ys H,W i m ys H->H D=some (.lst ys) /\
 ((J.stop i H/\Q (.ref D) H)\/(J.go i H/\∃ N:List V->Hp->Prop,(∀ zs H',N zs H'->∃ m',m'<m/\W (i+1) m' zs H')/\∀ v H',J.yld i H v H'->∃ t a b,v=.ref t/\SqT K H' t [a,b]/\te (some a::some b::σ) H' λy H3=>H3 D=some (.lst ys)/\ys.length<sizeLine/\N (ys++[y]) (upd H3 D (.lst (ys++[y])))))
section
variable {X : Cx} {x y : Str} {px py pos tpos : Pos} {scope : Scope} {elt iter : Expr} {wi : TI} {te : TE} {k1 : Nat}
theorem pe_comp2 (hcalm:X.calm=true) (hi:PI X (.Tuple [.Name x px,.Name y py] k1 tpos) iter wi) (hclos:closureFor scope X.env=pure []) (hcb:capOk2 x y (relabel scope X.env).names=true)
  (he:∀ C s₂ H₂ fp,PE (cxD X x y scope C s₂ H₂ fp) elt te) (hN:(compN2 x y X.N).Nodup)
  (hkind:scope.kind=.function:=by rfl) (hnc:∀ y ∈ scope.names,y.2≠.cell:=by decide +kernel) (hnm:∀ y ∈ scope.names,y.2=.local->scope.names.lookup y.1=some .local:=by decide +kernel) (hx0:x≠"":=by decide +kernel) (hy0:y≠"":=by decide +kernel) (hdot:(".0":Str) ∉ X.N:=by decide +kernel)
  (hxl:scope.names.lookup x=some .local:=by rfl) (hyl:scope.names.lookup y=some .local:=by rfl)
  (hs:∀ x,foldedSetIterable iter X.env x=pure x:=by intro _; rfl):PE X (.ListComp elt [⟨.Tuple [.Name x px,.Name y py] k1 tpos,iter,[],0⟩] scope pos) (tComp2 X.K wi te):=by
 have hc:=capOk2_of hcb
 intro pins s σ H Q I h
 rw [eval_ListComp]
 refine wpAny_comprehension_free (use:=none) rfl hs hclos hkind hnm (wpAny_mono (hi pins s σ H _ I h) (λxv s₁ h₁=>wpAny_mono h₁ (λitv s₂ h₂=>?_) λ_ _ e=>e) λ_ _ e=>e)
 obtain ⟨it,fp,tn,J,H₂,e,I2,T,st2,f2,hq⟩:=h₂
 subst e
 refine wpAny_newObj_type (wpAny_newFunctionEnv hnc (by intro y hy; simp at hy) (λh₁ hns₁ hsb₁=>?_) hkind)
 dsimp only at hns₁ hsb₁ ⊢
 have ho:∀ b ∈ fp,∃ o,s₂.heap.get? b=some o:=λb hb=>let ⟨o,e,_⟩:=T.obj 0 _ st2 b hb; ⟨o,e⟩
 generalize hP2:s₂.heap.push { cls:=.type "list",dict:=none,data:=.seq ([]:List Value).toArray }=P2 at hns₁ hsb₁ ⊢
 have hC:P2.objs.size=s₂.heap.objs.size+1:=by rw [<- hP2,Heap.size_push]
 have old:∀ b o,s₂.heap.get? b=some o->h₁.get? b=some o:=λb o e=>hsb₁.extBut b o (by rw [hC]; exact Nat.ne_of_lt (Nat.lt_succ_of_lt (Heap.lt_size e))) (Heap.get?_push_of_some _ (hP2 ▸ Heap.get?_push_of_some _ e))
 have hD:∃ n,h₁.get? s₂.heap.objs.size=some { cls:=.type "list",data:=.seq #[] n }:=⟨_,hsb₁.extBut _ _ (by rw [hC]; exact Nat.ne_of_lt (Nat.lt_succ_self _)) (Heap.get?_push_of_some _ (hP2 ▸ Heap.get?_push_size _ rfl))⟩
 have hns':h₁.Ns P2.objs.size λ_=>none:=by
  have e:(λx:Str=>([]:List (Str×Value)).reverse.lookup x)=λ_=>none:=by funext y; rfl
  rw [<- e]
  exact hns₁
 have I0:=invD (tk:=s₂.toks+([]:List (Str×Value)).length) I2 f2 ho hkind hc hx0 hy0 hdot hC hns' old hD
 obtain ⟨W,⟨m0,w0⟩,turn⟩:=hq _ (I2.hok.fresh (Nat.le_refl _))
 have hCs:X.s₀.heap.objs.size<=P2.objs.size:=by rw [hC]; exact Nat.le_succ_of_le I2.sz
 have loop:∀ s₃:Shared,s₃={ s₂ with heap:=h₁,toks:=s₂.toks+([]:List (Str×Value)).length } ->
   codeAny (model X.prog X.w) X.A (.compLoop (.ListComp elt [⟨.Tuple [.Name x px,.Name y py] k1 tpos,iter,[],0⟩] scope pos) 0 (.ref it) (.ref s₂.heap.objs.size) (compEnvC scope [] P2.objs.size X.env)) (compPost (model X.prog X.w) X.A X.xe none (EP X pins σ Q) (.ref s₂.heap.objs.size) P2.objs.size) s₃:=by
  rintro s₃ rfl
  refine compLoop_go (λn s'=>∃ i ys a b H,Inv (cxD X x y scope P2.objs.size s₂ H₂ fp) [] (a::b::σ) H s'/\tn i s'.heap/\(∀ b ∈ fp,H b=none)/\W i n ys H) ?_ m0
   ⟨0,[],none,none,_,I0,T.keep _ _ _ st2 λb _ o e=>old b o e,λb hb=>by rw [upd_ne (by obtain ⟨o,e⟩:=ho b hb; exact Nat.ne_of_lt (Heap.lt_size e))]; exact (f2 b hb).1,w0⟩
  rintro n s' ⟨i,ys,a,b,H,I',st',fr',w'⟩
  have fpn:∀ {H:Hp},(∀ b ∈ fp,H b=none)->∀ b ∈ fp,FpOk (cxD X x y scope P2.objs.size s₂ H₂ fp) [] H b:=λhn=>fpD I2 f2 ho (by rw [hC]; exact Nat.le_succ _) hn
  obtain ⟨hDl,go⟩:=turn i n ys H w'
  rcases go with ⟨stop,qn⟩ | ⟨go,Nx,hNx,step⟩
  ·refine wpAny_mono (T.done (cxD X x y scope P2.objs.size s₂ H₂ fp) rfl rfl rfl hcalm i [] s' (a::b::σ) H (λ_ _=>False) I' (fpn fr') st' stop) (λr s4 z=>?_) λ_ _ z=>z
   obtain ⟨hr,I4⟩:=z
   subst hr
   obtain ⟨m4,hm4,_⟩:=I4.loc
   have Iout:Inv X pins σ H s4:=I2.call' I4.os I4.base I4.hok I4.bare λb hb=>by
    obtain ⟨f0,f1,f2,f3,f4,f5⟩:=f2 b hb
    exact ⟨f3,f1,f4,f5⟩
   refine ⟨m4,hm4,λh' hs'=>?_⟩
   refine ⟨.ref s₂.heap.objs.size,H,Iout.turned (t':=s4.toks) (it:=P2.objs.size) (λb o hb e=>(hs'.2 b hb).trans e) I4.free ?_ (.inr hCs) (λy c e z=>?_) (λp hp z=>?_),rfl,qn⟩
   ·rw [hC]
    exact Nat.ne_of_gt (Nat.lt_succ_of_lt I2.lt)
   ·obtain ⟨v',oc,g1,_⟩:=I2.cell y c e
    have:=Heap.lt_size g1
    rw [z,hC] at this
    exact absurd (Nat.lt_of_succ_lt this) (Nat.lt_irrefl _)
   ·have:=Heap.lt_size (I2.pin p hp).1
    rw [z,hC] at this
    exact absurd (Nat.lt_of_succ_lt this) (Nat.lt_irrefl _)
  ·refine wpAny_mono (T.item (cxD X x y scope P2.objs.size s₂ H₂ fp) rfl rfl rfl hcalm i [] s' (a::b::σ) H (λ_ _=>False) I' (fpn fr') st' go) (λr s4 z=>?_) λ_ _ z=>z
   obtain ⟨u,hr,h4⟩:=z
   subst hr
   refine wpAny_mono h4 (λ_ s5 z=>?_) λ_ _ z=>z
   obtain ⟨yv,H5,I5,r5,y5,st5,fr5⟩:=z
   have I5':=I5.pinned (fpn fr5) (T.obj _ _ st5)
   have hxl':(relabel scope X.env).names.lookup x=some .local:=lookup_relabel_local hxl
   have hyl':(relabel scope X.env).names.lookup y=some .local:=lookup_relabel_local hyl
   obtain ⟨t,a1,b1,rfl,sqt,hs6⟩:=step yv H5 y5
   have pg:=pg_tup (X:=cxD X x y scope P2.objs.size s₂ H₂ fp) (k:=k1) (pos:=tpos) (n:=2) hcalm (pgs_cons (pg_name (X:=cxD X x y scope P2.objs.size s₂ H₂ fp) (i:=0) (pos:=px) hN rfl (.inl hxl') (.inr hxl')) (pgs_cons (pg_name (X:=cxD X x y scope P2.objs.size s₂ H₂ fp) (i:=1) (pos:=py) hN rfl (.inl hyl') (.inr hyl')) pgs_nil))
   refine wpAny_mono (pg _ s5 (a::b::σ) _ (.ref t) u (λσ6 H6=>σ6=some a1::some b1::σ/\H6=H5) I5' r5 ⟨t,[a1,b1],rfl,sqt,rfl,_,_,rfl,_,_,rfl,rfl,rfl,rfl⟩) (λ_ s6 z=>?_) λ_ _ z=>z
   obtain ⟨σ6,H6,I6,rfl,rfl⟩:=z
   have again:∀ {H7:Hp} {s7:Shared} {zs:List V},Inv (cxD X x y scope P2.objs.size s₂ H₂ fp) ([]++pinsAt fp s5.heap) (some a1::some b1::σ) H7 s7->Nx zs H7 ->
     ∃ m,m<n/\∃ i ys a b H,Inv (cxD X x y scope P2.objs.size s₂ H₂ fp) [] (a::b::σ) H s7/\tn i s7.heap/\(∀ b ∈ fp,H b=none)/\W i m ys H:=λ{H7 s7 zs} I7 w7=>by
    obtain ⟨m',hm,w7⟩:=hNx _ _ w7
    refine ⟨m',hm,i+1,zs,some a1,some b1,H7,I7.unpinned,T.keep _ _ _ st5 λb hb o e=>(I7.pin (b,o) (List.mem_append_right _ (List.mem_append_right _ (mem_pinsAt hb e)))).1,λb hb=>?_,w7⟩
    obtain ⟨o,e,d⟩:=T.obj _ _ st5 b hb
    exact (I7.pin (b,o) (List.mem_append_right _ (List.mem_append_right _ (mem_pinsAt hb e)))).2.1
   refine wpAny_tests_nil ?_
   refine wpAny_mono (he P2.objs.size s₂ H₂ fp _ s6 _ _ _ I6 hs6) (λu8 s8 z=>?_) λ_ _ z=>z
   obtain ⟨y',H8,I8,r8,hD8,hz8,w8⟩:=z
   refine wpAny_mono (mt_append (X:=cxD X x y scope P2.objs.size s₂ H₂ fp) _ s8 _ H8 (.ref s₂.heap.objs.size) [y'] (.ref s₂.heap.objs.size) [u8] (λ_ H9=>H9=upd H8 s₂.heap.objs.size (.lst (ys++[y']))) I8 rfl (.cons r8 .nil) ⟨_,ys,y',rfl,rfl,hD8,hz8,rfl⟩) (λ_ s9 z=>?_) λ_ _ z=>z
   obtain ⟨_,H9,I9,_,rfl⟩:=z
   exact again I9 w8
 exact codeAny_compStart_list (loop _ rfl) (T.self _ 0 _ _ _ (T.keep _ _ _ st2 λb _ o e=>old b o e) (loop _ rfl))
end
theorem comp_zip {K:PySem.W.Frag} {a b:Addr} {xs ys:List V} {te:TE} {σ:St} {H1:Hp} {Q:Addr->Hp->Prop} (hlen:xs.length=ys.length) (Pv:Addr->Nat->List V->Hp->Prop) (h0:∀ D,H1 D=none->Pv D 0 [] (upd H1 D (.lst [])))
  (hl:∀ D i zs H,i<=xs.length->Pv D i zs H->SqT K H a xs/\SqT K H b ys/\H D=some (.lst zs))
  (hs:∀ D i x y zs H t,xs[i]?=some x->ys[i]?=some y->Pv D i zs H->H t=none->te (some x::some y::σ) (upd H t (.tup [x,y])) λz H3=>H3 D=some (.lst zs)/\zs.length<sizeLine/\Pv D (i+1) (zs++[z]) (upd H3 D (.lst (zs++[z]))))
  (hd:∀ D zs H,Pv D xs.length zs H->Q D H) :
  ∀ D,H1 D=none->∃ W:Nat->Nat->List V->Hp->Prop,(∃ m,W 0 m [] (upd H1 D (.lst [])))/\∀ i m zs H,W i m zs H->H D=some (.lst zs) /\
   (((Itz K a b).stop i H/\Q D H)\/((Itz K a b).go i H/\∃ N:List V->Hp->Prop,(∀ us H',N us H'->∃ m',m'<m/\W (i+1) m' us H')/\∀ v H',(Itz K a b).yld i H v H'->∃ t x y,v=.ref t/\SqT K H' t [x,y]/\te (some x::some y::σ) H' λz H3=>H3 D=some (.lst zs)/\zs.length<sizeLine/\N (zs++[z]) (upd H3 D (.lst (zs++[z]))))):=λD hD=>by
 refine ⟨λi m zs H=>m=xs.length - i/\i<=xs.length/\Pv D i zs H,⟨xs.length,by simp,Nat.zero_le _,h0 D hD⟩,?_⟩
 rintro i m zs H ⟨rfl,hi,p⟩
 obtain ⟨qa,qb,qd⟩:=hl D i zs H hi p
 refine ⟨qd,?_⟩
 by_cases hlt:i<xs.length
 ·refine .inr ⟨⟨xs,ys,xs[i],ys[i]'(by omega),qa,qb,by simp [hlt],by simp⟩,Pv D (i+1),λzs H' p'=>⟨xs.length - (i+1),by omega,rfl,hlt,p'⟩,λv H' z=>?_⟩
  obtain ⟨t,x,y,ht,rfl,hx,hy,rfl⟩:=z
  exact ⟨t,x,y,rfl,SqT.of upd_same,hs D i x y zs H t (hx xs qa) (hy ys qb) p ht⟩
 ·have e:i=xs.length:=by omega
  subst e
  exact .inl ⟨⟨xs,ys,qa,qb,.inl (Nat.le_refl _)⟩,hd D zs H p⟩
end L2
end
section
namespace L2
open PySem PySem.Spec PyProof.Rows
section
variable {K : PySem.W.Frag}
end
section
variable {X : Cx}
end
structure Tab (K:PySem.W.Frag) (F:Addr) (D:List (Str×Addr)):Prop where
 lo:(F == sysModules)=false
 ob:∃ o es ep,K.lookup F=some o/\o.ExactDict/\o.data=.dict es ep/\KTD.Rows (λ(a:Addr) v=>v=.ref a) es.toList D
section
variable {prog : Program} {w : World} {A : Around} {E : Value → Shared → Prop} {s : Shared} {K : PySem.W.Frag} {F : Addr} {D : List (Str × Addr)} {k : Str} {tk : Tok}
theorem Tab.typeIs (T:Tab K F D) (X:K.In s.heap):s.TypeIs (.ref F) "dict":=let ⟨_,o,_,_,ho,hc,_⟩:=T; ⟨o,X _ _ ho,hc.1⟩
theorem tab_get {Q:Option Value->Shared->Prop} (T:Tab K F D) (X:K.In s.heap) (h1:∀ a,KTD.datumAt k D=some a->Q (some (.ref a)) { s with toks:=s.toks+1 }) (h2:KTD.datumAt k D=none->Q none { s with toks:=s.toks+1 }):wpAny (model prog w) A (dictGet F (.str k tk)) Q E s:=by
 obtain ⟨_,o,es,ep,ho,hc,hd,hr⟩:=T
 have ho:=X _ _ ho
 unfold dictGet; try with_reducible refine wpAny_holding ?_
 refine wpAny_bind (wpAny_pyHash_str (wpAny_bind (KTD.kt_dictFind_strs (s:={ s with toks:=s.toks+1 }) ho hd (by obtain ⟨l⟩:=es; simpa using hr.exact) ?_)))
 have hq:Q (findBy (λk v=>v.isStr k) es k) { s with toks:=s.toks+1 }:=by
  have hf:findBy (λk v=>v.isStr k) es k=(es.toList.find? λe=>e.key.isStr k).map (·.val):=by obtain ⟨l⟩:=es; simp [findBy]
  rw [hf]
  cases hat:KTD.datumAt k D with
  | some d=>obtain ⟨v,hv,rfl⟩:=hr.find_some hat; rw [hv]; exact h1 d hat
  | none=>rw [hr.find_none hat]; exact h2 hat
 rw [findBy_of_findIdx?] at hq
 cases hi:es.findIdx? λe=>e.key.isStr k with
 | none=>rw [hi] at hq; exact wpAny_pure hq
 | some i=>rw [hi] at hq; exact wpAny_bind (wpAny_dictEntries (s:={ s with toks:=s.toks+1 }) ho hd (wpAny_pure hq))
end
section
variable {X : Cx}
theorem op_notTab:OpR X (compareOp .NotIn) (λx y H Q=>∃ F D k,x=.str k/\y=.ref F/\Tab X.K F D/\Q (.bl (!KTD.inKeys k D)) H):=by
 intro pins s σ H x y v u Q I rx ry h
 obtain ⟨F,D,k,rfl,rfl,T,q⟩:=h
 cases ry
 obtain ⟨tk,rfl⟩:=rx
 have ty:=T.typeIs I.kIn
 show wpAny _ _ (do return Value.bool (!(<- contains (.ref F) (.str k tk)))) _ _ s
 refine wpAny_bind ?_; unfold contains; try with_reducible refine wpAny_holding ?_
 refine wpAny_bind (wpAny_specialOf ty slot_dict_contains.lookup ?_)
 show wpAny _ _ (if (some (Value.builtin "dict.__contains__") == some Value.none)=true then _ else _) _ _ s
 rw [if_neg (by rw [beq_builtin_none]; exact Bool.false_ne_true)]
 refine wpAny_bind (wpAny_callSpecialUnlessNone?_slot (name:=Str.ofString "__contains__") ty slot_dict_contains (wpAny_call_entry slot_dict_contains ty entry_dict_contains ?_ (args_dict_contains _ _)))
 show wpAny _ _ (dictGet F (.str k tk) >>= _) _ _ s
 have fin:EP X pins σ Q (.bool (!KTD.inKeys k D)) { s with toks:=s.toks+1 }:=⟨.bl _,H,I.tok _,rfl,q⟩
 refine wpAny_bind (tab_get T I.kIn (λa ha=>?_) λhn=>?_)
 ·have hb:KTD.inKeys k D=true:=by rw [<- KTD.isSome_datumAt,ha]; rfl
  rw [hb] at fin
  show wpAny _ _ (ret (.bool true)) _ _ _; exact wpAny_pure ⟨_,rfl,wpAny_truthy_bool (wpAny_pure fin)⟩
 ·have hb:KTD.inKeys k D=false:=by rw [<- KTD.isSome_datumAt,hn]; rfl
  rw [hb] at fin
  show wpAny _ _ (Builtin.Dict.pendingKey? F (.str k tk) >>= _) _ _ _; exact wpAny_bind (wpAny_pendingKey_other T.lo (wpAny_pure ⟨_,rfl,wpAny_truthy_bool (wpAny_pure fin)⟩))
theorem ix_tab:IxR X (λx y H Q=>∃ F D k a,x=.ref F/\y=.str k/\Tab X.K F D/\KTD.datumAt k D=some a/\Q (.ref a) H):=by
 intro value slice pins s σ H x y v u Q I rx ry h hs
 obtain ⟨F,D,k,a,rfl,rfl,T,ha,q⟩:=h
 cases rx
 obtain ⟨tk,rfl⟩:=ry
 have ty:=T.typeIs I.kIn
 refine subscriptTail_builtinR (x:=.ref a) ty slot_dict_getitem.lookup ?_ hs
 unfold getItem; try with_reducible refine wpAny_holding ?_
 refine wpAny_bind (wpAny_sequenceKey ty (by decide) ?_)
 refine wpAny_bind (wpAny_callSpecial?_slot (name:=Str.ofString "__getitem__") ty slot_dict_getitem (wpAny_call_entry slot_dict_getitem ty entry_dict_getitem ?_ (args_dict_getitem _ _)))
 show wpAny _ _ (dictGet F (.str k tk) >>= _) _ _ s
 refine wpAny_bind (tab_get T I.kIn (λb hb=>?_) λhn=>by rw [ha] at hn; cases hn)
 rw [ha] at hb
 cases hb
 exact wpAny_pure ⟨_,rfl,wpAny_pure ⟨rfl,⟨.ref a,H,I.tok _,rfl,q⟩⟩⟩
end
end L2
end
section
namespace L2
open PySem PySem.Spec PyProof.Rows
section
variable {X : Cx} {pos : Pos}
inductive StrCs:List Expr->List Str->Prop
 | nil:StrCs [] []
 | cons {z:Str} {j:Nat} {p:Pos} {es:List Expr} {zs:List Str}:StrCs es zs->StrCs (.Constant (.str z) j p::es) (z::zs)
end
end L2
end
section
namespace L2
open PySem PySem.Spec PyProof.Rows
section
variable {X : Cx}
end
end L2
end
section
namespace K32
open PySem L2
abbrev sOrder:Stmt:=top 28
abbrev sBound:Stmt:=top 29
abbrev sChk:Stmt:=top 30
def fT:List (Str×List Str):=[("set",["a","word"]),("add",["a","b"]),("both",["a","b"]),("odd",["a","b"]),("load",["a","b"]),("save",["a","b"]),("jump",["at"]),("nought",["a","at"]),("tell",["a"]),("call",[]),("halt",[]),("peek",["a","b"]),("poke",["a","b"]),("root",["a"]),("drop",["a"]),("give",["a"]),("want",["a"]),("why",["a","b"]),("back",[]),("past",[]),("user",["at"])]
def bnd (p:Str):Int:=if p = "word" then 281474976710656 else if p = "at" then 61 else 4
def partsB:List V->List Str->List Bool
 | y::r,f::fs=>below y (bnd f)::partsB r fs
 | _,_=>[]
theorem partsB_take:∀ (r:List V) (fs:List Str) (i:Nat) (y:V) (f:Str),r[i]?=some y->fs[i]?=some f->(partsB r fs).take (i+1)=(partsB r fs).take i++[below y (bnd f)]
 | [],_,i,y,f,h,_=>by simp at h
 | _::_,[],i,y,f,_,h=>by simp at h
 | y0::r,f0::fs,0,y,f,h1,h2=>by
  simp at h1 h2
  subst h1 h2
  simp [partsB]
 | y0::r,f0::fs,i+1,y,f,h1,h2=>by
  have z:=partsB_take r fs i y f (by simpa using h1) (by simpa using h2)
  show below y0 (bnd f0)::(partsB r fs).take (i+1)=below y0 (bnd f0)::(partsB r fs).take i++[below y (bnd f)]
  rw [z]
  rfl
theorem partsB_len:∀ (r:List V) (fs:List Str),r.length=fs.length->(partsB r fs).length=r.length
 | [],_,_=>rfl
 | _::_,[],h=>by simp at h
 | y::r,f::fs,h=>by
  show (partsB r fs).length+1=r.length+1
  rw [partsB_len r fs (by simpa using h)]
def ordB:List V->Bool
 | .str s::r=>match PyProof.Rows.KTD.datumAt s fT with
  | some fs=>decide (r.length=fs.length) && (partsB r fs).all id
  | none=>false
 | _=>false
theorem datum_mem {δ:Type} {k:Str} {d:δ}:∀ {D:List (Str×δ)},PyProof.Rows.KTD.datumAt k D=some d->(k,d) ∈ D
 | [],h=>by cases h
 | (x,e)::D,h=>by
  have h':(if decide (k=x)=true then some e else PyProof.Rows.KTD.datumAt k D)=some d:=h
  by_cases hk:decide (k=x)=true
  ·rw [if_pos hk] at h'
   cases h'
   rw [of_decide_eq_true hk]
   exact List.mem_cons_self
  ·rw [if_neg hk] at h'
   exact List.mem_cons_of_mem _ (datum_mem h')
theorem fT_len {k:Str} {fs:List Str} (h:PyProof.Rows.KTD.datumAt k fT=some fs):fs.length<=2:=(by decide:∀ p ∈ fT,p.2.length<=2) _ (datum_mem h)
def Ord (H:Hp) (x:V) (b:Bool):Prop:=Th H x/\((isTup H x=false/\b=false)\/∃ a ys,x=.ref a/\H a=some (.tup ys)/\(∀ y ∈ ys,Th H y)/\b=ordB ys)
theorem isTup_same {H H':Hp} {x:V} (t:Th H x) (s:Same H H') (h:isTup H x=false):isTup H' x=false:=by
 cases t with
 | lst e=>simp [isTup,s _ _ e]
 | frz e=>simp [isTup,s _ _ e]
 | tup e=>rw [show isTup H (.ref _)=true from by simp [isTup,e]] at h; cases h
 | dic e=>simp [isTup,s _ _ e]
 | _=>rfl
theorem Ord.same {H H':Hp} {x:V} {b:Bool} (o:Ord H x b) (s:Same H H'):Ord H' x b:=by
 obtain ⟨t,h⟩:=o
 refine ⟨t.same s,?_⟩
 rcases h with ⟨h,e⟩ | ⟨a,ys,rfl,ha,hy,e⟩
 ·exact .inl ⟨isTup_same t s h,e⟩
 ·exact .inr ⟨a,ys,rfl,s _ _ ha,λy z=>(hy y z).same s,e⟩
inductive Fm (K:PySem.W.Frag):List (Str×Addr)->List (Str×List Str)->Prop
 | nil:Fm K [] []
 | cons {k:Str} {a:Addr} {fs:List Str} {D:List (Str×Addr)} {F:List (Str×List Str)}:(∀ H,SqT K H a (fs.map V.str))->Fm K D F->Fm K ((k,a)::D) ((k,fs)::F)
theorem Fm.no {K:PySem.W.Frag} {D:List (Str×Addr)} {F:List (Str×List Str)} {k:Str} (h:Fm K D F) (e:PyProof.Rows.KTD.datumAt k F=none):PyProof.Rows.KTD.datumAt k D=none:=by
 induction h with
 | nil=>rfl
 | @cons k' a fs D F hs _ ih =>
  have e':(if decide (k=k')=true then some fs else PyProof.Rows.KTD.datumAt k F)=none:=e
  show (if decide (k=k')=true then some a else PyProof.Rows.KTD.datumAt k D)=none
  by_cases hk:decide (k=k')=true
  ·rw [if_pos hk] at e'; cases e'
  ·rw [if_neg hk] at e' ⊢; exact ih e'
theorem Fm.yes {K:PySem.W.Frag} {D:List (Str×Addr)} {F:List (Str×List Str)} {k:Str} {fs:List Str} (h:Fm K D F) (e:PyProof.Rows.KTD.datumAt k F=some fs):∃ a,PyProof.Rows.KTD.datumAt k D=Option.some a/\∀ H,SqT K H a (fs.map V.str):=by
 induction h with
 | nil=>cases e
 | @cons k' a fs' D F hs _ ih =>
  have e':(if decide (k=k')=true then Option.some fs' else PyProof.Rows.KTD.datumAt k F)=Option.some fs:=e
  show ∃ a',(if decide (k=k')=true then Option.some a else PyProof.Rows.KTD.datumAt k D)=Option.some a'/\_
  by_cases hk:decide (k=k')=true
  ·rw [if_pos hk] at e' ⊢; cases e'; exact ⟨a,rfl,hs⟩
  ·rw [if_neg hk] at e' ⊢; exact ih e'
structure Fms (K:PySem.W.Frag) (mg:Str->Option Value) (FF:Addr):Prop where
 m:mg "FORMS"=some (.ref FF)
 t:∃ D,Tab K FF D/\Fm K D fT
structure Tx2 (K:PySem.W.Frag) (mg:Str->Option Value):Prop where
 str:mg "str"=none
 tup:mg "tuple"=none
 zip:mg "zip"=none
 enu:mg "enumerate"=none
 wor:∃ t,mg "WORDS"=some (.int 281474976710656 t)
 reg:∃ t,mg "REGISTERS"=some (.int 4 t)
 ent:∃ t,mg "ENTRIES"=some (.int 61 t)
 ord:∃ t,mg "ORDERS"=some (.int 60 t)
inductive spBound (vs:List V) (H:Hp) (Q:VK) (E:XK):Prop
 | mk (p:_) (_:vs=[.str p]) (_:Q (.int (bnd p)) H):spBound vs H Q E
inductive spOrder (vs:List V) (H:Hp) (Q:VK) (E:XK):Prop
 | mk (x b:_) (_:vs=[x]) (_:Ord H x b) (_:∀ H',Same H H'->Q (.bl b) H'):spOrder vs H Q E
theorem cut1 (x:V) (r:List V):cutV (x::r) (some 1) none=r/\¬ (HT.sIx (x::r).length 0 (some 1)=0/\HT.sIx (x::r).length (x::r).length none=(x::r).length):=by
 have e:HT.sIx (x::r).length 0 (some 1)=1:=by
  show (if (1:Int)<0 then ((1:Int)+((x::r).length:Int)).toNat else min (1:Int).toNat (x::r).length)=1
  rw [if_neg (by decide),List.length_cons]
  show min 1 (r.length+1)=1
  omega
 constructor
 ·unfold cutV
  rw [e,HT.sIx_none]
  simp
 ·rw [e]
  rintro ⟨z,_⟩
  exact absurd z (by decide)
inductive spChk (vs:List V) (H:Hp) (Q:VK) (E:XK):Prop
 | mk (p:Addr) (xs:List V) (e:Int) (_:vs=[.ref p,.int e]) (_:H p=some (.lst xs)) (_:1<=xs.length) (_:xs.length<=60) (_:(∀ x ∈ xs,Ord H x true)) (_:0<=e) (_:e<61) (_:∀ H',Same H H'->Q .non H'):spChk vs H Q E
section
variable {P : Program} {w : World} {K : PySem.W.Frag} {mg : Str → Option Value} {base : Heap} {C NP NL NW NI SC PL WC FA : Addr}
theorem scBo:FnScope ["part"] ["part"] (defScope sBound):=FSc
theorem strV {p z:Str} (h:decide (V.str p=V.str z)=true):p=z:=V.str.inj (of_decide_eq_true h)
theorem strN {p z:Str} (h:¬ decide (V.str p=V.str z)=true):¬ p=z:=λe=>h (decide_eq_true (by rw [e]))
theorem ok_bound {f:Addr} {fd:FuncData} (F:Fun K "bound_of" "bound_of" sBound f fd) (T:Txt K mg) (T2:Tx2 K mg):FnOk P w K mg base CX0 1 f fd ["part"] spBound:=by
 obtain ⟨t1,m1⟩:=T2.wor
 obtain ⟨t2,m2⟩:=T2.reg
 obtain ⟨t3,m3⟩:=T2.ent
 refine F.ok scBo (λvs H Q E h=>?_) (λcdv A outer s H vs Q E hr h=>?_)
 ·obtain ⟨p,rfl,_⟩:=h
  rfl
 ·obtain ⟨p,rfl,q⟩:=h
  refine ⟨_,(pss_cons (ps_if (pt_cmpR op_eq (pv 0) pe_str (nomark _)) (pss_one (ps_ret (pe_glob (by rfl) m1 (show RelV (.int 281474976710656) (.int 281474976710656 t1) from ⟨_,rfl⟩)))) pss_nil) (pss_cons (ps_if (pt_cmpR op_eq (pv 0) pe_str (nomark _)) (pss_one (ps_ret (pe_glob (by rfl) m3 (show RelV (.int 61) (.int 61 t3) from ⟨_,rfl⟩)))) pss_nil) (pss_one (ps_ret (pe_glob (by rfl) m2 (show RelV (.int 4) (.int 4 t2) from ⟨_,rfl⟩)))))),?_⟩
  refine ⟨_,rfl,rfl,_,rfl,ite2 (λz=>?_) (λz=>?_)⟩
  ·rw [show bnd p=281474976710656 from by unfold bnd; rw [if_pos (strV z)]] at q
   exact q
  ·refine ⟨_,rfl,rfl,_,rfl,ite2 (λz2=>?_) (λz2=>?_)⟩
   ·rw [show bnd p=61 from by unfold bnd; rw [if_neg (strN z),if_pos (strV z2)]] at q
    exact q
   ·rw [show bnd p=4 from by unfold bnd; rw [if_neg (strN z),if_neg (strN z2)]] at q
    exact q
theorem scOr:FnScope ["thing","form"] ["thing"] (defScope sOrder):=FSc
theorem ndOr:(compN2 "number" "part" ["thing","form"]).Nodup:=by decide +kernel
theorem dotOr:(".0":Str) ∉ (["thing","form"]:List Str):=by decide +kernel
theorem ok_order {f f1 f2 FF:Addr} {fd fd1 fd2:FuncData} (F:Fun K "is_order" "is_order" sOrder f fd) (B:Dn K mg "is_below" sBelow ["thing","bound"] f1 fd1) (GB:FnOk P w K mg base CX0 2 f1 fd1 ["thing","bound"] spBelow) (N:Dn K mg "bound_of" sBound ["part"] f2 fd2) (GN:FnOk P w K mg base CX0 1 f2 fd2 ["part"] spBound)
  (Z:Fms K mg FF) (T:Txt K mg) (T2:Tx2 K mg):FnOk P w K mg base CX0 3 f fd ["thing"] spOrder:=by
 obtain ⟨DD,tab,fm⟩:=Z.t
 refine F.ok scOr (λvs H Q E h=>?_) (λcdv A outer s H vs Q E hr h=>?_)
 ·obtain ⟨x,b,rfl,_⟩:=h
  rfl
 ·obtain ⟨x,b,rfl,⟨th,od⟩,q⟩:=h
  have hr1:Room 1 _:=hr.mono (by decide)
  refine ⟨_,pss_cons (ps_if (PW.pt (pw_or (pt_not (pt_val (pe_callB call_istupT (by rfl) T.isi PyProof.Rows.boot_isinstance (pa_cons (pv 0) (pa_cons (pe_bltn (by rfl) T2.tup PyProof.Rows.boot_tuple (show RelV (.ty "tuple") (.type "tuple") from rfl)) pa_nil))))) (pw_or1 (pt_cmpR op_eq (pe_callB call_len_seq (by rfl) T.len PySem.boot_len (pa_cons (pv 0) pa_nil)) pe_int (nomark _))))) (pss_one (ps_ret pe_bl)) pss_nil) (pss_cons (ps_if (PW.pt (pw_or (pt_not (pt_val (pe_callB call_isstr (by rfl) T.isi PyProof.Rows.boot_isinstance (pa_cons (pe_ix ix_tup (pv 0) pe_int (λ_ _=>rfl)) (pa_cons (pe_bltn (by rfl) T2.str PyProof.Rows.boot_str (show RelV (.ty "str") (.type "str") from rfl)) pa_nil))))) (pw_or1 (pt_cmpR op_notTab (pe_ix ix_tup (pv 0) pe_int (λ_ _=>rfl)) (pe_glob (by rfl) Z.m (show RelV (.ref FF) (.ref FF) from rfl)) rfl)))) (pss_one (ps_ret pe_bl)) pss_nil) (pss_cons (ps_set (i:=1) scOr.nd rfl (Or.inl rfl) (pe_ix ix_tab (pe_glob (by rfl) Z.m (show RelV (.ref FF) (.ref FF) from rfl)) (pe_ix ix_tup (pv 0) pe_int (λ_ _=>rfl)) (λ_ _=>rfl))) (pss_cons (ps_if (pt_cmpR op_ne (pe_callB call_len_seq (by rfl) T.len PySem.boot_len (pa_cons (pv 0) pa_nil)) (pe_op op_add pe_int (pe_callB call_len_seq (by rfl) T.len PySem.boot_len (pa_cons (pv 1) pa_nil))) (nomark _)) (pss_one (ps_ret pe_bl)) pss_nil) (pss_one (ps_ret (pe_callB (call_allB rfl) (by rfl) T.all PyProof.Rows.boot_all (pa_cons (pe_comp2 (te:=tCall spBelow [] E0 (tCons (tVar 0) (tCons (tCall spBound [] E0 (tCons (tVar 1) tNil)) tNil))) rfl (pi_zip (by rfl) T2.zip (pa_cons (pe_slice sl_tup (pv 0) (po_some pe_int) po_none) (pa_cons (pv 1) pa_nil))) (closureFor_none (by decide +kernel)) rfl (λC s₂ H₂ fp=>pe_call GB hr (by rfl) B.m B.F.kp B.b .nil pass0 (pa_cons (pv 0) (pa_cons (pe_call GN hr1 (by rfl) N.m N.F.kp N.b .nil pass0 (pa_cons (pv 1) pa_nil)) pa_nil))) ndOr (hdot:=dotOr)) pa_nil))))))),?_⟩
  rcases od with ⟨ht,rfl⟩ | ⟨a,ys,rfl,ha,hy,rfl⟩
  ·refine ⟨_,rfl,x,rfl,th,_,rfl,?_⟩
   rw [ht]
   exact iteT (q H (Same.refl _))
  ·refine ⟨_,rfl,_,rfl,th,_,rfl,?_⟩
   rw [show isTup H (.ref a)=true from by simp [isTup,ha]]
   refine iteF ?_
   refine ⟨_,rfl,a,_,rfl,.inr (SqT.of ha),rfl,_,rfl,?_⟩
   cases ys with
   | nil=>exact iteTS (decide_eq_true rfl) (q H (Same.refl _))
   | cons y0 r =>
    refine iteFS (decide_eq_false (by intro z; have z':=V.int.inj z; rw [List.length_cons] at z'; omega)) ?_
    have t0:Th H y0:=hy y0 List.mem_cons_self
    have tr:∀ y ∈ r,Th H y:=λy hm=>hy y (List.mem_cons_of_mem _ hm)
    have i0:atI (y0::r) 0=some y0:=by
     unfold atI ixN
     rw [if_pos (by decide),if_pos (by rw [List.length_cons]; omega)]
     rfl
    refine ⟨_,rfl,a,_,_,_,rfl,rfl,SqT.of ha,i0,y0,rfl,t0,_,rfl,?_⟩
    cases hs:isS y0 with
    | false =>
     refine iteT ?_
     have e:ordB (y0::r)=false:=by cases y0 <;> first | rfl | (simp [isS] at hs)
     rw [e] at q
     exact q H (Same.refl _)
    | true =>
     refine iteF ?_
     obtain ⟨z,rfl⟩:∃ z,y0=.str z:=by cases y0 <;> first | exact ⟨_,rfl⟩ | (simp [isS] at hs)
     refine ⟨_,rfl,a,_,_,_,rfl,rfl,SqT.of ha,i0,FF,DD,z,rfl,rfl,tab,_,rfl,?_⟩
     cases hd:PyProof.Rows.KTD.datumAt z fT with
     | none =>
      refine iteTS (by rw [<- PyProof.Rows.KTD.isSome_datumAt,fm.no hd]; rfl) ?_
      have e:ordB (.str z::r)=false:=by simp only [ordB,hd]
      rw [e] at q
      exact q H (Same.refl _)
     | some fs =>
      obtain ⟨t,ht,hsq⟩:=fm.yes hd
      refine iteFS (by rw [<- PyProof.Rows.KTD.isSome_datumAt,ht]; rfl) ?_
      refine ⟨_,rfl,a,_,_,_,rfl,rfl,SqT.of ha,i0,FF,DD,z,t,rfl,rfl,tab,ht,?_⟩
      have e:ordB (.str z::r)=(decide (r.length=fs.length) && (partsB r fs).all id):=by simp only [ordB,hd]
      rw [e] at q
      refine ⟨_,rfl,a,_,rfl,.inr (SqT.of ha),_,rfl,t,_,rfl,.inr (hsq H),_,_,rfl,rfl,rfl,_,rfl,?_⟩
      by_cases hl:r.length=fs.length
      ·refine iteFS (by show (!decide (V.int (((V.str z::r).length:Nat):Int)=V.int (1+((fs.map V.str).length:Int))))=false; rw [decide_eq_true (by rw [List.length_cons,List.length_map,hl]; congr 1; omega)]; rfl) ?_
       rw [decide_eq_true hl,Bool.true_and] at q
       obtain ⟨c1,c2⟩:=cut1 (.str z) r
       refine ⟨_,rfl,1,rfl,a,_,rfl,SqT.of ha,c2,λp hp=>?_⟩
       rw [c1]
       have s1:=same_new (o:=.tup r) hp
       have hp1:upd H p (.tup r) p=some (.tup r):=upd_same
       generalize upd H p (.tup r)=H1 at s1 hp1 ⊢
       refine ⟨_,rfl,p,t,_,_,rfl,SqT.of hp1,hsq H1,?_⟩
       refine comp_zip (K:=K) (a:=p) (b:=t) (xs:=r) (ys:=fs.map V.str) (by rw [List.length_map]; exact hl) (λD i zs H'=>H1 D=none/\Same H1 H'/\H' D=some (.lst zs)/\zs=((partsB r fs).take i).map V.bl) ?_ ?_ ?_ ?_
       ·intro D hD
        exact ⟨hD,same_new hD,upd_same,rfl⟩
       ·rintro D i zs H' _ ⟨_,s',e',_⟩
        exact ⟨SqT.of (s' _ _ hp1),hsq H',e'⟩
       ·rintro D i y f zs H' u hy1 hf1 ⟨hD,s',e',hz⟩ hu
        rw [List.getElem?_map] at hf1
        cases ef:fs[i]? with
        | none=>rw [ef] at hf1; cases hf1
        | some f0 =>
         rw [ef] at hf1
         have hf2:V.str f0=f:=Option.some.inj hf1
         subst hf2
         have su:=same_new (o:=.tup [y,.str f0]) hu
         refine ⟨_,rfl,_,rfl,f0,rfl,y,_,rfl,((tr y (List.mem_of_getElem? hy1)).same (s1.trans s')).same su,su _ _ e',?_,hD,?_,upd_same,?_⟩
         ·rw [hz,List.length_map]
          have:i<fs.length:=(List.getElem?_eq_some_iff.mp ef).1
          have h2:=fT_len hd
          exact Nat.lt_of_le_of_lt (by rw [List.length_take]; omega:_<=2) (by decide)
         ·exact Same.set (s'.trans su) hD
         ·rw [partsB_take r fs i y f0 hy1 ef,hz,List.map_append]
          rfl
       ·rintro D zs H' ⟨hD,s',e',hz⟩
        have hz':zs=(partsB r fs).map V.bl:=by rw [hz,List.take_of_length_le (by rw [partsB_len r fs hl]; exact Nat.le_refl _)]
        subst hz'
        exact ⟨D,_,rfl,e',q H' (s1.trans s')⟩
      ·refine iteTS (by show (!decide (V.int (((V.str z::r).length:Nat):Int)=V.int (1+((fs.map V.str).length:Int))))=true; rw [decide_eq_false (by intro y; have y':=V.int.inj y; rw [List.length_cons,List.length_map] at y'; omega)]; rfl) ?_
       rw [decide_eq_false hl,Bool.false_and] at q
       exact q H (Same.refl _)
theorem scCk:FnScope ["program","entry","number","row"] ["program","entry"] (defScope sChk):=FSc
theorem ok_chk {f f1 f2:Addr} {fd fd1 fd2:FuncData} (F:Fun K "checked" "checked" sChk f fd) (D1:Dn K mg "is_order" sOrder ["thing"] f1 fd1) (G1:FnOk P w K mg base CX0 3 f1 fd1 ["thing"] spOrder) (D2:Dn K mg "is_below" sBelow ["thing","bound"] f2 fd2) (G2:FnOk P w K mg base CX0 2 f2 fd2 ["thing","bound"] spBelow) (T:Txt K mg) (T2:Tx2 K mg):FnOk P w K mg base CX0 4 f fd ["program","entry"] spChk:=by
 obtain ⟨t1,m1⟩:=T2.ord
 obtain ⟨t2,m2⟩:=T2.ent
 refine F.ok scCk (λvs H Q E h'=>?_) (λcdv A outer s H vs Q E hr h'=>?_)
 ·obtain ⟨p,xs,e,rfl,_⟩:=h'
  rfl
 ·obtain ⟨p,xs,e,rfl,hp,l1,l2,ho,e0,e1,q⟩:=h'
  have hr2:Room 2 _:=hr.mono (by decide)
  refine ⟨_,(pss_cons (ps_if (PW.pt (pw_or (pt_not (pt_val (pe_callB call_islist (by rfl) T.isi PyProof.Rows.boot_isinstance (pa_cons (pv 0) (pa_cons (pe_bltn (by rfl) T.lst PyProof.Rows.boot_list (show RelV (.ty "list") (.type "list") from rfl)) pa_nil))))) (pw_or1 (pt_not (pt_chain op_le op_le pe_int (pe_callB call_len_seq (by rfl) T.len PySem.boot_len (pa_cons (pv 0) pa_nil)) (pe_glob (by rfl) m1 (show RelV (.int 60) (.int 60 t1) from ⟨_,rfl⟩))))))) (pss_one ps_never) pss_nil) (pss_cons (ps_for PassesOwn.never rfl (pi_enum (by rfl) T2.enu (pa_cons (pv 0) pa_nil)) (pg_tup rfl (pgs_cons (pg_name (i:=2) scCk.nd rfl (Or.inl rfl)) (pgs_cons (pg_name (i:=3) scCk.nd rfl (Or.inl rfl)) pgs_nil))) (pss_one (ps_if (pt_not (pt_val (pe_call G1 hr (by rfl) D1.m D1.F.kp D1.b .nil pass0 (pa_cons (pv 3) pa_nil)))) (pss_one ps_never) pss_nil))) (pss_one (ps_if (pt_not (pt_val (pe_call G2 hr2 (by rfl) D2.m D2.F.kp D2.b .nil pass0 (pa_cons (pv 1) (pa_cons (pe_glob (by rfl) m2 (show RelV (.int 61) (.int 61 t2) from ⟨_,rfl⟩)) pa_nil))))) (pss_one ps_never) pss_nil)))),?_⟩
  refine ⟨_,rfl,_,rfl,.lst hp,_,rfl,iteFS (by show (!isLst H (.ref p))=false; rw [isLst_of hp]; rfl) ?_⟩
  refine ⟨_,rfl,p,_,rfl,.inl (SqL.of hp),1,_,rfl,rfl,_,rfl,iteTS (decide_eq_true (by omega)) ⟨_,_,rfl,rfl,_,rfl,iteFS (by show (!decide ((xs.length:Int)<=60))=false; rw [decide_eq_true (by omega)]; rfl) ?_⟩⟩
  refine ⟨_,rfl,p,_,rfl,SqL.of hp,for_enum (K:=K) (a:=p) (xs:=xs) (λi σ H'=>Same H H'/\∃ v2 v3:Option V,σ=[some (.ref p),some (.int e),v2,v3]) ?_ ?_ ?_ ?_⟩
  ·exact ⟨Same.refl _,_,_,rfl⟩
  ·rintro i σ H' _ ⟨ss,_⟩
   exact SqL.of (ss _ _ hp)
  ·rintro i x σ H' t hi ⟨ss,v2,v3,rfl⟩ htn
   have st:=same_new (o:=.tup [V.int (i:Int),x]) htn
   refine ⟨t,_,rfl,SqT.of upd_same,rfl,_,_,rfl,_,_,rfl,rfl,?_⟩
   refine ⟨_,rfl,x,true,rfl,((ho x (List.mem_of_getElem? hi)).same ss).same st,λH2 s2=>⟨_,rfl,iteF ⟨(ss.trans st).trans s2,_,_,rfl⟩⟩⟩
  ·rintro σ H' ⟨ss,v2,v3,rfl⟩
   refine ⟨_,rfl,_,_,rfl,.int e,_,rfl,iteFS (by show (!below (.int e) 61)=false; rw [below_of e0 e1]; rfl) (q H' ss)⟩
end
end K32
end
section
namespace L2
open PySem PySem.Spec PyProof.Rows
structure FunD (K:PySem.W.Frag) (x qual:Str) (st:Stmt) (f:Addr) (fd:FuncData) (dV:Value):Prop where
 ex:∃ (oc:Value) (od:Option Addr) (kV doc pm:Value) (an:Option Addr) (cdv ct:Value) (osl:Array (Option Value)),
  fd=PySem.W.fnOf x qual (defArgs st) (defBody st) (defScope st) dV kV doc pm an cdv ct/\K.lookup f=some ⟨oc,od,.func fd,osl⟩/\PySem.W.codeIn K cdv qual=true
 kp:PySem.W.keepIn K (.ref f)=true
section
variable {P : Program} {w : World} {K : PySem.W.Frag} {mg : Str → Option Value} {base : Heap}
theorem FunD.ok {x qual:Str} {st:Stmt} {f:Addr} {fd:FuncData} {dV:Value} {N ps:List Str} {k:Nat} {sp:Sp} (F:FunD K x qual st f fd dV) (S:FnScope N ps (defScope st)) (len:∀ vs H Q E,sp vs H Q E->vs.length=ps.length)
  (hbody:∀ (cdv:Value) (A:Around) (outer:List Env) (s:Shared) (H:Hp) (vs:List V) (Q:VK) (E:XK),Room k (A.deeper (envOfC qual (defScope st) s.heap.objs.size f cdv))->sp vs H Q E ->
   ∃ t,PSs (cxOf CX0 P w K mg base N qual (defScope st) f cdv A outer s H E).nox (defBody st) t/\t { nx:=λ_ H'=>Q .non H',rt:=Q } (start N vs) H):FnOk P w K mg base CX0 (k+1) f fd ps sp:=by
 obtain ⟨oc,od,kV,doc,pm,an,cdv,ct,osl,rfl,lk,hcd⟩:=F.ex
 refine fn_of lk hcd S len λA outer s H vs Q E hr hsp=>?_
 obtain ⟨t,h,q⟩:=hbody cdv A outer s H vs Q E hr hsp
 exact ⟨t,h.nox,q⟩
theorem fun_mkD {x qual:Str} {st:Stmt} {f:Addr} {oc dV:Value} {od an:Option Addr} {osl:Array (Option Value)} {kV doc pm cdv ct:Value} (l:K.lookup f=some ⟨oc,od,.func (PySem.W.fnOf x qual (defArgs st) (defBody st) (defScope st) dV kV doc pm an cdv ct),osl⟩)
  (c:PySem.W.codeIn K cdv qual=true) (k:PySem.W.keepIn K (.ref f)=true):FunD K x qual st f (PySem.W.fnOf x qual (defArgs st) (defBody st) (defScope st) dV kV doc pm an cdv ct) dV:=⟨⟨oc,od,kV,doc,pm,an,cdv,ct,osl,rfl,l,c⟩,k⟩
theorem FunD.bindsD {x qual:Str} {st:Stmt} {f T:Addr} {fd:FuncData} {o:Obj} {items:Array Value} {n:Nat} {ps:List Str} {ds:List Value} {m:Nat} (hm:ps.length=m+ds.length) (F:FunD K x qual st f fd (.ref T)) (ho:K.lookup T=some o) (hs:o.data=.seq items n)
  (h:∀ (kV doc pm:Value) (an:Option Addr) (cdv ct:Value) (us:List Value),us.length=m->∃ k,bindArgs (PySem.W.fnOf x qual (defArgs st) (defBody st) (defScope st) (.ref T) kV doc pm an cdv ct) ⟨us,[]⟩=seqItems? (.ref T) >>= k/\k (some items)=pure (ps.zip (us++ds))):Binds K fd ps ds:=by
 obtain ⟨oc,od,kV,doc,pm,an,cdv,ct,osl,rfl,lk,hcd⟩:=F.ex
 intro s us X hl
 obtain ⟨k,h1,h2⟩:=h kV doc pm an cdv ct us (by rw [List.length_append] at hl; omega)
 exact PySem.W.binds_K X rfl ho hs h1 h2
end
end L2
end
section
namespace K32
open PySem L2
abbrev sNI:Stmt:=inClass (top 19) 0
abbrev sFst:Stmt:=top 62
abbrev sMInit:Stmt:=inClass (top 63) 0
abbrev sArr:Stmt:=inClass (top 63) 1
abbrev sMPrg:Stmt:=inClass (top 63) 9
abbrev sMEnt:Stmt:=inClass (top 63) 10
abbrev sBare:Stmt:=top 64
structure Mf (fs:List (Str×V)) (wy po rg sv hp:Addr) (gate ctr:Int) (kn hl:Bool):Prop where
 wys:fs.lookup ("ways":Str)=some (.ref wy)
 ord:fs.lookup ("orders":Str)=some (.ref po)
 gat:fs.lookup ("gate":Str)=some (.int gate)
 reg:fs.lookup ("registers":Str)=some (.ref rg)
 ker:fs.lookup ("kernel":Str)=some (.bl kn)
 sav:fs.lookup ("saved":Str)=some (.ref sv)
 hal:fs.lookup ("halted":Str)=some (.bl hl)
 hap:fs.lookup ("happened":Str)=some (.ref hp)
 ctr:fs.lookup ("counter":Str)=some (.int ctr)
 no:∀ n:Str,¬ n = "ways"->¬ n = "orders"->¬ n = "gate"->¬ n = "registers"->¬ n = "kernel"->¬ n = "saved"->¬ n = "halted"->¬ n = "happened"->¬ n = "counter"->fs.lookup n=none
 few:fs.length<=100
structure Mcc (K:PySem.W.Frag) (MC:Addr):Prop where
 cl:Cls K MC
 wys:NoAttr K MC "ways"
 ord:NoAttr K MC "orders"
 gat:NoAttr K MC "gate"
 reg:NoAttr K MC "registers"
 ker:NoAttr K MC "kernel"
 sav:NoAttr K MC "saved"
 hal:NoAttr K MC "halted"
 hap:NoAttr K MC "happened"
 ctr:NoAttr K MC "counter"
theorem Mf.setH {fs:List (Str×V)} {wy po rg sv hp:Addr} {gate ctr:Int} {kn hl:Bool} (m:Mf fs wy po rg sv hp gate ctr kn hl) (b:Bool):Mf (putF "halted" (.bl b) fs) wy po rg sv hp gate ctr kn b:=by
 refine ⟨?_,?_,?_,?_,?_,?_,?_,?_,?_,λn h1 h2 h3 h4 h5 h6 h7 h8 h9=>?_,?_⟩
 ·rw [lookup_putF,if_neg (by decide +kernel)]; exact m.wys
 ·rw [lookup_putF,if_neg (by decide +kernel)]; exact m.ord
 ·rw [lookup_putF,if_neg (by decide +kernel)]; exact m.gat
 ·rw [lookup_putF,if_neg (by decide +kernel)]; exact m.reg
 ·rw [lookup_putF,if_neg (by decide +kernel)]; exact m.ker
 ·rw [lookup_putF,if_neg (by decide +kernel)]; exact m.sav
 ·rw [lookup_putF,if_pos rfl]
 ·rw [lookup_putF,if_neg (by decide +kernel)]; exact m.hap
 ·rw [lookup_putF,if_neg (by decide +kernel)]; exact m.ctr
 ·rw [lookup_putF,if_neg h7]; exact m.no n h1 h2 h3 h4 h5 h6 h7 h8 h9
 ·rw [length_putF_of _ _ (by rw [m.hal]; rfl)]; exact m.few
theorem pa_consK {X:Cx} {e:Expr} {es:List Expr} {te:TE} {t:TA} (h1:PE X e te) (h2:PA X es t) (hs:∀ (l:List Expr) (env:Env),starEach (e::l) env=(false,eval e env)::starEach l env:=by intro _ _; rfl):PA X (e::es) (tCons te t):=pa_cons h1 h2 (hs es X.env)
theorem Mf.init {wy po rg sv hp:Addr} {gate:Int} (c:Int) (kn hl:Bool):Mf (putF "counter" (.int c) (putF "happened" (.ref hp) (putF "halted" (.bl hl) (putF "saved" (.ref sv) (putF "kernel" (.bl kn) (putF "registers" (.ref rg) (putF "gate" (.int gate) (putF "orders" (.ref po) (putF "ways" (.ref wy) []))))))))) wy po rg sv hp gate c kn hl:=by
 refine ⟨?_,?_,?_,?_,?_,?_,?_,?_,?_,λn h1 h2 h3 h4 h5 h6 h7 h8 h9=>?_,?_⟩
 ·iterate 8 rw [lookup_putF,if_neg (by decide +kernel)]
  rw [lookup_putF,if_pos rfl]
 ·iterate 7 rw [lookup_putF,if_neg (by decide +kernel)]
  rw [lookup_putF,if_pos rfl]
 ·iterate 6 rw [lookup_putF,if_neg (by decide +kernel)]
  rw [lookup_putF,if_pos rfl]
 ·iterate 5 rw [lookup_putF,if_neg (by decide +kernel)]
  rw [lookup_putF,if_pos rfl]
 ·iterate 4 rw [lookup_putF,if_neg (by decide +kernel)]
  rw [lookup_putF,if_pos rfl]
 ·iterate 3 rw [lookup_putF,if_neg (by decide +kernel)]
  rw [lookup_putF,if_pos rfl]
 ·iterate 2 rw [lookup_putF,if_neg (by decide +kernel)]
  rw [lookup_putF,if_pos rfl]
 ·rw [lookup_putF,if_neg (by decide +kernel)]
  rw [lookup_putF,if_pos rfl]
 ·rw [lookup_putF,if_pos rfl]
 ·rw [lookup_putF,if_neg h9,lookup_putF,if_neg h8,lookup_putF,if_neg h7,lookup_putF,if_neg h6,lookup_putF,if_neg h5,lookup_putF,if_neg h4,lookup_putF,if_neg h3,lookup_putF,if_neg h2,lookup_putF,if_neg h1]
  rfl
 ·have l1:=length_putF "ways" (.ref wy) ([]:List (Str×V))
  have l2:=length_putF "orders" (.ref po) (putF "ways" (.ref wy) [])
  have l3:=length_putF "gate" (.int gate) (putF "orders" (.ref po) (putF "ways" (.ref wy) []))
  have l4:=length_putF "registers" (.ref rg) (putF "gate" (.int gate) (putF "orders" (.ref po) (putF "ways" (.ref wy) [])))
  have l5:=length_putF "kernel" (.bl kn) (putF "registers" (.ref rg) (putF "gate" (.int gate) (putF "orders" (.ref po) (putF "ways" (.ref wy) []))))
  have l6:=length_putF "saved" (.ref sv) (putF "kernel" (.bl kn) (putF "registers" (.ref rg) (putF "gate" (.int gate) (putF "orders" (.ref po) (putF "ways" (.ref wy) [])))))
  have l7:=length_putF "halted" (.bl hl) (putF "saved" (.ref sv) (putF "kernel" (.bl kn) (putF "registers" (.ref rg) (putF "gate" (.int gate) (putF "orders" (.ref po) (putF "ways" (.ref wy) []))))))
  have l8:=length_putF "happened" (.ref hp) (putF "halted" (.bl hl) (putF "saved" (.ref sv) (putF "kernel" (.bl kn) (putF "registers" (.ref rg) (putF "gate" (.int gate) (putF "orders" (.ref po) (putF "ways" (.ref wy) [])))))))
  have l9:=length_putF "counter" (.int c) (putF "happened" (.ref hp) (putF "halted" (.bl hl) (putF "saved" (.ref sv) (putF "kernel" (.bl kn) (putF "registers" (.ref rg) (putF "gate" (.int gate) (putF "orders" (.ref po) (putF "ways" (.ref wy) []))))))))
  have l0:([]:List (Str×V)).length=0:=rfl
  omega
structure Grow (MC:Addr) (H H':Hp) (x dx:Addr) (fs:List (Str×V)) (n:Nat):Prop where
 z:H' x=some (.ins MC dx fs)
 k:∀ b o,b≠x->H b=some o->H' b=some o
 l:fs.length<=n
theorem Grow.put {MC:Addr} {H H':Hp} {x dx:Addr} {fs:List (Str×V)} {n:Nat} (g:Grow MC H H' x dx fs n) (f:Str) (v:V):Grow MC H (upd H' x (.ins MC dx (putF f v fs))) x dx (putF f v fs) (n+1) :=
 ⟨upd_same,λb o nb e=>by rw [upd_ne nb]; exact g.k b o nb e,Nat.le_trans (length_putF _ _ _) (Nat.succ_le_succ g.l)⟩
theorem Grow.same {MC:Addr} {H H' H2:Hp} {x dx:Addr} {fs:List (Str×V)} {n:Nat} (g:Grow MC H H' x dx fs n) (s:Same H' H2):Grow MC H H2 x dx fs n:=⟨s _ _ g.z,λb o nb e=>s _ _ (g.k b o nb e),g.l⟩
theorem Grow.new {MC:Addr} {H H':Hp} {x dx b:Addr} {fs:List (Str×V)} {n:Nat} (g:Grow MC H H' x dx fs n) (h:H' b=none):b≠x/\H b=none:=by
 have nb:b≠x:=λz=>by rw [z,g.z] at h; cases h
 refine ⟨nb,?_⟩
 cases e:H b with
 | none=>rfl
 | some o=>rw [g.k b o nb e] at h; cases h
inductive spArr0 (MC:Addr) (vs:List V) (H:Hp) (Q:VK) (E:XK):Prop
 | mk (mc dx wy po rg sv hp:Addr) (gate:Int) (c:Nat) (kn hl:Bool) (fs:List (Str×V)) (ys:List V) (_:vs=[.ref mc,.int (c:Int)]) (_:H mc=some (.ins MC dx fs)) (_:fs.length<=99) (_:Mf (putF "counter" (.int (c:Int)) fs) wy po rg sv hp gate (c:Int) kn hl) (_:H po=some (.lst ys)) (_:∀ H' fs',H' mc=some (.ins MC dx fs')->Mf fs' wy po rg sv hp gate (c:Int) kn (hl || decide (ys.length<=c))->(∀ b o,b≠mc->H b=some o->H' b=some o)->Q .non H'):spArr0 MC vs H Q E
def spFst:Sp:=λvs H Q _=>vs=[]/\∀ t l u H',Same H H'->H l=none->H' t=some (.tup [.ref l,.int 0,.bl true,.ref u,.bl false])->H' l=some (.lst (([0,0,0,0]:List Int).map V.int))->H' u=some (.tup [.int 0,.int 0,.int 0,.bl true])->Q (.ref t) H'
theorem FunD.okR {P:Program} {w:World} {K:PySem.W.Frag} {mg:Str->Option Value} {base:Heap} {x qual:Str} {st:Stmt} {f:Addr} {fd:FuncData} {dV:Value} {N ps:List Str} {k:Nat} {sp:Sp} (F:FunD K x qual st f fd dV) (S:FnScope N ps (defScope st)) (len:∀ vs H Q E,sp vs H Q E->vs.length=ps.length)
  (hbody:∀ (cdv:Value) (A:Around) (outer:List Env) (s:Shared) (H:Hp) (vs:List V) (Q:VK) (E:XK),Room k (A.deeper (PyProof.Rows.envOfC qual (defScope st) s.heap.objs.size f cdv))->sp vs H Q E ->
   ∃ t,PSs (cxR P w K mg base N qual (defScope st) f cdv A outer s H E) (defBody st) t/\t { nx:=λ_ H'=>Q .non H',rt:=Q } (start N vs) H):FnOk P w K mg base (CXr P w) (k+1) f fd ps sp:=by
 obtain ⟨oc,od,kV,doc,pm,an,cdv,ct,osl,rfl,lk,hcd⟩:=F.ex
 exact fn_of lk hcd S len λA outer s H vs Q E hr hsp=>hbody cdv A outer s H vs Q E hr hsp
structure Npg (K:PySem.W.Frag) (mg:Str->Option Value) (NR fI:Addr):Prop where
 x:XCls K NR
 np:NoAttr K NR "place"
 ex:excInI K NR fI=true
 fn:PySem.W.isFn K (.ref fI)=true
 m:mg "NoProgram"=some (.ref NR)
def ffP:List V->List (Str×V)
 | [x]=>[("place",x)]
 | _=>[]
inductive NoPg (H:Hp):V->V->V->Prop
 | kind {x e:V}:Th H x->Th H e->isLst H x=false->NoPg H x e .non
 | size {p:Addr} {xs:List V} {e:V}:H p=some (.lst xs)->(xs.length=0\/60<xs.length)->Th H e->NoPg H (.ref p) e .non
 | row {p:Addr} {xs:List V} {e:V} {k:Nat} {y:V}:H p=some (.lst xs)->xs.length<=60->xs[k]?=some y->(∀ i z,i<k->xs[i]?=some z->Ord H z true)->Ord H y false->Th H e->NoPg H (.ref p) e (.int (k:Int))
 | entry {p:Addr} {xs:List V} {e:V}:H p=some (.lst xs)->1<=xs.length->xs.length<=60->(∀ z ∈ xs,Ord H z true)->Th H e->below e 61=false->NoPg H (.ref p) e .non
theorem NoPg.same {H H':Hp} {x e v:V} (h:NoPg H x e v) (s:Same H H'):NoPg H' x e v:=by
 cases h with
 | kind a b c=>exact .kind (a.same s) (b.same s) (by rw [isLst_same a s]; exact c)
 | size a b c=>exact .size (s _ _ a) b (c.same s)
 | row a b c d e f=>exact .row (s _ _ a) b c (λi z hi hz=>(d i z hi hz).same s) (e.same s) (f.same s)
 | entry a b c d e f=>exact .entry (s _ _ a) b c (λz hz=>(d z hz).same s) (e.same s) f
def ExP (NR:Addr) (E:XK) (H:Hp) (v:V):Prop:=∀ d,H d=none->E (.ref NR) (some d) (upd H d (xdo d (ffP [v])))
def spChkN (NR:Addr):Sp:=λvs H _ E=>∃ x e v:V,vs=[x,e]/\NoPg H x e v/\∀ H',Same H H'->ExP NR E H' v
inductive spMInit (MC:Addr) (vs:List V) (H:Hp) (Q:VK) (E:XK):Prop
 | mk (x dx wy pl:Addr) (gate:Int) (ys:List V) (_:vs=[.ref x,.ref wy,.ref pl,.int gate,.non,.non]) (_:H x=some (.ins MC dx [])) (_:H pl=some (.lst ys)) (_:(∀ z ∈ ys,Ord H z true)) (_:1<=ys.length) (_:ys.length<=60) (_:0<=gate) (_:gate<61) (_:∀ (po rg sv hp:Addr) (fs:List (Str×V)) (c:Int) (kn hl:Bool) H',H' x=some (.ins MC dx fs)->Mf fs wy po rg sv hp gate c kn hl->H' po=some (.lst ys)->(∀ b o,b≠x->H b=some o->H' b=some o)->H po=none->po≠x->Q .non H'):spMInit MC vs H Q E
def spMInitB (MC NR:Addr):Sp:=λvs H _ E=>∃ (x dx:Addr) (wy y e v:V),vs=[.ref x,wy,y,e,.non,.non]/\H x=some (.ins MC dx [])/\NoPg H y e v/\∀ H',Same H H'->ExP NR E H' v
inductive spMPrg (MC:Addr) (vs:List V) (H:Hp) (Q:VK) (E:XK):Prop
 | mk (x dx wy po rg sv hp:Addr) (gate c:Int) (kn hl:Bool) (fs:List (Str×V)) (ys:List V) (_:vs=[.ref x]) (_:H x=some (.ins MC dx fs)) (_:Mf fs wy po rg sv hp gate c kn hl) (_:H po=some (.lst ys)) (_:∀ l H',Same H H'->H l=none->H' l=some (.lst ys)->Q (.ref l) H'):spMPrg MC vs H Q E
inductive spMEnt (MC:Addr) (vs:List V) (H:Hp) (Q:VK) (E:XK):Prop
 | mk (x dx wy po rg sv hp:Addr) (gate c:Int) (kn hl:Bool) (fs:List (Str×V)) (_:vs=[.ref x]) (_:H x=some (.ins MC dx fs)) (_:Mf fs wy po rg sv hp gate c kn hl) (_:Q (.int gate) H):spMEnt MC vs H Q E
def spBareI (NI:Addr):Sp:=λvs H _ E=>∃ x y z u v:V,vs=[x,y,z,u,v]/\BadI H x/\∀ H',Same H H'->E (.ref NI) none H'
def spBareS (NSh:Addr):Sp:=λvs H _ E=>∃ (p:Addr) (ps:Pgs) (y z u v:V),vs=[.ref p,y,z,u,v]/\Pg H p ps/\Good ps/\1<=ps.length/\ps.length<=24/\Th H y/\goodM y=false/\∀ H',Same H H'->E (.ref NSh) none H'
def spBareP (NR:Addr):Sp:=λvs H _ E=>∃ (p l:Addr) (ps:Pgs) (n:Int) (z u v:V) (bs:List Bool),vs=[.ref p,.int n,z,u,.ref l]/\Pg H p ps/\Good ps/\1<=ps.length/\ps.length<=24/\1<=n/\n<=12/\H l=some (.lst (bs.map V.bl))/\NoPg H z u v/\∀ H',Same H H'->ExP NR E H' v
def spBareN (NI NSh NR:Addr):Sp:=λvs H Q E=>spBareI NI vs H Q E\/(λvs H Q E=>spBareS NSh vs H Q E\/spBareP NR vs H Q E) vs H Q E
section
variable {P : Program} {w : World} {K : PySem.W.Frag} {mg : Str → Option Value} {base : Heap} {C NP NL NW NI SC PL WC FA MC NR NSh : Addr}
theorem scNI:FnScope ["self","place"] ["self","place"] (defScope sNI):=FSc
theorem ok_ninit {f fI:Addr} {fd:FuncData} (F:Fun K "__init__" "NoProgram.__init__" sNI f fd) (NP:Npg K mg NR fI):FnOk P w K mg base CX0 1 f fd ["self","place"] (spXI NR 1 ffP):=by
 refine F.ok scNI (λvs H Q E h'=>?_) (λcdv A outer s H vs Q E hr h'=>?_)
 ·obtain ⟨e,t,xs,rfl,hl,_⟩:=h'
  simp [hl]
 ·obtain ⟨e,t,xs,rfl,hl,he,q⟩:=h'
  match xs,hl,q with
  | [x],_,q =>
  refine ⟨_,pss_one (ps_xf0 (pv 0) (pv 1) rfl),?_⟩
  exact ⟨_,rfl,_,rfl,e,NR,t,rfl,he,NP.x,NP.np,λd H' d1 d2 d3 d4 d5=>q d H' d1 d2 d3 d4 d5⟩
theorem scCkN:FnScope ["program","entry","number","row"] ["program","entry"] (defScope sChk):=FSc
theorem ok_chkN {f f1 f2 fI:Addr} {fd fd1 fd2 fdI:FuncData} (F:Fun K "checked" "checked" sChk f fd) (D1:Dn K mg "is_order" sOrder ["thing"] f1 fd1) (G1:FnOk P w K mg base CX0 3 f1 fd1 ["thing"] spOrder) (D2:Dn K mg "is_below" sBelow ["thing","bound"] f2 fd2) (G2:FnOk P w K mg base CX0 2 f2 fd2 ["thing","bound"] spBelow) (NP:Npg K mg NR fI) (GN:FnOk P w K mg base CX0 1 fI fdI ["self","place"] (spXI NR 1 ffP)) (BN:Binds K fdI ["self","place"] []) (T:Txt K mg) (T2:Tx2 K mg):FnOk P w K mg base (CXr P w) 4 f fd ["program","entry"] (spChkN NR):=by
 obtain ⟨t1,m1⟩:=T2.ord
 obtain ⟨t2,m2⟩:=T2.ent
 refine F.okR scCkN (λvs H Q E h'=>?_) (λcdv A outer s H vs Q E hr h'=>?_)
 ·obtain ⟨x,e,v,rfl,_⟩:=h'
  rfl
 ·obtain ⟨x,e,v,rfl,bad,ke⟩:=h'
  have hr2:Room 2 _:=hr.mono (by decide)
  refine ⟨_,(pss_cons (ps_if (PW.pt (pw_or (pt_not (pt_val (pe_callB call_islist (by rfl) T.isi PyProof.Rows.boot_isinstance (pa_cons (pv 0) (pa_cons (pe_bltn (by rfl) T.lst PyProof.Rows.boot_list (show RelV (.ty "list") (.type "list") from rfl)) pa_nil))))) (pw_or1 (pt_not (pt_chain op_le op_le pe_int (pe_callB call_len_seq (by rfl) T.len PySem.boot_len (pa_cons (pv 0) pa_nil)) (pe_glob (by rfl) m1 (show RelV (.int 60) (.int 60 t1) from ⟨_,rfl⟩))))))) (pss_one (ps_raiseI NP.ex NP.fn NP.m raisesGR rfl GN hr2 BN (by decide) (pa_cons pe_non pa_nil))) pss_nil) (pss_cons (ps_for passesOwnR rfl (pi_enum (by rfl) T2.enu (pa_cons (pv 0) pa_nil)) (pg_tup rfl (pgs_cons (pg_name (i:=2) scCkN.nd rfl (Or.inl rfl)) (pgs_cons (pg_name (i:=3) scCkN.nd rfl (Or.inl rfl)) pgs_nil))) (pss_one (ps_if (pt_not (pt_val (pe_call G1 hr (by rfl) D1.m D1.F.kp D1.b .nil pass0 (pa_cons (pv 3) pa_nil)))) (pss_one (ps_raiseI NP.ex NP.fn NP.m raisesGR rfl GN hr2 BN (by decide) (pa_cons (pv 2) pa_nil))) pss_nil))) (pss_one (ps_if (pt_not (pt_val (pe_call G2 hr2 (by rfl) D2.m D2.F.kp D2.b .nil pass0 (pa_cons (pv 1) (pa_cons (pe_glob (by rfl) m2 (show RelV (.int 61) (.int 61 t2) from ⟨_,rfl⟩)) pa_nil))))) (pss_one (ps_raiseI NP.ex NP.fn NP.m raisesGR rfl GN hr2 BN (by decide) (pa_cons pe_non pa_nil))) pss_nil)))),?_⟩
  cases bad with
  | kind tx te hk =>
   exact ⟨_,rfl,_,rfl,tx,_,rfl,iteTS (by show (!isLst H x)=true; rw [hk]; rfl) (iteT ⟨rfl,λd hd=>ke H (Same.refl _) d hd⟩)⟩
  | @size p xs _ hp hl te =>
   refine ⟨_,rfl,_,rfl,.lst hp,_,rfl,iteFS (by show (!isLst H (.ref p))=false; rw [isLst_of hp]; rfl) ?_⟩
   rcases hl with hl | hl
   ·exact ⟨_,rfl,p,_,rfl,.inl (SqL.of hp),1,_,rfl,rfl,_,rfl,iteFS (decide_eq_false (by omega)) ⟨_,rfl,iteT ⟨rfl,λd hd=>ke H (Same.refl _) d hd⟩⟩⟩
   ·exact ⟨_,rfl,p,_,rfl,.inl (SqL.of hp),1,_,rfl,rfl,_,rfl,iteTS (decide_eq_true (by omega)) ⟨_,_,rfl,rfl,_,rfl,iteTS (by show (!decide ((xs.length:Int)<=60))=true; rw [decide_eq_false (by omega)]; rfl) ⟨rfl,λd hd=>ke H (Same.refl _) d hd⟩⟩⟩
  | @row p xs _ k y hp hl hk ht hf te =>
   have hkl:k<xs.length:=(List.getElem?_eq_some_iff.mp hk).1
   refine ⟨_,rfl,_,rfl,.lst hp,_,rfl,iteFS (by show (!isLst H (.ref p))=false; rw [isLst_of hp]; rfl) ?_⟩
   refine ⟨_,rfl,p,_,rfl,.inl (SqL.of hp),1,_,rfl,rfl,_,rfl,iteTS (decide_eq_true (by omega)) ⟨_,_,rfl,rfl,_,rfl,iteFS (by show (!decide ((xs.length:Int)<=60))=false; rw [decide_eq_true (by omega)]; rfl) ?_⟩⟩
   refine ⟨_,rfl,p,_,rfl,SqL.of hp,for_enum (K:=K) (a:=p) (xs:=xs) (λi σ H'=>Same H H'/\i<=k/\∃ v2 v3:Option V,σ=[some (.ref p),some e,v2,v3]) ?_ ?_ ?_ ?_⟩
   ·exact ⟨Same.refl _,Nat.zero_le _,_,_,rfl⟩
   ·rintro i σ H' _ ⟨ss,_⟩
    exact SqL.of (ss _ _ hp)
   ·rintro i x σ H' t hi ⟨ss,hik,v2,v3,rfl⟩ htn
    have st:=same_new (o:=.tup [V.int (i:Int),x]) htn
    refine ⟨t,_,rfl,SqT.of upd_same,rfl,_,_,rfl,_,_,rfl,rfl,?_⟩
    by_cases e1:i=k
    ·subst e1
     rw [hi] at hk
     cases hk
     exact ⟨_,rfl,_,false,rfl,(hf.same ss).same st,λH2 s2=>⟨_,rfl,iteT ⟨_,rfl,rfl,λd hd=>ke H2 ((ss.trans st).trans s2) d hd⟩⟩⟩
    ·exact ⟨_,rfl,x,true,rfl,((ht i x (by omega) hi).same ss).same st,λH2 s2=>⟨_,rfl,iteF ⟨(ss.trans st).trans s2,by omega,_,_,rfl⟩⟩⟩
   ·rintro σ H' ⟨ss,hik,v2,v3,rfl⟩
    exact absurd hik (by omega)
  | @entry p xs _ hp l1 l2 ho te hb =>
   refine ⟨_,rfl,_,rfl,.lst hp,_,rfl,iteFS (by show (!isLst H (.ref p))=false; rw [isLst_of hp]; rfl) ?_⟩
   refine ⟨_,rfl,p,_,rfl,.inl (SqL.of hp),1,_,rfl,rfl,_,rfl,iteTS (decide_eq_true (by omega)) ⟨_,_,rfl,rfl,_,rfl,iteFS (by show (!decide ((xs.length:Int)<=60))=false; rw [decide_eq_true (by omega)]; rfl) ?_⟩⟩
   refine ⟨_,rfl,p,_,rfl,SqL.of hp,for_enum (K:=K) (a:=p) (xs:=xs) (λi σ H'=>Same H H'/\∃ v2 v3:Option V,σ=[some (.ref p),some e,v2,v3]) ?_ ?_ ?_ ?_⟩
   ·exact ⟨Same.refl _,_,_,rfl⟩
   ·rintro i σ H' _ ⟨ss,_⟩
    exact SqL.of (ss _ _ hp)
   ·rintro i x σ H' t hi ⟨ss,v2,v3,rfl⟩ htn
    have st:=same_new (o:=.tup [V.int (i:Int),x]) htn
    refine ⟨t,_,rfl,SqT.of upd_same,rfl,_,_,rfl,_,_,rfl,rfl,?_⟩
    exact ⟨_,rfl,x,true,rfl,((ho x (List.mem_of_getElem? hi)).same ss).same st,λH2 s2=>⟨_,rfl,iteF ⟨(ss.trans st).trans s2,_,_,rfl⟩⟩⟩
   ·rintro σ H' ⟨ss,v2,v3,rfl⟩
    exact ⟨_,rfl,_,_,rfl,te.same ss,_,rfl,iteTS (by show (!below e 61)=true; rw [hb]; rfl) ⟨rfl,λd hd=>ke H' ss d hd⟩⟩
theorem scArr:FnScope ["self","counter"] ["self","counter"] (defScope sArr):=FSc
theorem scFst:FnScope [] [] (defScope sFst):=FSc
theorem ok_fst {f:Addr} {fd:FuncData} (F:Fun K "first_core" "first_core" sFst f fd) (T2:Tx2 K mg):FnOk P w K mg base CX0 1 f fd [] spFst:=by
 obtain ⟨t1,m1⟩:=T2.reg
 refine F.ok scFst (λvs H Q E h'=>?_) (λcdv A outer s H vs Q E hr h'=>?_)
 ·obtain ⟨rfl,_⟩:=h'
  rfl
 ·obtain ⟨rfl,q⟩:=h'
  refine ⟨_,(pss_one (ps_ret (pe_tup (pa_consK (pe_op op_rep (pe_lst (pa_cons pe_int pa_nil)) (pe_glob (by rfl) m1 (show RelV (.int 4) (.int 4 t1) from ⟨_,rfl⟩))) (pa_consK pe_int (pa_consK pe_bl (pa_consK (pe_tup (pa_consK pe_int (pa_consK pe_int (pa_consK pe_int (pa_consK pe_bl pa_nil))))) (pa_consK pe_bl pa_nil)))))))),?_⟩
  refine ⟨by show 1<=sizeLine; decide,λl0 hl0=>⟨l0,4,_,rfl,rfl,upd_same,by decide,by decide,(by show 1 * (4:Nat)<=sizeLine; decide),λp hp=>?_⟩⟩
  have u1:=same_new (o:=.lst [V.int 0]) hl0
  have u2:=same_new (o:=.lst (List.replicate (4:Int).toNat [V.int 0]).flatten) hp
  have zp:upd (upd H l0 (.lst [V.int 0])) p (.lst (List.replicate (4:Int).toNat [V.int 0]).flatten) p=some (.lst (([0,0,0,0]:List Int).map V.int)):=upd_same.trans rfl
  have us:=u1.trans u2
  have p5:H p=none:=u1.free hp
  generalize upd (upd H l0 (.lst [V.int 0])) p (.lst (List.replicate (4:Int).toNat [V.int 0]).flatten)=H1 at *
  refine ⟨by show 4<=sizeLine; decide,λu hu=>?_⟩
  have s3:=same_new (o:=.tup [.int 0,.int 0,.int 0,.bl true]) hu
  have zu:upd H1 u (.tup [.int 0,.int 0,.int 0,.bl true]) u=some (.tup [.int 0,.int 0,.int 0,.bl true]):=upd_same
  generalize upd H1 u (.tup [.int 0,.int 0,.int 0,.bl true])=H2 at *
  refine ⟨by show 5<=sizeLine; decide,λt ht=>?_⟩
  have s4:=same_new (o:=.tup [.ref p,.int 0,.bl true,.ref u,.bl false]) ht
  exact q t p u _ (us.trans (s3.trans s4)) p5 upd_same (s4 _ _ (s3 _ _ zp)) (s4 _ _ zu)
theorem ok_arr0 {f:Addr} {fd:FuncData} (F:Fun K "arrive" "Machine.arrive" sArr f fd) (MK:Mcc K MC) (T:Txt K mg):FnOk P w K mg base CX0 1 f fd ["self","counter"] (spArr0 MC):=by
 refine F.ok scArr (λvs H Q E h'=>?_) (λcdv A outer s H vs Q E hr h'=>?_)
 ·obtain ⟨mc,dx,wy,po,rg,sv,hp,gate,c,kn,hl,fs,ys,rfl,_⟩:=h'
  rfl
 ·obtain ⟨mc,dx,wy,po,rg,sv,hp,gate,c,kn,hl,fs,ys,rfl,hm,lf,mf2,ey,q⟩:=h'
  refine ⟨_,(pss_cons (ps_fld (pv 0) (pv 1) rfl) (pss_one (ps_if (pt_cmpR op_ge (pv 1) (pe_callB call_len_seq (by rfl) T.len PySem.boot_len (pa_cons (pe_fld (pv 0) rfl) pa_nil)) (nomark _)) (pss_one (ps_fld (pv 0) pe_bl rfl)) pss_nil))),?_⟩
  refine ⟨_,rfl,_,rfl,mc,MC,dx,fs,rfl,hm,MK.cl,MK.ctr,(by omega),?_⟩
  have k2:∀ b o,b≠mc->H b=some o->upd H mc (.ins MC dx (putF "counter" (.int (c:Int)) fs)) b=some o:=λb o n e=>by rw [upd_ne n]; exact e
  have z2:upd H mc (.ins MC dx (putF "counter" (.int (c:Int)) fs)) mc=some (.ins MC dx (putF "counter" (.int (c:Int)) fs)):=upd_same
  generalize upd H mc (.ins MC dx (putF "counter" (.int (c:Int)) fs))=H2 at *
  have ey2:=k2 po _ (ne_of ey hm (by intro z; cases z)) ey
  refine ⟨_,rfl,_,rfl,mc,MC,dx,_,_,rfl,z2,MK.cl,MK.ord,mf2.ord,po,_,rfl,.inl (SqL.of ey2),_,_,rfl,rfl,_,rfl,ite2 (λz=>?_) (λz=>?_)⟩
  ·have z':ys.length<=c:=by have:=of_decide_eq_true z; omega
   refine ⟨_,rfl,mc,MC,dx,_,rfl,z2,MK.cl,MK.hal,(by have:=mf2.few; omega),?_⟩
   rw [decide_eq_true z',Bool.or_true] at q
   exact q _ _ upd_same (mf2.setH true) (λb o n e=>by rw [upd_ne n]; exact k2 b o n e)
  ·have z':¬ ys.length<=c:=λh=>z (decide_eq_true (by show ((ys.length:Nat):Int)<=(c:Int); omega))
   rw [decide_eq_false z',Bool.or_false] at q
   exact q H2 _ z2 mf2 k2
theorem scMI:FnScope ["self","ways","program","entry","core","events","begun"] ["self","ways","program","entry","core","events"] (defScope sMInit):=FSc
theorem ok_minit {f f1 f2 f3:Addr} {fd fd1 fd2 fd3:FuncData} {dV:Value} (F:FunD K "__init__" "Machine.__init__" sMInit f fd dV) (D1:Dn K mg "checked" sChk ["program","entry"] f1 fd1) (G1:FnOk P w K mg base CX0 4 f1 fd1 ["program","entry"] spChk) (D2:Dn K mg "first_core" sFst [] f2 fd2) (G2:FnOk P w K mg base CX0 1 f2 fd2 [] spFst) (M1:Me K MC "arrive" "Machine.arrive" sArr ["self","counter"] f3 fd3) (GM1:FnOk P w K mg base CX0 1 f3 fd3 ["self","counter"] (spArr0 MC)) (MK:Mcc K MC) (T:Txt K mg):FnOk P w K mg base CX0 5 f fd ["self","ways","program","entry","core","events"] (spMInit MC):=by
 refine F.ok scMI (λvs H Q E h'=>?_) (λcdv A outer s H vs Q E hr h'=>?_)
 ·obtain ⟨x,dx,wy,pl,gate,ys,rfl,_⟩:=h'
  rfl
 ·obtain ⟨x,dx,wy,pl,gate,ys,rfl,hx,hp0,ok,l1,l2,e0,e1,q⟩:=h'
  have hr1:Room 1 _:=hr.mono (by decide)
  refine ⟨_,(pss_cons (ps_expr (pe_call G1 hr (by rfl) D1.m D1.F.kp D1.b .nil pass0 (pa_cons (pv 2) (pa_cons (pv 3) pa_nil)))) (pss_cons (ps_fld (pv 0) (pv 1) rfl) (pss_cons (ps_fld (pv 0) (pe_callTy call_list_of (by rfl) T.lst PyProof.Rows.boot_list (pa_cons (pv 2) pa_nil)) rfl) (pss_cons (ps_fld (pv 0) (pv 3) rfl) (pss_cons (ps_set (i:=6) scMI.nd rfl (Or.inl rfl) (pe_ifExp (pt_cmpR op_isN (pv 4) pe_non (nomark _)) (pe_call0 G2 hr1 (by rfl) D2.m D2.F.kp D2.b .nil pass0) (pv 4))) (pss_cons (ps_fld (pv 0) (pe_callTy call_list_of (by rfl) T.lst PyProof.Rows.boot_list (pa_cons (pe_ix ix_tup (pv 6) pe_int (λ_ _=>rfl)) pa_nil)) rfl) (pss_cons (ps_fld (pv 0) (pe_ix ix_tup (pv 6) pe_int (λ_ _=>rfl)) rfl) (pss_cons (ps_fld (pv 0) (pe_ix ix_tup (pv 6) pe_int (λ_ _=>rfl)) rfl) (pss_cons (ps_fld (pv 0) (pe_ix ix_tup (pv 6) pe_int (λ_ _=>rfl)) rfl) (pss_cons (ps_fld (pv 0) (pe_ifExp (pt_cmpR op_isN (pv 5) pe_non (nomark _)) (pe_lst pa_nil) (pe_callTy call_list_of (by rfl) T.lst PyProof.Rows.boot_list (pa_cons (pv 5) pa_nil))) rfl) (pss_one (ps_expr (pe_meth (pv 0) MK.cl M1.m GM1 hr1 M1.b .nil pass0 (pa_cons (pe_ix ix_tup (pv 6) pe_int (λ_ _=>rfl)) pa_nil)))))))))))))),?_⟩
  refine ⟨_,rfl,_,rfl,pl,ys,gate,rfl,hp0,by omega,by omega,ok,e0,e1,λH0 s0=>?_⟩
  have g0:Grow MC H H0 x dx [] 0:=⟨s0 _ _ hx,λb o _ e=>s0 _ _ e,Nat.zero_le _⟩
  refine ⟨_,rfl,_,rfl,x,MC,dx,_,rfl,g0.z,MK.cl,MK.wys,(by have:=g0.l; omega),?_⟩
  have g1:=g0.put "ways" (.ref wy)
  generalize upd H0 x _=H1 at *
  have np:pl≠x:=ne_of hp0 hx (by intro z; cases z)
  refine ⟨_,rfl,pl,_,rfl,.inl (SqL.of (g1.k _ _ np hp0)),λpo hpo=>?_⟩
  have g2:=g1.same (same_new (o:=.lst ys) hpo)
  have z2:upd H1 po (.lst ys) po=some (.lst ys):=upd_same
  obtain ⟨npo,fpo⟩:=g1.new hpo
  generalize upd H1 po (.lst ys)=H2 at *
  refine ⟨_,rfl,x,MC,dx,_,rfl,g2.z,MK.cl,MK.ord,(by have:=g2.l; omega),?_⟩
  have g3:=g2.put "orders" (.ref po)
  have z3:=(upd_ne (o:=.ins MC dx (putF "orders" (.ref po) (putF "ways" (.ref wy) []))) npo:upd H2 x _ po=H2 po).trans z2
  generalize upd H2 x _=H3 at *
  refine ⟨_,rfl,_,rfl,x,MC,dx,_,rfl,g3.z,MK.cl,MK.gat,(by have:=g3.l; omega),?_⟩
  have g4:=g3.put "gate" (.int gate)
  have z4:=(upd_ne (o:=.ins MC dx (putF "gate" (.int gate) (putF "orders" (.ref po) (putF "ways" (.ref wy) [])))) npo:upd H3 x _ po=H3 po).trans z3
  generalize upd H3 x _=H4 at *
  refine ⟨_,rfl,rfl,_,rfl,iteT ⟨rfl,λbt l u H5 s5 fl eb el eu=>?_⟩⟩
  have g5:=g4.same s5
  have z5:=s5 _ _ z4
  obtain ⟨nl,hl0⟩:=g4.new fl
  have nb:bt≠x:=ne_of eb g5.z (by intro z; cases z)
  have nu:u≠x:=ne_of eu g5.z (by intro z; cases z)
  refine ⟨_,rfl,bt,_,_,.ref l,rfl,rfl,SqT.of eb,rfl,l,_,rfl,.inl (SqL.of el),λrg hrg=>?_⟩
  have s6:=same_new (o:=.lst (([0,0,0,0]:List Int).map V.int)) hrg
  have g6:=g5.same s6
  have r6:upd H5 rg (.lst (([0,0,0,0]:List Int).map V.int)) rg=some (.lst (([0,0,0,0]:List Int).map V.int)):=upd_same
  obtain ⟨nrg,frg⟩:=g5.new hrg
  have nrp:rg≠po:=(ne_of_none z5 hrg).symm
  have z6:=s6 _ _ z5
  have eb6:=s6 _ _ eb
  have eu6:=s6 _ _ eu
  generalize upd H5 rg (.lst (([0,0,0,0]:List Int).map V.int))=H6 at *
  refine ⟨_,rfl,x,MC,dx,_,rfl,g6.z,MK.cl,MK.reg,(by have:=g6.l; omega),?_⟩
  have g7:=g6.put "registers" (.ref rg)
  have k7:∀ b o,b≠x->H6 b=some o->upd H6 x (.ins MC dx (putF "registers" (.ref rg) (putF "gate" (.int gate) (putF "orders" (.ref po) (putF "ways" (.ref wy) []))))) b=some o:=λb o n e=>by rw [upd_ne n]; exact e
  generalize upd H6 x _=H7 at *
  refine ⟨_,rfl,bt,_,_,.bl true,rfl,rfl,SqT.of (k7 _ _ nb eb6),rfl,_,rfl,x,MC,dx,_,rfl,g7.z,MK.cl,MK.ker,(by have:=g7.l; omega),?_⟩
  have g8:=g7.put "kernel" (.bl true)
  have k8:∀ b o,b≠x->H6 b=some o->upd H7 x (.ins MC dx (putF "kernel" (.bl true) (putF "registers" (.ref rg) (putF "gate" (.int gate) (putF "orders" (.ref po) (putF "ways" (.ref wy) [])))))) b=some o:=λb o n e=>by rw [upd_ne n]; exact k7 b o n e
  generalize upd H7 x _=H8 at *
  refine ⟨_,rfl,bt,_,_,.ref u,rfl,rfl,SqT.of (k8 _ _ nb eb6),rfl,_,rfl,x,MC,dx,_,rfl,g8.z,MK.cl,MK.sav,(by have:=g8.l; omega),?_⟩
  have g9:=g8.put "saved" (.ref u)
  have k9:∀ b o,b≠x->H6 b=some o->upd H8 x (.ins MC dx (putF "saved" (.ref u) (putF "kernel" (.bl true) (putF "registers" (.ref rg) (putF "gate" (.int gate) (putF "orders" (.ref po) (putF "ways" (.ref wy) []))))))) b=some o:=λb o n e=>by rw [upd_ne n]; exact k8 b o n e
  generalize upd H8 x _=H9 at *
  refine ⟨_,rfl,bt,_,_,.bl false,rfl,rfl,SqT.of (k9 _ _ nb eb6),rfl,_,rfl,x,MC,dx,_,rfl,g9.z,MK.cl,MK.hal,(by have:=g9.l; omega),?_⟩
  have ga:=g9.put "halted" (.bl false)
  have ka:∀ b o,b≠x->H6 b=some o->upd H9 x (.ins MC dx (putF "halted" (.bl false) (putF "saved" (.ref u) (putF "kernel" (.bl true) (putF "registers" (.ref rg) (putF "gate" (.int gate) (putF "orders" (.ref po) (putF "ways" (.ref wy) [])))))))) b=some o:=λb o n e=>by rw [upd_ne n]; exact k9 b o n e
  generalize upd H9 x _=Ha at *
  refine ⟨_,rfl,rfl,_,rfl,iteT ⟨by show 0<=sizeLine; decide,λhp hhp=>?_⟩⟩
  have sb:=same_new (o:=.lst ([]:List V)) hhp
  have gb:=ga.same sb
  have zb:upd Ha hp (.lst ([]:List V)) hp=some (.lst []):=upd_same
  obtain ⟨nhp,fhp⟩:=ga.new hhp
  have nhpo:hp≠po:=(ne_of_none (ka _ _ npo z6) hhp).symm
  have nhrg:rg≠hp:=ne_of_none (ka _ _ nrg r6) hhp
  have kb:∀ b o,b≠x->H6 b=some o->upd Ha hp (.lst ([]:List V)) b=some o:=λb o n e=>sb _ _ (ka b o n e)
  generalize upd Ha hp (.lst ([]:List V))=Hb at *
  refine ⟨_,rfl,x,MC,dx,_,rfl,gb.z,MK.cl,MK.hap,(by have:=gb.l; omega),?_⟩
  have gc:=gb.put "happened" (.ref hp)
  have kc:∀ b o,b≠x->Hb b=some o->upd Hb x (.ins MC dx (putF "happened" (.ref hp) (putF "halted" (.bl false) (putF "saved" (.ref u) (putF "kernel" (.bl true) (putF "registers" (.ref rg) (putF "gate" (.int gate) (putF "orders" (.ref po) (putF "ways" (.ref wy) []))))))))) b=some o:=λb o n e=>by rw [upd_ne n]; exact e
  generalize upd Hb x _=Hc at *
  have mf:=Mf.init (wy:=wy) (po:=po) (rg:=rg) (sv:=u) (hp:=hp) (gate:=gate) 0 true false
  refine ⟨_,rfl,x,dx,_,rfl,gc.z,?_,_,rfl,bt,_,_,.int 0,rfl,rfl,SqT.of (kc _ _ nb (kb _ _ nb eb6)),rfl,x,dx,wy,po,rg,u,hp,gate,0,true,false,_,ys,rfl,gc.z,(by have:=gc.l; omega),mf,kc _ _ npo (kb _ _ npo z6),λH' fs' hm mf' k'=>?_⟩
  ·iterate 8 rw [lookup_putF,if_neg (by decide +kernel)]
   rfl
  rw [decide_eq_false (show ¬ ys.length<=0 by omega)] at mf'
  have K1:∀ b o,b≠x->H6 b=some o->H' b=some o:=λb o n e=>k' b o n (kc b o n (kb b o n e))
  have K0:∀ b o,b≠x->H b=some o->H' b=some o:=λb o n e=>k' b o n (gc.k b o n e)
  exact q po rg u hp fs' 0 true false H' hm mf' (K1 _ _ npo z6) K0 fpo npo
theorem ok_minitB {f f1:Addr} {fd fd1:FuncData} {dV:Value} (F:FunD K "__init__" "Machine.__init__" sMInit f fd dV) (D1:Dn K mg "checked" sChk ["program","entry"] f1 fd1) (G1:FnOk P w K mg base (CXr P w) 4 f1 fd1 ["program","entry"] (spChkN NR)):FnOk P w K mg base (CXr P w) 5 f fd ["self","ways","program","entry","core","events"] (spMInitB MC NR):=by
 refine FunD.okR F scMI (λvs H Q E h'=>?_) (λcdv A outer s H vs Q E hr h'=>?_)
 ·obtain ⟨x,dx,wy,y,e,v,rfl,_⟩:=h'
  rfl
 ·obtain ⟨x,dx,wy,y,e,v,rfl,hx,bad,ke⟩:=h'
  refine ⟨_,pss_cons (ps_expr (pe_call G1 hr (by rfl) D1.m D1.F.kp D1.b .nil passR (pa_cons (pv 2) (pa_cons (pv 3) pa_nil)))) pss_never,?_⟩
  exact ⟨_,rfl,_,rfl,y,e,v,rfl,bad,ke⟩
theorem sc_mprg:FnScope ["self"] ["self"] (defScope sMPrg):=FSc
theorem ok_mprg {f:Addr} {fd:FuncData} (F:Fun K "program" "Machine.program" sMPrg f fd) (MK:Mcc K MC) (T:Txt K mg):FnOk P w K mg base CX0 1 f fd ["self"] (spMPrg MC):=by
 refine F.ok sc_mprg (λvs H Q E h'=>?_) (λcdv A outer s H vs Q E hr h'=>?_)
 ·obtain ⟨x,dx,wy,po,rg,sv,hp,gate,c,kn,hl,fs,ys,rfl,_⟩:=h'
  rfl
 ·obtain ⟨x,dx,wy,po,rg,sv,hp,gate,c,kn,hl,fs,ys,rfl,hx,mf,hpo,q⟩:=h'
  refine ⟨_,(pss_one (ps_ret (pe_callTy call_list_of (by rfl) T.lst PyProof.Rows.boot_list (pa_cons (pe_fld (pv 0) rfl) pa_nil)))),?_⟩
  exact ⟨_,rfl,x,MC,dx,_,_,rfl,hx,MK.cl,MK.ord,mf.ord,po,_,rfl,.inl (SqL.of hpo),λl hl=>q l _ (same_new hl) hl upd_same⟩
theorem sc_ment:FnScope ["self"] ["self"] (defScope sMEnt):=FSc
theorem ok_ment {f:Addr} {fd:FuncData} (F:Fun K "entry" "Machine.entry" sMEnt f fd) (MK:Mcc K MC) (T:Txt K mg):FnOk P w K mg base CX0 1 f fd ["self"] (spMEnt MC):=by
 refine F.ok sc_ment (λvs H Q E h'=>?_) (λcdv A outer s H vs Q E hr h'=>?_)
 ·obtain ⟨x,dx,wy,po,rg,sv,hp,gate,c,kn,hl,fs,rfl,_⟩:=h'
  rfl
 ·obtain ⟨x,dx,wy,po,rg,sv,hp,gate,c,kn,hl,fs,rfl,hx,mf,q⟩:=h'
  refine ⟨_,(pss_one (ps_ret (pe_fld (pv 0) rfl))),?_⟩
  exact ⟨_,rfl,x,MC,dx,_,_,rfl,hx,MK.cl,MK.gat,mf.gat,q⟩
theorem scBa:FnScope ["pages","most","program","entry","words"] ["pages","most","program","entry","words"] (defScope sBare):=FSc
theorem ok_bareI {f f1 f2:Addr} {fd fd1 fd2:FuncData} (F:Fun K "bare" "bare" sBare f fd) (MP:Mk K PL f1) (mP:mg "Plain"=some (.ref PL)) (BP:Binds K fd1 ["self","pages","most","words"] []) (GP:FnOk P w K mg base (CXr P w) 8 f1 fd1 ["self","pages","most","words"] (spPInitI PL NI)) (MM:Mk K MC f2) (mM:mg "Machine"=some (.ref MC)) (BM:Binds K fd2 ["self","ways","program","entry","core","events"] [.none,.none]) (GI:FnOk P w K mg base CX0 5 f2 fd2 ["self","ways","program","entry","core","events"] (spMInit MC)):FnOk P w K mg base (CXr P w) 10 f fd ["pages","most","program","entry","words"] (spBareI NI):=by
 refine F.okR scBa (λvs H Q E h'=>?_) (λcdv A0 outer s H vs Q E hr8 h'=>?_)
 ·obtain ⟨x,y,z,u,v,rfl,_⟩:=h'
  rfl
 ·obtain ⟨x,y,z,u,v,rfl,bad,ke⟩:=h'
  have hr6:Room 6 _:=hr8.mono (by decide)
  refine ⟨_,pss_one (ps_ret (pe_make MM GI hr6 (by rfl) mM BM (show Vals [V.non,V.non] [Value.none,Value.none] from .cons rfl (.cons rfl .nil)) pass0 (pa_cons (pe_make MP GP hr8 (by rfl) mP BP .nil passR (pa_cons (pv 0) (pa_cons (pv 1) (pa_cons (pv 4) pa_nil)))) (pa_cons (pv 2) (pa_cons (pv 3) pa_nil))))),?_⟩
  refine ⟨_,rfl,_,rfl,_,rfl,λwy dw hw hdw nw=>?_⟩
  have s0:Same H (upd (upd H dw (.own wy)) wy (.ins PL dw [])):=(same_new hdw).trans (same_new (by rw [upd_ne nw.symm]; exact hw))
  exact ⟨wy,dw,x,y,v,rfl,upd_same,bad.same s0,λH1 s1=>ke H1 (s0.trans s1)⟩
theorem ok_bareS {f f1 f2:Addr} {fd fd1 fd2:FuncData} (F:Fun K "bare" "bare" sBare f fd) (MP:Mk K PL f1) (mP:mg "Plain"=some (.ref PL)) (BP:Binds K fd1 ["self","pages","most","words"] []) (GP:FnOk P w K mg base (CXr P w) 8 f1 fd1 ["self","pages","most","words"] (spPInitS PL NSh)) (MM:Mk K MC f2) (mM:mg "Machine"=some (.ref MC)) (BM:Binds K fd2 ["self","ways","program","entry","core","events"] [.none,.none]) (GI:FnOk P w K mg base CX0 5 f2 fd2 ["self","ways","program","entry","core","events"] (spMInit MC)):FnOk P w K mg base (CXr P w) 10 f fd ["pages","most","program","entry","words"] (spBareS NSh):=by
 refine F.okR scBa (λvs H Q E h'=>?_) (λcdv A0 outer s H vs Q E hr8 h'=>?_)
 ·obtain ⟨p,ps,y,z,u,v,rfl,_⟩:=h'
  rfl
 ·obtain ⟨p,ps,y,z,u,v,rfl,gp,hg,l1,l2,th,bad,ke⟩:=h'
  have hr6:Room 6 _:=hr8.mono (by decide)
  refine ⟨_,pss_one (ps_ret (pe_make MM GI hr6 (by rfl) mM BM (show Vals [V.non,V.non] [Value.none,Value.none] from .cons rfl (.cons rfl .nil)) pass0 (pa_cons (pe_make MP GP hr8 (by rfl) mP BP .nil passR (pa_cons (pv 0) (pa_cons (pv 1) (pa_cons (pv 4) pa_nil)))) (pa_cons (pv 2) (pa_cons (pv 3) pa_nil))))),?_⟩
  refine ⟨_,rfl,_,rfl,_,rfl,λwy dw hw hdw nw=>?_⟩
  have s0:Same H (upd (upd H dw (.own wy)) wy (.ins PL dw [])):=(same_new hdw).trans (same_new (by rw [upd_ne nw.symm]; exact hw))
  exact ⟨wy,dw,p,ps,y,v,rfl,upd_same,gp.same s0,hg,l1,l2,th.same s0,bad,λH1 b1=>ke H1 λb o e=>b1 b o (ne_of_none e hw) (s0 _ _ e)⟩
theorem ok_bareP {f f1 f2:Addr} {fd fd1 fd2:FuncData} (F:Fun K "bare" "bare" sBare f fd) (MP:Mk K PL f1) (mP:mg "Plain"=some (.ref PL)) (BP:Binds K fd1 ["self","pages","most","words"] []) (GP:FnOk P w K mg base CX0 8 f1 fd1 ["self","pages","most","words"] (spPInit C SC PL)) (MM:Mk K MC f2) (mM:mg "Machine"=some (.ref MC)) (BM:Binds K fd2 ["self","ways","program","entry","core","events"] [.none,.none]) (GI:FnOk P w K mg base (CXr P w) 5 f2 fd2 ["self","ways","program","entry","core","events"] (spMInitB MC NR)):FnOk P w K mg base (CXr P w) 10 f fd ["pages","most","program","entry","words"] (spBareP NR):=by
 refine F.okR scBa (λvs H Q E h'=>?_) (λcdv A0 outer s H vs Q E hr8 h'=>?_)
 ·obtain ⟨p,l,ps,n,z,u,v,bs,rfl,_⟩:=h'
  rfl
 ·obtain ⟨p,l,ps,n,z,u,v,bs,rfl,gp,hg,l1,l2,n1,n2,hl,bad,ke⟩:=h'
  have hr6:Room 6 _:=hr8.mono (by decide)
  refine ⟨_,pss_one (ps_ret (pe_make MM GI hr6 (by rfl) mM BM (show Vals [V.non,V.non] [Value.none,Value.none] from .cons rfl (.cons rfl .nil)) passR (pa_cons (pe_make MP GP hr8 (by rfl) mP BP .nil pass0 (pa_cons (pv 0) (pa_cons (pv 1) (pa_cons (pv 4) pa_nil)))) (pa_cons (pv 2) (pa_cons (pv 3) pa_nil))))),?_⟩
  refine ⟨_,rfl,_,rfl,_,rfl,λwy dw hw hdw nw=>?_⟩
  have s0:Same H (upd (upd H dw (.own wy)) wy (.ins PL dw [])):=(same_new hdw).trans (same_new (by rw [upd_ne nw.symm]; exact hw))
  refine ⟨wy,dw,p,l,ps,n,bs,rfl,upd_same,gp.same s0,hg,l1,l2,n1,n2,s0 _ _ hl,λm h r q aw H2 qs b2 W2 c2 f2=>⟨rfl,?_⟩⟩
  have s2:Same H H2:=λb o e=>b2 b o (ne_of_none e hw) (s0 _ _ e)
  refine ⟨_,rfl,_,rfl,λx dx hx hdx nx=>?_⟩
  have s3:Same H2 (upd (upd H2 dx (.own x)) x (.ins MC dx [])):=(same_new hdx).trans (same_new (by rw [upd_ne nx.symm]; exact hx))
  have s23:=s2.trans s3
  exact ⟨x,dx,.ref wy,z,u,v,rfl,upd_same,bad.same s23,λH4 s4=>ke H4 (s23.trans s4)⟩
end
end K32
end
section
namespace L2
open PySem PySem.Spec PyProof.Rows
section
variable {X : Cx}
variable {k : Nat} {f C : Addr} {fd : FuncData} {ps : List Str} {sp : Sp} {m : Str} {apos pos : Pos} {e o : Expr} {es : List Expr} {ta : TE} {t : TA}
end
end L2
end
section
namespace K32
open PySem L2
abbrev sCell:Stmt:=top 66
abbrev sMix:Stmt:=top 67
abbrev sRowL:Stmt:=top 68
abbrev sSpo:Stmt:=top 69
inductive Wd | load | save | peek | poke | drop | give | want | root
def wS:Wd->Str
 | .load=>"load"
 | .save=>"save"
 | .peek=>"peek"
 | .poke=>"poke"
 | .drop=>"drop"
 | .give=>"give"
 | .want=>"want"
 | .root=>"root"
inductive Ro
 | set (a:Nat) (v:Int)
 | add (a b:Nat)
 | tell (a:Nat)
 | why (a b:Nat)
 | call
 | way (w:Wd) (a b:Nat)
 | jump (t:Nat)
 | nought (a t:Nat)
 | halt
 | back
 | past
 | user (t:Nat)
def Ro.w:Ro->Str
 | .set ..=>"set"
 | .add ..=>"add"
 | .tell ..=>"tell"
 | .why ..=>"why"
 | .call=>"call"
 | .way w _ _=>wS w
 | .jump ..=>"jump"
 | .nought ..=>"nought"
 | .halt=>"halt"
 | .back=>"back"
 | .past=>"past"
 | .user ..=>"user"
def wP:Wd->Nat->Nat->List Int
 | .load,a,b | .save,a,b | .peek,a,b | .poke,a,b=>[(a:Int),(b:Int)]
 | _,a,_=>[(a:Int)]
def Ro.p:Ro->List Int
 | .set a v=>[(a:Int),v]
 | .add a b | .why a b=>[(a:Int),(b:Int)]
 | .tell a=>[(a:Int)]
 | .way w a b=>wP w a b
 | .jump t | .user t=>[(t:Int)]
 | .nought a t=>[(a:Int),(t:Int)]
 | .call | .halt | .back | .past=>[]
def Ro.v (r:Ro):List V:=.str r.w::r.p.map V.int
def Ro.Ok:Ro->Prop
 | .set a v=>a<4/\0<=v/\v<281474976710656
 | .add a b | .why a b=>a<4/\b<4
 | .tell a=>a<4
 | .way _ a b=>a<4/\b<4
 | .jump t | .user t=>t<61
 | .nought a t=>a<4/\t<61
 | .call | .halt | .back | .past=>True
theorem Ro.ord {r:Ro} (h:r.Ok):ordB r.v=true:=by
 have b4:∀ {a:Nat},a<4->below (.int (a:Int)) 4=true:=λh=>below_of (by omega) (by omega)
 have b61:∀ {a:Nat},a<61->below (.int (a:Int)) 61=true:=λh=>below_of (by omega) (by omega)
 have two4:∀ {a b:Nat},a<4->b<4->(true && [below (.int (a:Int)) 4,below (.int (b:Int)) 4].all id)=true:=λh1 h2=>by rw [b4 h1,b4 h2]; rfl
 have one4:∀ {a:Nat},a<4->(true && [below (.int (a:Int)) 4].all id)=true:=λh1=>by rw [b4 h1]; rfl
 cases r with
 | set a v =>
  show (true && [below (.int (a:Int)) 4,below (.int v) 281474976710656].all id)=true
  rw [b4 h.1,below_of h.2.1 h.2.2]; rfl
 | add a b=>exact two4 h.1 h.2
 | why a b=>exact two4 h.1 h.2
 | tell a=>exact one4 h
 | way w a b=>cases w <;> first | exact two4 h.1 h.2 | exact one4 h.1
 | nought a t =>
  show (true && [below (.int (a:Int)) 4,below (.int (t:Int)) 61].all id)=true
  rw [b4 h.1,b61 h.2]; rfl
 | jump t =>
  show (true && [below (.int (t:Int)) 61].all id)=true
  rw [b61 h]; rfl
 | user t =>
  show (true && [below (.int (t:Int)) 61].all id)=true
  rw [b61 h]; rfl
 | call=>rfl
 | halt=>rfl
 | back=>rfl
 | past=>rfl
inductive Rls (H:Hp):List V->List Ro->Prop
 | nil:Rls H [] []
 | cons {t:Addr} {r:Ro} {ys:List V} {rr:List Ro}:H t=some (.tup r.v)->Rls H ys rr->Rls H (.ref t::ys) (r::rr)
theorem Rls.imp {H H':Hp} (f:∀ t xs,H t=some (.tup xs)->H' t=some (.tup xs)) {ys:List V} {rr:List Ro} (h:Rls H ys rr):Rls H' ys rr:=by
 induction h with
 | nil=>exact .nil
 | cons e _ ih=>exact .cons (f _ _ e) ih
theorem Rls.same {H H':Hp} {ys:List V} {rr:List Ro} (h:Rls H ys rr) (s:Same H H'):Rls H' ys rr:=h.imp λt xs z=>s _ _ z
theorem Rls.append {H:Hp} {ys zs:List V} {rr qq:List Ro} (h:Rls H ys rr) (g:Rls H zs qq):Rls H (ys++zs) (rr++qq):=by
 induction h with
 | nil=>exact g
 | cons e _ ih=>exact .cons e ih
theorem Rls.get {H:Hp} {ys:List V} {rr:List Ro} (h:Rls H ys rr):∀ (i:Nat) (r:Ro),rr[i]?=some r->∃ t,ys[i]?=some (.ref t)/\H t=some (.tup r.v):=by
 induction h with
 | nil=>intro i x e; simp at e
 | @cons t r ys rr e _ ih =>
  intro i x he
  cases i with
  | zero =>
   have he':some r=some x:=he
   cases he'
   exact ⟨t,rfl,e⟩
  | succ i=>exact ih i x he
theorem Rls.ords {H:Hp} {ys:List V} {rr:List Ro} (h:Rls H ys rr) (ok:∀ r ∈ rr,r.Ok):∀ x ∈ ys,Ord H x true:=by
 induction h with
 | nil=>intro x z; cases z
 | @cons t r ys rr e _ ih =>
  intro x z
  rcases List.mem_cons.mp z with rfl | z
  ·refine ⟨.tup e,.inr ⟨t,r.v,rfl,e,λy hy=>?_,(Ro.ord (ok r List.mem_cons_self)).symm⟩⟩
   rcases List.mem_cons.mp hy with rfl | hy
   ·exact .str _
   ·obtain ⟨i,_,rfl⟩:=List.mem_map.mp hy
    exact .int i
  ·exact ih (λr hr=>ok r (List.mem_cons_of_mem _ hr)) x z
inductive spCell (K:PySem.W.Frag) (vs:List V) (H:Hp) (Q:VK) (E:XK):Prop
 | mk (a:Addr) (ns:List Int) (k:Nat) (_:vs=[.ref a,.int k]) (_:SqL K H a (ns.map V.int)) (_:Q (.int (ns.getD k 0)) H):spCell K vs H Q E
inductive spMix (vs:List V) (H:Hp) (Q:VK) (E:XK):Prop
 | mk (c b m:Int) (_:vs=[.int c,.int b,.int m]) (_:0<m) (_:∀ v:Int,0<=v->v<m->Q (.int v) H):spMix vs H Q E
theorem peq_tup {X:Cx} {es:List Expr} {t:TA} {k:Nat} {pos:Pos} (h:PAq X es t):PEq X (.Tuple es k pos) (tTup t):=⟨pe_tup h.h⟩
theorem bad_tup {H:Hp} {t:Addr} {ys:List V} (e:H t=some (.tup ys)) (h:∀ y ∈ ys,Th H y) (b:ordB ys=false):Ord H (.ref t) false:=⟨.tup e,.inr ⟨t,ys,rfl,e,h,b.symm⟩⟩
theorem bad_lst {H:Hp} {t:Addr} {ys:List V} (e:H t=some (.lst ys)):Ord H (.ref t) false:=⟨.lst e,.inl ⟨by simp [isTup,e],rfl⟩⟩
theorem th_put {H:Hp} {p:Addr} {xs ys:List V} {x:V} (hp:H p=some (.lst xs)) (t:Th H x):Th (upd H p (.lst ys)) x:=by
 cases t with
 | non=>exact .non
 | bl b=>exact .bl b
 | int i=>exact .int i
 | str z=>exact .str z
 | @lst a zs e =>
  by_cases ea:a=p
  ·subst ea; exact .lst upd_same
  ·exact .lst (by rw [upd_ne ea]; exact e)
 | frz e=>exact .frz (by rw [upd_ne (ne_of e hp (by intro z; cases z))]; exact e)
 | tup e=>exact .tup (by rw [upd_ne (ne_of e hp (by intro z; cases z))]; exact e)
 | dic e=>exact .dic (by rw [upd_ne (ne_of e hp (by intro z; cases z))]; exact e)
theorem ord_put {H:Hp} {p:Addr} {xs ys:List V} {x:V} {b:Bool} (hp:H p=some (.lst xs)) (o:Ord H x b):Ord (upd H p (.lst ys)) x b:=by
 obtain ⟨t,o⟩:=o
 refine ⟨th_put hp t,?_⟩
 rcases o with ⟨h1,h2⟩ | ⟨a,zs,rfl,e,ht,hb⟩
 ·refine .inl ⟨?_,h2⟩
  cases t with
  | @lst a zs e =>
   by_cases ea:a=p
   ·subst ea; simp [isTup,upd_same]
   ·simp [isTup,upd_ne ea,e]
  | @frz a o' zs e=>simp [isTup,upd_ne (ne_of e hp (by intro z; cases z)),e]
  | @tup a zs e=>rw [show isTup H (.ref a)=true from by simp [isTup,e]] at h1; cases h1
  | @dic a kvs e=>simp [isTup,upd_ne (ne_of e hp (by intro z; cases z)),e]
  | _=>rfl
 ·exact .inr ⟨a,zs,rfl,by rw [upd_ne (ne_of e hp (by intro z; cases z))]; exact e,λy hy=>th_put hp (ht y hy),hb⟩
inductive spRowL (vs:List V) (H:Hp) (Q:VK) (E:XK):Prop
 | mk (c:Int) (_:vs=[.int c]) (_:∀ (t:Addr) (r:Ro) H',Same H H'->H' t=some (.tup r.v)->r.Ok->Q (.ref t) H'):spRowL vs H Q E
inductive spSpoil (K:PySem.W.Frag) (vs:List V) (H:Hp) (Q:VK) (E:XK):Prop
 | mk (p x:Addr) (xs:List V) (ns:List Int) (_:vs=[.ref p,.ref x]) (_:H p=some (.lst xs)) (_:1<=xs.length) (_:xs.length<=60) (_:(∀ z ∈ xs,Ord H z true)) (_:(∀ H',(∀ b o,b≠p->H b=some o->H' b=some o)->SqL K H' x (ns.map V.int))) (_:∀ (H':Hp) (k:Nat) (y:V) (ys:List V),(∀ b o,b≠p->H b=some o->H' b=some o)->H' p=some (.lst ys)->ys.length=xs.length->ys[k]?=some y->Ord H' y false->(∀ i z,i<k->ys[i]?=some z->Ord H' z true)->Q (.int (k:Int)) H'):spSpoil K vs H Q E
section
variable {P : Program} {w : World} {K : PySem.W.Frag} {mg : Str → Option Value} {base : Heap} {C NP NL NW NI SC PL WC FA : Addr}
theorem scCe:FnScope ["_law_script","_law_k"] ["_law_script","_law_k"] (defScope sCell):=FSc
theorem ok_cell {f:Addr} {fd:FuncData} (F:Fun K "_law_cell_at" "_law_cell_at" sCell f fd) (T:Txt K mg):FnOk P w K mg base CX0 1 f fd ["_law_script","_law_k"] (spCell K):=by
 refine F.ok scCe (λvs H Q E h=>?_) (λcdv A outer s H vs Q E hr h=>?_)
 ·obtain ⟨x,ns,k,rfl,_⟩:=h
  rfl
 ·obtain ⟨x,ns,k,rfl,hS,q⟩:=h
  refine ⟨_,(pss_cons (ps_if (pt_cmpR op_lt (pv 1) (pe_callB call_len_seq (by rfl) T.len PySem.boot_len (pa_cons (pv 0) pa_nil)) (nomark _)) (pss_one (ps_ret (pe_ix ix_list (pv 0) (pv 1) (λ_ _=>rfl)))) pss_nil) (pss_one (ps_ret pe_int))),?_⟩
  refine ⟨_,rfl,_,rfl,x,_,rfl,.inl hS,_,_,rfl,rfl,_,rfl,ite2 (λz=>?_) (λz=>?_)⟩
  ·have z':=of_decide_eq_true z
   rw [List.length_map] at z'
   exact ⟨_,rfl,_,rfl,x,_,_,_,rfl,rfl,hS,atI_word (by omega),q⟩
  ·have z':¬ ((k:Int)<((ns.map V.int).length:Int)):=λy=>z (decide_eq_true y)
   rw [List.length_map] at z'
   rw [List.getD_eq_getElem?_getD,List.getElem?_eq_none (by omega)] at q
   exact q
theorem scMi:FnScope ["_law_cell","_law_by","_law_many"] ["_law_cell","_law_by","_law_many"] (defScope sMix):=FSc
theorem ok_mix {f:Addr} {fd:FuncData} (F:Fun K "_law_mix" "_law_mix" sMix f fd):FnOk P w K mg base CX0 1 f fd ["_law_cell","_law_by","_law_many"] spMix:=by
 refine F.ok scMi (λvs H Q E h=>?_) (λcdv A outer s H vs Q E hr h=>?_)
 ·obtain ⟨c,b,m,rfl,_⟩:=h
  rfl
 ·obtain ⟨c,b,m,rfl,hm,q⟩:=h
  refine ⟨_,(pss_one (ps_ret (pe_op op_mod (pe_op op_fdiv (pe_op op_mod (pe_op op_add (pe_op op_mul (pe_op op_mod (pv 0) pe_int) (pv 1)) (pv 1)) pe_int) pe_int) (pv 2)))),?_⟩
  have e0:=Int.emod_nonneg c (show (1000003:Int)≠0 by decide)
  have e1:=Int.emod_lt_of_pos c (show (0:Int)<1000003 by decide)
  exact ⟨_,rfl,c,1000003,rfl,rfl,(by show (0:Int)<1000003; decide),_,rfl,_,_,rfl,rfl,.inl ⟨by omega,by omega⟩,_,rfl,_,_,rfl,rfl,_,2147483647,rfl,rfl,(by show (0:Int)<2147483647; decide),_,1024,rfl,rfl,⟨by decide,by decide⟩,_,rfl,_,m,rfl,rfl,hm,q _ (Int.emod_nonneg _ (by omega)) (Int.emod_lt_of_pos _ hm)⟩
theorem scRL:FnScope ["_law_cell","_law_a","_law_b","_law_at","_law_some"] ["_law_cell"] (defScope sRowL):=FSc
theorem ok_rowl {f f1:Addr} {fd fd1:FuncData} (F:Fun K "_law_row" "_law_row" sRowL f fd) (D1:Dn K mg "_law_mix" sMix ["_law_cell","_law_by","_law_many"] f1 fd1) (G1:FnOk P w K mg base CX0 1 f1 fd1 ["_law_cell","_law_by","_law_many"] spMix):FnOk P w K mg base CX0 2 f fd ["_law_cell"] spRowL:=by
 refine F.ok scRL (λvs H Q E h'=>?_) (λcdv A outer s H vs Q E hr h'=>?_)
 ·obtain ⟨c,rfl,_⟩:=h'
  rfl
 ·obtain ⟨c,rfl,q⟩:=h'
  have e48:(2:Int) ^ (48:Int).toNat=281474976710656:=by decide
  obtain ⟨t3,R3,hR3⟩:∃ tr,PSsq (cxOf CX0 P w K mg base ["_law_cell","_law_a","_law_b","_law_at","_law_some"] "_law_row" (defScope sRowL) f cdv A outer s H E).nox ((defBody sRowL).drop 3) tr/\∀ (H1:Hp) (A B T:Nat),Same H H1->A<4->B<4->T<61->tr { nx:=λ_ H'=>Q .non H',rt:=Q } [some (.int c),some (.int (A:Int)),some (.int (B:Int)),some (.int (T:Int)),none] H1:=by
   refine ⟨_,(pssq_cons (psq_setq (i:=4) scRL.nd rfl (Or.inl rfl) (peq_lst (paq_cons (peq_tup (paq_cons ⟨pe_str⟩ (paq_cons ⟨(pv 1)⟩ (paq_cons ⟨(pe_op op_mod (pv 0) (pe_op op_pow pe_int pe_int))⟩ paq_nil)))) (paq_cons (peq_tup (paq_cons ⟨pe_str⟩ (paq_cons ⟨(pv 1)⟩ (paq_cons ⟨(pv 2)⟩ paq_nil)))) (paq_cons (peq_tup (paq_cons ⟨pe_str⟩ (paq_cons ⟨(pv 1)⟩ (paq_cons ⟨(pv 2)⟩ paq_nil)))) (paq_cons (peq_tup (paq_cons ⟨pe_str⟩ (paq_cons ⟨(pv 1)⟩ (paq_cons ⟨(pv 2)⟩ paq_nil)))) (paq_cons (peq_tup (paq_cons ⟨pe_str⟩ (paq_cons ⟨(pv 1)⟩ (paq_cons ⟨(pv 3)⟩ paq_nil)))) (paq_cons (peq_tup (paq_cons ⟨pe_str⟩ (paq_cons ⟨(pv 1)⟩ paq_nil))) paq_nil)))))))) (pssq_cons (psq_setq (i:=4) scRL.nd rfl (Or.inl rfl) (peq_op op_cat ⟨(pv 4)⟩ (peq_lst (paq_cons (peq_tup (paq_cons ⟨pe_str⟩ (paq_cons ⟨(pv 3)⟩ paq_nil))) (paq_cons (peq_tup (paq_cons ⟨pe_str⟩ paq_nil)) (paq_cons (peq_tup (paq_cons ⟨pe_str⟩ (paq_cons ⟨(pv 1)⟩ (paq_cons ⟨(pv 2)⟩ paq_nil)))) (paq_cons (peq_tup (paq_cons ⟨pe_str⟩ (paq_cons ⟨(pv 3)⟩ paq_nil))) (paq_cons (peq_tup (paq_cons ⟨pe_str⟩ paq_nil)) paq_nil)))))))) (pssq_one ⟨(ps_ret (pe_ix ix_list (pv 4) (pe_call G1 hr (by rfl) D1.m D1.F.kp D1.b .nil pass0 (pa_cons (pv 0) (pa_cons pe_int (pa_cons pe_int pa_nil)))) (λ_ _=>rfl)))⟩))),λH1 A B T ss A4 B4 T6=>?_⟩
   refine ⟨_,rfl,_,rfl,2,48,rfl,rfl,⟨by decide,by decide,by decide⟩,c,_,rfl,rfl,(by show (0:Int)<2 ^ (48:Int).toNat; decide),by show 3<=sizeLine; decide,λt1 ht1=>?_⟩
   have s1:=same_new (o:=.tup [.str "set",.int (A:Int),.int (c % (2:Int) ^ (48:Int).toNat)]) ht1
   have z1:upd H1 t1 (.tup [.str "set",.int (A:Int),.int (c % (2:Int) ^ (48:Int).toNat)]) t1=some (.tup (Ro.v (.set A (c % 281474976710656)))):=by rw [upd_same]; (try rw [e48]); rfl
   generalize upd H1 t1 (.tup [.str "set",.int (A:Int),.int (c % (2:Int) ^ (48:Int).toNat)])=J1 at *
   refine ⟨_,rfl,_,rfl,by show 3<=sizeLine; decide,λt2 ht2=>?_⟩
   have s2:=same_new (o:=.tup [.str "add",.int (A:Int),.int (B:Int)]) ht2
   have z2:upd J1 t2 (.tup [.str "add",.int (A:Int),.int (B:Int)]) t2=some (.tup (Ro.v (.add A B))):=by rw [upd_same]; (try rw [e48]); rfl
   generalize upd J1 t2 (.tup [.str "add",.int (A:Int),.int (B:Int)])=J2 at *
   refine ⟨_,rfl,_,rfl,by show 3<=sizeLine; decide,λt3 ht3=>?_⟩
   have s3:=same_new (o:=.tup [.str "load",.int (A:Int),.int (B:Int)]) ht3
   have z3:upd J2 t3 (.tup [.str "load",.int (A:Int),.int (B:Int)]) t3=some (.tup (Ro.v (.way .load A B))):=by rw [upd_same]; (try rw [e48]); rfl
   generalize upd J2 t3 (.tup [.str "load",.int (A:Int),.int (B:Int)])=J3 at *
   refine ⟨_,rfl,_,rfl,by show 3<=sizeLine; decide,λt4 ht4=>?_⟩
   have s4:=same_new (o:=.tup [.str "save",.int (A:Int),.int (B:Int)]) ht4
   have z4:upd J3 t4 (.tup [.str "save",.int (A:Int),.int (B:Int)]) t4=some (.tup (Ro.v (.way .save A B))):=by rw [upd_same]; (try rw [e48]); rfl
   generalize upd J3 t4 (.tup [.str "save",.int (A:Int),.int (B:Int)])=J4 at *
   refine ⟨_,rfl,_,rfl,by show 3<=sizeLine; decide,λt5 ht5=>?_⟩
   have s5:=same_new (o:=.tup [.str "nought",.int (A:Int),.int (T:Int)]) ht5
   have z5:upd J4 t5 (.tup [.str "nought",.int (A:Int),.int (T:Int)]) t5=some (.tup (Ro.v (.nought A T))):=by rw [upd_same]; (try rw [e48]); rfl
   generalize upd J4 t5 (.tup [.str "nought",.int (A:Int),.int (T:Int)])=J5 at *
   refine ⟨_,rfl,by show 2<=sizeLine; decide,λt6 ht6=>?_⟩
   have s6:=same_new (o:=.tup [.str "want",.int (A:Int)]) ht6
   have z6:upd J5 t6 (.tup [.str "want",.int (A:Int)]) t6=some (.tup (Ro.v (.way .want A 0))):=by rw [upd_same]; (try rw [e48]); rfl
   generalize upd J5 t6 (.tup [.str "want",.int (A:Int)])=J6 at *
   refine ⟨by show 6<=sizeLine; decide,λla hla=>?_⟩
   have sa:=same_new (o:=.lst [.ref t1,.ref t2,.ref t3,.ref t4,.ref t5,.ref t6]) hla
   have za:upd J6 la (.lst [.ref t1,.ref t2,.ref t3,.ref t4,.ref t5,.ref t6]) la=some (.lst [.ref t1,.ref t2,.ref t3,.ref t4,.ref t5,.ref t6]):=upd_same
   have ra:Rls (upd J6 la (.lst [.ref t1,.ref t2,.ref t3,.ref t4,.ref t5,.ref t6])) [.ref t1,.ref t2,.ref t3,.ref t4,.ref t5,.ref t6] [(.set A (c % 281474976710656)),(.add A B),(.way .load A B),(.way .save A B),(.nought A T),(.way .want A 0)]:=(.cons (sa _ _ (s6 _ _ (s5 _ _ (s4 _ _ (s3 _ _ (s2 _ _ z1)))))) (.cons (sa _ _ (s6 _ _ (s5 _ _ (s4 _ _ (s3 _ _ z2))))) (.cons (sa _ _ (s6 _ _ (s5 _ _ (s4 _ _ z3)))) (.cons (sa _ _ (s6 _ _ (s5 _ _ z4))) (.cons (sa _ _ (s6 _ _ z5)) (.cons (sa _ _ z6) .nil))))))
   have Sa:Same H1 (upd J6 la (.lst [.ref t1,.ref t2,.ref t3,.ref t4,.ref t5,.ref t6])):=(s1.trans (s2.trans (s3.trans (s4.trans (s5.trans (s6.trans sa))))))
   clear s1 z1 s2 z2 s3 z3 s4 z4 s5 z5 s6 z6 sa
   generalize upd J6 la (.lst [.ref t1,.ref t2,.ref t3,.ref t4,.ref t5,.ref t6])=Ja at *
   refine ⟨_,rfl,?_⟩
   refine ⟨_,rfl,by show 2<=sizeLine; decide,λt7 ht7=>?_⟩
   have s7:=same_new (o:=.tup [.str "jump",.int (T:Int)]) ht7
   have z7:upd Ja t7 (.tup [.str "jump",.int (T:Int)]) t7=some (.tup (Ro.v (.jump T))):=by rw [upd_same]; (try rw [e48]); rfl
   generalize upd Ja t7 (.tup [.str "jump",.int (T:Int)])=J7 at *
   refine ⟨ by show 1<=sizeLine; decide,λt8 ht8=>?_⟩
   have s8:=same_new (o:=.tup [.str "halt"]) ht8
   have z8:upd J7 t8 (.tup [.str "halt"]) t8=some (.tup (Ro.v .halt)):=by rw [upd_same]; (try rw [e48]); rfl
   generalize upd J7 t8 (.tup [.str "halt"])=J8 at *
   refine ⟨_,rfl,_,rfl,by show 3<=sizeLine; decide,λt9 ht9=>?_⟩
   have s9:=same_new (o:=.tup [.str "why",.int (A:Int),.int (B:Int)]) ht9
   have z9:upd J8 t9 (.tup [.str "why",.int (A:Int),.int (B:Int)]) t9=some (.tup (Ro.v (.why A B))):=by rw [upd_same]; (try rw [e48]); rfl
   generalize upd J8 t9 (.tup [.str "why",.int (A:Int),.int (B:Int)])=J9 at *
   refine ⟨_,rfl,by show 2<=sizeLine; decide,λt10 ht10=>?_⟩
   have s10:=same_new (o:=.tup [.str "user",.int (T:Int)]) ht10
   have z10:upd J9 t10 (.tup [.str "user",.int (T:Int)]) t10=some (.tup (Ro.v (.user T))):=by rw [upd_same]; (try rw [e48]); rfl
   generalize upd J9 t10 (.tup [.str "user",.int (T:Int)])=J10 at *
   refine ⟨ by show 1<=sizeLine; decide,λt11 ht11=>?_⟩
   have s11:=same_new (o:=.tup [.str "call"]) ht11
   have z11:upd J10 t11 (.tup [.str "call"]) t11=some (.tup (Ro.v .call)):=by rw [upd_same]; (try rw [e48]); rfl
   generalize upd J10 t11 (.tup [.str "call"])=J11 at *
   refine ⟨by show 5<=sizeLine; decide,λlb hlb=>?_⟩
   have sb:=same_new (o:=.lst [.ref t7,.ref t8,.ref t9,.ref t10,.ref t11]) hlb
   have zb:upd J11 lb (.lst [.ref t7,.ref t8,.ref t9,.ref t10,.ref t11]) lb=some (.lst [.ref t7,.ref t8,.ref t9,.ref t10,.ref t11]):=upd_same
   have rb:Rls (upd J11 lb (.lst [.ref t7,.ref t8,.ref t9,.ref t10,.ref t11])) [.ref t7,.ref t8,.ref t9,.ref t10,.ref t11] [(.jump T),.halt,(.why A B),(.user T),.call]:=(.cons (sb _ _ (s11 _ _ (s10 _ _ (s9 _ _ (s8 _ _ z7))))) (.cons (sb _ _ (s11 _ _ (s10 _ _ (s9 _ _ z8)))) (.cons (sb _ _ (s11 _ _ (s10 _ _ z9))) (.cons (sb _ _ (s11 _ _ z10)) (.cons (sb _ _ z11) .nil)))))
   have Sb:Same Ja (upd J11 lb (.lst [.ref t7,.ref t8,.ref t9,.ref t10,.ref t11])):=(s7.trans (s8.trans (s9.trans (s10.trans (s11.trans sb)))))
   clear s7 z7 s8 z8 s9 z9 s10 z10 s11 z11 sb
   generalize upd J11 lb (.lst [.ref t7,.ref t8,.ref t9,.ref t10,.ref t11])=Jb at *
   refine ⟨la,lb,_,_,rfl,rfl,Sb _ _ za,zb,by show 11<=sizeLine; decide,λlc hlc=>?_⟩
   have rxc:=(ra.same Sb).append rb
   have sxc:=same_new (o:=.lst ([.ref t1,.ref t2,.ref t3,.ref t4,.ref t5,.ref t6]++[.ref t7,.ref t8,.ref t9,.ref t10,.ref t11])) hlc
   have zc:upd Jb lc (.lst ([.ref t1,.ref t2,.ref t3,.ref t4,.ref t5,.ref t6]++[.ref t7,.ref t8,.ref t9,.ref t10,.ref t11])) lc=some (.lst ([.ref t1,.ref t2,.ref t3,.ref t4,.ref t5,.ref t6]++[.ref t7,.ref t8,.ref t9,.ref t10,.ref t11])):=upd_same
   have rc:=rxc.same sxc
   have Sc:=(Sa.trans Sb).trans sxc
   generalize upd Jb lc (.lst ([.ref t1,.ref t2,.ref t3,.ref t4,.ref t5,.ref t6]++[.ref t7,.ref t8,.ref t9,.ref t10,.ref t11]))=Jc at *
   have okA:∀ r ∈ ([(.set A (c % 281474976710656)),(.add A B),(.way .load A B),(.way .save A B),(.nought A T),(.way .want A 0)]++[(.jump T),.halt,(.why A B),(.user T),.call]:List Ro),Ro.Ok r:=by
    have c0:0<=c % 281474976710656:=Int.emod_nonneg _ (by decide)
    have c1:c % 281474976710656<281474976710656:=Int.emod_lt_of_pos _ (by decide)
    intro r hr
    simp only [List.cons_append,List.nil_append,List.mem_cons,List.not_mem_nil,or_false] at hr
    rcases hr with rfl | rfl | rfl | rfl | rfl | rfl | rfl | rfl | rfl | rfl | rfl <;> first | trivial | (simp only [Ro.Ok] <;> omega)
   refine ⟨_,rfl,_,rfl,c,39119,11,rfl,by decide,λv v0 v1=>?_⟩
   obtain ⟨k,rfl⟩:∃ k:Nat,v=(k:Int):=⟨v.toNat,by omega⟩
   have hk:k<([(.set A (c % 281474976710656)),(.add A B),(.way .load A B),(.way .save A B),(.nought A T),(.way .want A 0)]++[(.jump T),.halt,(.why A B),(.user T),.call]:List Ro).length:=by show k<11; omega
   obtain ⟨t,et,ez⟩:=rc.get k _ (List.getElem?_eq_getElem hk)
   exact ⟨lc,_,_,.ref t,rfl,rfl,SqL.of zc,atI_nat et,q t _ Jc (ss.trans Sc) ez (okA _ (List.getElem_mem hk))⟩
  refine PSsq.ex (show PSsq (cxOf CX0 P w K mg base ["_law_cell","_law_a","_law_b","_law_at","_law_some"] "_law_row" (defScope sRowL) f cdv A outer s H E).nox (defBody sRowL) _ from pssq_cons (psq_setq (i:=1) scRL.nd rfl (Or.inl rfl) ⟨(pe_call G1 hr (by rfl) D1.m D1.F.kp D1.b .nil pass0 (pa_cons (pv 0) (pa_cons pe_int (pa_cons pe_int pa_nil))))⟩) (pssq_cons (psq_setq (i:=2) scRL.nd rfl (Or.inl rfl) ⟨(pe_call G1 hr (by rfl) D1.m D1.F.kp D1.b .nil pass0 (pa_cons (pv 0) (pa_cons pe_int (pa_cons pe_int pa_nil))))⟩) (pssq_cons (psq_setq (i:=3) scRL.nd rfl (Or.inl rfl) ⟨(pe_call G1 hr (by rfl) D1.m D1.F.kp D1.b .nil pass0 (pa_cons (pv 0) (pa_cons pe_int (pa_cons pe_int pa_nil))))⟩) R3))) ?_
  refine ⟨_,rfl,c,48271,4,rfl,by decide,λv1 a0 a1=>⟨_,rfl,c,69623,4,rfl,by decide,λv2 b0 b1=>⟨_,rfl,c,40709,61,rfl,by decide,λv3 t0 t1=>?_⟩⟩⟩
  obtain ⟨A,rfl⟩:∃ k:Nat,v1=(k:Int):=⟨v1.toNat,by omega⟩
  obtain ⟨B,rfl⟩:∃ k:Nat,v2=(k:Int):=⟨v2.toNat,by omega⟩
  obtain ⟨T,rfl⟩:∃ k:Nat,v3=(k:Int):=⟨v3.toNat,by omega⟩
  exact hR3 H A B T (Same.refl _) (by omega) (by omega) (by omega)
theorem scSpo:FnScope ["_law_rows","_law_script","_law_cell","_law_at","_law_bad","_law_rest"] ["_law_rows","_law_script"] (defScope sSpo):=FSc
theorem ok_spo {f f1 f2:Addr} {fd fd1 fd2:FuncData} (F:Fun K "_law_spoil" "_law_spoil" sSpo f fd) (D1:Dn K mg "_law_cell_at" sCell ["_law_script","_law_k"] f1 fd1) (G1:FnOk P w K mg base CX0 1 f1 fd1 ["_law_script","_law_k"] (spCell K)) (D2:Dn K mg "_law_mix" sMix ["_law_cell","_law_by","_law_many"] f2 fd2) (G2:FnOk P w K mg base CX0 1 f2 fd2 ["_law_cell","_law_by","_law_many"] spMix) (T:Txt K mg):FnOk P w K mg base CX0 2 f fd ["_law_rows","_law_script"] (spSpoil K):=by
 refine F.ok scSpo (λvs H Q E h'=>?_) (λcdv A outer s H vs Q E hr h'=>?_)
 ·obtain ⟨p,x,xs,ns,rfl,_⟩:=h'
  rfl
 ·obtain ⟨p,x,xs,ns,rfl,hp,l1,l2,ho,hk,q⟩:=h'
  have kp:∀ H',Same H H'->∀ b o,b≠p->H b=some o->H' b=some o:=λH' s b o _ e=>s _ _ e
  refine PSsq.ex (show PSsq (cxOf CX0 P w K mg base ["_law_rows","_law_script","_law_cell","_law_at","_law_bad","_law_rest"] "_law_spoil" (defScope sSpo) f cdv A outer s H E).nox (defBody sSpo) _ from (pssq_cons (psq_setq (i:=2) scSpo.nd rfl (Or.inl rfl) ⟨(pe_call G1 hr (by rfl) D1.m D1.F.kp D1.b .nil pass0 (pa_cons (pv 1) (pa_cons pe_int pa_nil)))⟩) (pssq_cons (psq_setq (i:=3) scSpo.nd rfl (Or.inl rfl) ⟨(pe_call G2 hr (by rfl) D2.m D2.F.kp D2.b .nil pass0 (pa_cons (pv 2) (pa_cons pe_int (pa_cons (pe_callB call_len_seq (by rfl) T.len PySem.boot_len (pa_cons (pv 0) pa_nil)) pa_nil))))⟩) (pssq_cons (psq_setq (i:=4) scSpo.nd rfl (Or.inl rfl) (peq_lst (paq_cons (peq_tup (paq_cons ⟨pe_str⟩ (paq_cons ⟨pe_int⟩ (paq_cons ⟨pe_int⟩ paq_nil)))) (paq_cons (peq_tup (paq_cons ⟨pe_str⟩ (paq_cons ⟨pe_int⟩ (paq_cons ⟨(pe_op op_pow pe_int pe_int)⟩ paq_nil)))) (paq_cons (peq_tup (paq_cons ⟨pe_str⟩ (paq_cons ⟨pe_int⟩ paq_nil))) (paq_cons (peq_tup (paq_cons ⟨pe_str⟩ (paq_cons ⟨(pe_un un_neg pe_int)⟩ paq_nil))) (paq_cons (peq_tup (paq_cons ⟨pe_str⟩ (paq_cons ⟨pe_int⟩ paq_nil))) (paq_cons (peq_lst (paq_cons ⟨pe_str⟩ paq_nil)) (paq_cons (peq_tup (paq_cons ⟨pe_str⟩ paq_nil)) (paq_cons (peq_tup paq_nil) (paq_cons ⟨pe_non⟩ paq_nil))))))))))) (pssq_cons (psq_setq (i:=4) scSpo.nd rfl (Or.inl rfl) (peq_op op_cat ⟨(pv 4)⟩ (peq_lst (paq_cons (peq_tup (paq_cons ⟨pe_str⟩ (paq_cons ⟨pe_bl⟩ paq_nil))) (paq_cons (peq_tup (paq_cons ⟨pe_str⟩ (paq_cons ⟨pe_int⟩ (paq_cons ⟨pe_non⟩ paq_nil)))) (paq_cons (peq_tup (paq_cons ⟨pe_str⟩ (paq_cons ⟨pe_int⟩ paq_nil))) (paq_cons ⟨pe_int⟩ paq_nil))))))) (pssq_cons ⟨(ps_asg (pe_ix ix_list (pv 4) (pe_call G2 hr (by rfl) D2.m D2.F.kp D2.b .nil pass0 (pa_cons (pv 2) (pa_cons pe_int (pa_cons pe_int pa_nil)))) (λ_ _=>rfl)) (pg_sub (pv 0) (pv 3) set_list))⟩ (pssq_cons (psq_setq (i:=5) scSpo.nd rfl (Or.inl rfl) ⟨(pe_op op_add (pv 3) (pe_call G2 hr (by rfl) D2.m D2.F.kp D2.b .nil pass0 (pa_cons (pe_call G1 hr (by rfl) D1.m D1.F.kp D1.b .nil pass0 (pa_cons (pv 1) (pa_cons pe_int pa_nil))) (pa_cons pe_int (pa_cons (pe_op op_sub (pe_callB call_len_seq (by rfl) T.len PySem.boot_len (pa_cons (pv 0) pa_nil)) (pv 3)) pa_nil)))))⟩) (pssq_cons (psq_if ⟨(pt_cmpR op_gt (pv 5) (pv 3) (nomark _))⟩ (pssq_one ⟨(ps_asg (pe_ix ix_list (pv 4) (pe_call G2 hr (by rfl) D2.m D2.F.kp D2.b .nil pass0 (pa_cons (pv 2) (pa_cons pe_int (pa_cons pe_int pa_nil)))) (λ_ _=>rfl)) (pg_sub (pv 0) (pv 5) set_list))⟩) pssq_nil) (pssq_one ⟨(ps_ret (pv 3))⟩))))))))) ?_
  refine ⟨_,rfl,x,ns,0,rfl,hk H (kp H (Same.refl _)),?_⟩
  generalize ns.getD 0 0=c
  refine ⟨_,rfl,_,rfl,p,_,rfl,.inl (SqL.of hp),c,27437,_,rfl,(by show (0:Int)<(xs.length:Int); omega),λv v0 v1=>?_⟩
  obtain ⟨k,rfl⟩:∃ k:Nat,v=(k:Int):=⟨v.toNat,by omega⟩
  refine ⟨ by show 3<=sizeLine; decide,λt1 ht1=>?_⟩
  have s1:=same_new (o:=.tup [.str "set",.int 4,.int 0]) ht1
  have z1:upd H t1 (.tup [.str "set",.int 4,.int 0]) t1=some (.tup [.str "set",.int 4,.int 0]):=upd_same
  generalize upd H t1 (.tup [.str "set",.int 4,.int 0])=J1 at *
  refine ⟨2,48,rfl,rfl,⟨by decide,by decide,by decide⟩,by show 3<=sizeLine; decide,λt2 ht2=>?_⟩
  have s2:=same_new (o:=.tup [.str "set",.int 0,.int ((2:Int) ^ (48:Int).toNat)]) ht2
  have z2:upd J1 t2 (.tup [.str "set",.int 0,.int ((2:Int) ^ (48:Int).toNat)]) t2=some (.tup [.str "set",.int 0,.int ((2:Int) ^ (48:Int).toNat)]):=upd_same
  generalize upd J1 t2 (.tup [.str "set",.int 0,.int ((2:Int) ^ (48:Int).toNat)])=J2 at *
  refine ⟨ by show 2<=sizeLine; decide,λt3 ht3=>?_⟩
  have s3:=same_new (o:=.tup [.str "jump",.int 61]) ht3
  have z3:upd J2 t3 (.tup [.str "jump",.int 61]) t3=some (.tup [.str "jump",.int 61]):=upd_same
  generalize upd J2 t3 (.tup [.str "jump",.int 61])=J3 at *
  refine ⟨_,rfl,by show 2<=sizeLine; decide,λt4 ht4=>?_⟩
  have s4:=same_new (o:=.tup [.str "jump",.int (-1)]) ht4
  have z4:upd J3 t4 (.tup [.str "jump",.int (-1)]) t4=some (.tup [.str "jump",.int (-1)]):=upd_same
  generalize upd J3 t4 (.tup [.str "jump",.int (-1)])=J4 at *
  refine ⟨ by show 2<=sizeLine; decide,λt5 ht5=>?_⟩
  have s5:=same_new (o:=.tup [.str "halt",.int 0]) ht5
  have z5:upd J4 t5 (.tup [.str "halt",.int 0]) t5=some (.tup [.str "halt",.int 0]):=upd_same
  generalize upd J4 t5 (.tup [.str "halt",.int 0])=J5 at *
  refine ⟨ by show 1<=sizeLine; decide,λt6 ht6=>?_⟩
  have s6:=same_new (o:=.lst [.str "halt"]) ht6
  have z6:upd J5 t6 (.lst [.str "halt"]) t6=some (.lst [.str "halt"]):=upd_same
  generalize upd J5 t6 (.lst [.str "halt"])=J6 at *
  refine ⟨ by show 1<=sizeLine; decide,λt7 ht7=>?_⟩
  have s7:=same_new (o:=.tup [.str "stop"]) ht7
  have z7:upd J6 t7 (.tup [.str "stop"]) t7=some (.tup [.str "stop"]):=upd_same
  generalize upd J6 t7 (.tup [.str "stop"])=J7 at *
  refine ⟨ by show 0<=sizeLine; decide,λt8 ht8=>?_⟩
  have s8:=same_new (o:=.tup []) ht8
  have z8:upd J7 t8 (.tup []) t8=some (.tup []):=upd_same
  generalize upd J7 t8 (.tup [])=J8 at *
  refine ⟨by show 9<=sizeLine; decide,λla hla=>?_⟩
  have sa:=same_new (o:=.lst [.ref t1,.ref t2,.ref t3,.ref t4,.ref t5,.ref t6,.ref t7,.ref t8,.non]) hla
  have za:upd J8 la (.lst [.ref t1,.ref t2,.ref t3,.ref t4,.ref t5,.ref t6,.ref t7,.ref t8,.non]) la=some (.lst [.ref t1,.ref t2,.ref t3,.ref t4,.ref t5,.ref t6,.ref t7,.ref t8,.non]):=upd_same
  have ba:∀ y ∈ ([.ref t1,.ref t2,.ref t3,.ref t4,.ref t5,.ref t6,.ref t7,.ref t8,.non]:List V),Ord (upd J8 la (.lst [.ref t1,.ref t2,.ref t3,.ref t4,.ref t5,.ref t6,.ref t7,.ref t8,.non])) y false:=by
   intro y hy
   simp only [List.mem_cons,List.not_mem_nil,or_false] at hy
   rcases hy with rfl | rfl | rfl | rfl | rfl | rfl | rfl | rfl | rfl
   ·exact bad_tup (sa _ _ (s8 _ _ (s7 _ _ (s6 _ _ (s5 _ _ (s4 _ _ (s3 _ _ (s2 _ _ z1)))))))) (by intro y hy; simp only [List.mem_cons,List.not_mem_nil,or_false] at hy; first | exact hy.elim | (rcases hy with rfl | rfl | rfl <;> constructor) | (rcases hy with rfl | rfl <;> constructor) | (obtain rfl:=hy; constructor)) (by kernel_rfl)
   ·exact bad_tup (sa _ _ (s8 _ _ (s7 _ _ (s6 _ _ (s5 _ _ (s4 _ _ (s3 _ _ z2))))))) (by intro y hy; simp only [List.mem_cons,List.not_mem_nil,or_false] at hy; first | exact hy.elim | (rcases hy with rfl | rfl | rfl <;> constructor) | (rcases hy with rfl | rfl <;> constructor) | (obtain rfl:=hy; constructor)) (by kernel_rfl)
   ·exact bad_tup (sa _ _ (s8 _ _ (s7 _ _ (s6 _ _ (s5 _ _ (s4 _ _ z3)))))) (by intro y hy; simp only [List.mem_cons,List.not_mem_nil,or_false] at hy; first | exact hy.elim | (rcases hy with rfl | rfl | rfl <;> constructor) | (rcases hy with rfl | rfl <;> constructor) | (obtain rfl:=hy; constructor)) (by kernel_rfl)
   ·exact bad_tup (sa _ _ (s8 _ _ (s7 _ _ (s6 _ _ (s5 _ _ z4))))) (by intro y hy; simp only [List.mem_cons,List.not_mem_nil,or_false] at hy; first | exact hy.elim | (rcases hy with rfl | rfl | rfl <;> constructor) | (rcases hy with rfl | rfl <;> constructor) | (obtain rfl:=hy; constructor)) (by kernel_rfl)
   ·exact bad_tup (sa _ _ (s8 _ _ (s7 _ _ (s6 _ _ z5)))) (by intro y hy; simp only [List.mem_cons,List.not_mem_nil,or_false] at hy; first | exact hy.elim | (rcases hy with rfl | rfl | rfl <;> constructor) | (rcases hy with rfl | rfl <;> constructor) | (obtain rfl:=hy; constructor)) (by kernel_rfl)
   ·exact bad_lst (sa _ _ (s8 _ _ (s7 _ _ z6)))
   ·exact bad_tup (sa _ _ (s8 _ _ z7)) (by intro y hy; simp only [List.mem_cons,List.not_mem_nil,or_false] at hy; first | exact hy.elim | (rcases hy with rfl | rfl | rfl <;> constructor) | (rcases hy with rfl | rfl <;> constructor) | (obtain rfl:=hy; constructor)) (by kernel_rfl)
   ·exact bad_tup (sa _ _ z8) (λy hy=>by cases hy) (by kernel_rfl)
   ·exact ⟨.non,.inl ⟨rfl,rfl⟩⟩
  have Sa:Same H (upd J8 la (.lst [.ref t1,.ref t2,.ref t3,.ref t4,.ref t5,.ref t6,.ref t7,.ref t8,.non])):=(s1.trans (s2.trans (s3.trans (s4.trans (s5.trans (s6.trans (s7.trans (s8.trans sa))))))))
  clear s1 z1 s2 z2 s3 z3 s4 z4 s5 z5 s6 z6 s7 z7 s8 z8 sa
  generalize upd J8 la (.lst [.ref t1,.ref t2,.ref t3,.ref t4,.ref t5,.ref t6,.ref t7,.ref t8,.non])=Ja at *
  refine ⟨_,rfl,?_⟩
  refine ⟨ by show 2<=sizeLine; decide,λt20 ht20=>?_⟩
  have s20:=same_new (o:=.tup [.str "tell",.bl true]) ht20
  have z20:upd Ja t20 (.tup [.str "tell",.bl true]) t20=some (.tup [.str "tell",.bl true]):=upd_same
  generalize upd Ja t20 (.tup [.str "tell",.bl true])=J20 at *
  refine ⟨ by show 3<=sizeLine; decide,λt21 ht21=>?_⟩
  have s21:=same_new (o:=.tup [.str "nought",.int 0,.non]) ht21
  have z21:upd J20 t21 (.tup [.str "nought",.int 0,.non]) t21=some (.tup [.str "nought",.int 0,.non]):=upd_same
  generalize upd J20 t21 (.tup [.str "nought",.int 0,.non])=J21 at *
  refine ⟨ by show 2<=sizeLine; decide,λt22 ht22=>?_⟩
  have s22:=same_new (o:=.tup [.str "add",.int 0]) ht22
  have z22:upd J21 t22 (.tup [.str "add",.int 0]) t22=some (.tup [.str "add",.int 0]):=upd_same
  generalize upd J21 t22 (.tup [.str "add",.int 0])=J22 at *
  refine ⟨by show 4<=sizeLine; decide,λlb hlb=>?_⟩
  have sb:=same_new (o:=.lst [.ref t20,.ref t21,.ref t22,.int 7]) hlb
  have zb:upd J22 lb (.lst [.ref t20,.ref t21,.ref t22,.int 7]) lb=some (.lst [.ref t20,.ref t21,.ref t22,.int 7]):=upd_same
  have bb:∀ y ∈ ([.ref t20,.ref t21,.ref t22,.int 7]:List V),Ord (upd J22 lb (.lst [.ref t20,.ref t21,.ref t22,.int 7])) y false:=by
   intro y hy
   simp only [List.mem_cons,List.not_mem_nil,or_false] at hy
   rcases hy with rfl | rfl | rfl | rfl
   ·exact bad_tup (sb _ _ (s22 _ _ (s21 _ _ z20))) (by intro y hy; simp only [List.mem_cons,List.not_mem_nil,or_false] at hy; first | exact hy.elim | (rcases hy with rfl | rfl | rfl <;> constructor) | (rcases hy with rfl | rfl <;> constructor) | (obtain rfl:=hy; constructor)) (by kernel_rfl)
   ·exact bad_tup (sb _ _ (s22 _ _ z21)) (by intro y hy; simp only [List.mem_cons,List.not_mem_nil,or_false] at hy; first | exact hy.elim | (rcases hy with rfl | rfl | rfl <;> constructor) | (rcases hy with rfl | rfl <;> constructor) | (obtain rfl:=hy; constructor)) (by kernel_rfl)
   ·exact bad_tup (sb _ _ z22) (by intro y hy; simp only [List.mem_cons,List.not_mem_nil,or_false] at hy; first | exact hy.elim | (rcases hy with rfl | rfl | rfl <;> constructor) | (rcases hy with rfl | rfl <;> constructor) | (obtain rfl:=hy; constructor)) (by kernel_rfl)
   ·exact ⟨.int _,.inl ⟨rfl,rfl⟩⟩
  have Sb:Same Ja (upd J22 lb (.lst [.ref t20,.ref t21,.ref t22,.int 7])):=(s20.trans (s21.trans (s22.trans sb)))
  clear s20 z20 s21 z21 s22 z22 sb
  generalize upd J22 lb (.lst [.ref t20,.ref t21,.ref t22,.int 7])=Jb at *
  refine ⟨la,lb,_,_,rfl,rfl,Sb _ _ za,zb,by show 13<=sizeLine; decide,λlc hlc=>?_⟩
  have hlc0:=hlc
  have sxc:=same_new (o:=.lst ([.ref t1,.ref t2,.ref t3,.ref t4,.ref t5,.ref t6,.ref t7,.ref t8,.non]++[.ref t20,.ref t21,.ref t22,.int 7]:List V)) hlc
  have zc:upd Jb lc (.lst ([.ref t1,.ref t2,.ref t3,.ref t4,.ref t5,.ref t6,.ref t7,.ref t8,.non]++[.ref t20,.ref t21,.ref t22,.int 7]:List V)) lc=some (.lst ([.ref t1,.ref t2,.ref t3,.ref t4,.ref t5,.ref t6,.ref t7,.ref t8,.non]++[.ref t20,.ref t21,.ref t22,.int 7]:List V)):=upd_same
  have Sc:=(Sa.trans Sb).trans sxc
  have bc:∀ y ∈ ([.ref t1,.ref t2,.ref t3,.ref t4,.ref t5,.ref t6,.ref t7,.ref t8,.non]++[.ref t20,.ref t21,.ref t22,.int 7]:List V),Ord (upd Jb lc (.lst ([.ref t1,.ref t2,.ref t3,.ref t4,.ref t5,.ref t6,.ref t7,.ref t8,.non]++[.ref t20,.ref t21,.ref t22,.int 7]:List V))) y false:=λy hy=>by
   rcases List.mem_append.mp hy with z | z
   ·exact ((ba y z).same Sb).same sxc
   ·exact (bb y z).same sxc
  have lbl:([.ref t1,.ref t2,.ref t3,.ref t4,.ref t5,.ref t6,.ref t7,.ref t8,.non]++[.ref t20,.ref t21,.ref t22,.int 7]:List V).length=13:=rfl
  generalize upd Jb lc (.lst ([.ref t1,.ref t2,.ref t3,.ref t4,.ref t5,.ref t6,.ref t7,.ref t8,.non]++[.ref t20,.ref t21,.ref t22,.int 7]:List V))=Jc at *
  generalize ([.ref t1,.ref t2,.ref t3,.ref t4,.ref t5,.ref t6,.ref t7,.ref t8,.non]++[.ref t20,.ref t21,.ref t22,.int 7]:List V)=bl at *
  have noc:lc≠p:=λz=>by
   have:=(Sa.trans Sb) _ _ hp
   rw [<- z,hlc] at this; cases this
  clear ba bb Sa Sb sxc za zb
  have hpc:=Sc _ _ hp
  have pick:∀ k:Nat,k<13->∃ y,atI bl (k:Int)=some y/\y ∈ bl:=λk h=>⟨_,atI_nat (List.getElem?_eq_getElem (by omega)),List.getElem_mem _⟩
  refine ⟨_,rfl,_,rfl,c,18149,13,rfl,by decide,λv v0 v1=>?_⟩
  obtain ⟨i1,rfl⟩:∃ k:Nat,v=(k:Int):=⟨v.toNat,by omega⟩
  obtain ⟨y1,ey1,my1⟩:=pick i1 (by omega)
  refine ⟨lc,_,_,y1,rfl,rfl,SqL.of zc,ey1,_,rfl,_,rfl,p,_,_,k,rfl,rfl,hpc,ixN_nat (by omega),?_⟩
  have b1:=ord_put (ys:=xs.set k y1) hpc (bc y1 my1)
  have k1:∀ b o,b≠p->H b=some o->upd Jc p (.lst (xs.set k y1)) b=some o:=λb o nb e=>by rw [upd_ne nb]; exact Sc _ _ e
  have z1:upd Jc p (.lst (xs.set k y1)) lc=some (.lst bl):=by rw [upd_ne noc]; exact zc
  have p1:upd Jc p (.lst (xs.set k y1)) p=some (.lst (xs.set k y1)):=upd_same
  have o1:∀ z ∈ xs,Ord (upd Jc p (.lst (xs.set k y1))) z true:=λz hz=>ord_put hpc ((ho z hz).same Sc)
  have c1:∀ y ∈ bl,Ord (upd Jc p (.lst (xs.set k y1))) y false:=λy hy=>ord_put hpc (bc y hy)
  generalize upd Jc p (.lst (xs.set k y1))=J1 at *
  have kl:k<xs.length:=by omega
  refine ⟨_,rfl,_,rfl,x,ns,1,rfl,hk J1 k1,_,rfl,p,_,rfl,.inl (SqL.of p1),_,rfl,_,_,rfl,rfl,_,13499,_,rfl,(by show (0:Int)<((xs.set k y1).length:Int) - (k:Int); rw [List.length_set]; omega),λv v0 v1=>?_⟩
  obtain ⟨d,rfl⟩:∃ d:Nat,v=(d:Int):=⟨v.toNat,by omega⟩
  rw [List.length_set] at v1
  refine ⟨_,_,rfl,rfl,?_⟩
  refine ⟨_,rfl,_,rfl,_,_,rfl,rfl,_,rfl,ite2 (λh=>?_) (λh=>?_)⟩
  ·have h:=of_decide_eq_true h
   have ed:(k:Int)+(d:Int)=((k+d:Nat):Int):=by omega
   refine ⟨_,rfl,_,rfl,c,11717,13,rfl,by decide,λv v0 v1=>?_⟩
   obtain ⟨i2,rfl⟩:∃ k:Nat,v=(k:Int):=⟨v.toNat,by omega⟩
   obtain ⟨y2,ey2,my2⟩:=pick i2 (by omega)
   refine ⟨lc,_,_,y2,rfl,rfl,SqL.of z1,ey2,_,rfl,_,rfl,p,_,_,k+d,rfl,rfl,p1,(by rw [ed]; exact ixN_nat (by rw [List.length_set]; omega)),?_⟩
   refine ⟨_,rfl,q _ k y1 ((xs.set k y1).set (k+d) y2) (λb o nb e=>by rw [upd_ne nb]; exact k1 b o nb e) upd_same (by rw [List.length_set,List.length_set]) (by rw [List.getElem?_set_ne (by omega),List.getElem?_set_self kl]) (ord_put p1 b1) (λi z hi hz=>?_)⟩
   rw [List.getElem?_set_ne (by omega),List.getElem?_set_ne (by omega)] at hz
   exact ord_put p1 (o1 z (List.mem_of_getElem? hz))
  ·refine ⟨_,rfl,q _ k y1 (xs.set k y1) k1 p1 List.length_set (List.getElem?_set_self kl) b1 (λi z hi hz=>?_)⟩
   rw [List.getElem?_set_ne (by omega)] at hz
   exact o1 z (List.mem_of_getElem? hz)
end
end K32
end
section
namespace K32
open PySem L2
abbrev sRefd:Stmt:=top 70
abbrev sNop:Stmt:=top 71
structure Kd (K:PySem.W.Frag) (mg:Str->Option Value) (HE NR NT FA NB NI NSh:Addr):Prop where
 m0:mg "NoProgram"=some (.ref NR)
 m1:mg "NoText"=some (.ref NT)
 m2:mg "Fault"=some (.ref FA)
 m3:mg "NoBound"=some (.ref NB)
 m4:mg "NoImage"=some (.ref NI)
 m5:mg "NoShelf"=some (.ref NSh)
 he:mg "HouseError"=some (.ref HE)
 mv:mg "ValueError"=none
 i0:IsC K NR (.ref NR) true
 iv:IsC K NR (.ty "ValueError") true
 i1:IsC K NR (.ref NT) false
 i2:IsC K NR (.ref FA) false
 i3:IsC K NR (.ref NB) false
 i4:IsC K NR (.ref NI) false
 i5:IsC K NR (.ref NSh) false
 j4:IsC K NI (.ref NI) true
 j5:IsC K NSh (.ref NSh) true
 xp:PySem.W.exmOne K (.ref NR) (.ref HE)=some true
 xi:PySem.W.exmOne K (.ref NI) (.ref HE)=some true
 xs:PySem.W.exmOne K (.ref NSh) (.ref HE)=some true
theorem ffP_place (x:V):(ffP [x]).lookup ("place":Str)=some x:=by
 unfold ffP
 simp
structure Rfd (NR:Addr) (H:Hp) (e:Addr) (v:V):Prop where
 ob:∃ d,H e=some (xob e (.ref NR) (some d))/\H d=some (xdo d (ffP [v]))
inductive spRefP (NR:Addr) (vs:List V) (H:Hp) (Q:VK) (E:XK):Prop
 | mk (k:Int) (p:Addr) (ps:Pgs) (n:Int) (z u v:V) (_:vs=[.int k,.ref p,.int n,z,u]) (_:Pg H p ps) (_:Good ps) (_:1<=ps.length) (_:ps.length<=24) (_:1<=n) (_:n<=12) (_:NoPg H z u v) (_:∀ e H',Same H H'->Rfd NR H' e v->Q (.ref e) H'):spRefP NR vs H Q E
inductive spRefI (NI:Addr) (vs:List V) (H:Hp) (Q:VK) (E:XK):Prop
 | mk (x y z u:V) (_:vs=[.int 2,x,y,z,u]) (_:BadI H x) (_:∀ e H',Same H H'->H' e=some (xob e (.ref NI) none)->Q (.ref e) H'):spRefI NI vs H Q E
inductive spRefS (NSh:Addr) (vs:List V) (H:Hp) (Q:VK) (E:XK):Prop
 | mk (p:Addr) (ps:Pgs) (y z u:V) (_:vs=[.int 2,.ref p,y,z,u]) (_:Pg H p ps) (_:Good ps) (_:1<=ps.length) (_:ps.length<=24) (_:Th H y) (_:goodM y=false) (_:∀ e H',Same H H'->H' e=some (xob e (.ref NSh) none)->Q (.ref e) H'):spRefS NSh vs H Q E
def spRefd (NR NI NSh:Addr):Sp:=λvs H Q E=>spRefP NR vs H Q E\/(λvs H Q E=>spRefI NI vs H Q E\/spRefS NSh vs H Q E) vs H Q E
inductive spNop (NR:Addr) (vs:List V) (H:Hp) (Q:VK) (E:XK):Prop
 | mk (e:Addr) (v:V) (_:vs=[.ref e,v]) (_:Rfd NR H e v) (_:(v=.non\/∃ k:Int,v=.int k)) (_:Q (.bl true) H):spNop NR vs H Q E
section
variable {P : Program} {w : World} {K : PySem.W.Frag} {mg : Str → Option Value} {base : Heap} {C NP NL NW NI SC PL WC FA MC NR NSh NT NB HE : Addr}
theorem scRf:FnScope ["_law_kind","_law_pages","_law_most","_law_rows","_law_entry","_law_found","e"] ["_law_kind","_law_pages","_law_most","_law_rows","_law_entry"] (defScope sRefd):=FSc
theorem ok_refp {f f1 f2 f3 f4:Addr} {fd fd1 fd2 fd3 fd4:FuncData} (F:Fun K "_law_refused" "_law_refused" sRefd f fd) (D1:Dn K mg "checked" sChk ["program","entry"] f1 fd1) (G1:FnOk P w K mg base (CXr P w) 4 f1 fd1 ["program","entry"] (spChkN NR)) (D2:Dn K mg "bare" sBare ["pages","most","program","entry","words"] f2 fd2) (G2:FnOk P w K mg base (CXr P w) 10 f2 fd2 ["pages","most","program","entry","words"] (spBareN NI NSh NR)) (MM:Mk K MC f3) (mM:mg "Machine"=some (.ref MC)) (BM:Binds K fd3 ["self","ways","program","entry","core","events"] [.none,.none]) (GI:FnOk P w K mg base (CXr P w) 5 f3 fd3 ["self","ways","program","entry","core","events"] (spMInitB MC NR)) (MP:Mk K PL f4) (mP:mg "Plain"=some (.ref PL)) (BP:Binds K fd4 ["self","pages","most","words"] []) (GP:FnOk P w K mg base CX0 8 f4 fd4 ["self","pages","most","words"] (spPInit C SC PL)) (KD:Kd K mg HE NR NT FA NB NI NSh):FnOk P w K mg base CX0 11 f fd ["_law_kind","_law_pages","_law_most","_law_rows","_law_entry"] (spRefP NR):=by
 refine F.ok scRf (λvs H Q E h'=>?_) (λcdv A outer s H vs Q E hr h'=>?_)
 ·obtain ⟨k,p,ps,n,z,u,v,rfl,_⟩:=h'
  rfl
 ·obtain ⟨k,p,ps,n,z,u,v,rfl,gp,hg,l1,l2,n1,n2,bad,q⟩:=h'
  have hr8:Room 9 _:=hr.mono (by decide)
  have hr6:Room 6 _:=hr.mono (by decide)
  have hr4:Room 4 _:=hr.mono (by decide)
  have done:∀ H1,Same H H1->∀ d,H1 d=none->∀ e,upd H1 d (xdo d (ffP [v])) e=none->Q (.ref e) (upd (upd H1 d (xdo d (ffP [v]))) e (xob e (.ref NR) (some d))):=λH1 s1 d hd e he=>q e _ (s1.trans ((same_new hd).trans (same_new he))) ⟨⟨d,upd_same,by rw [upd_ne (ne_of_none upd_same he)]; exact upd_same⟩⟩
  refine ⟨_,(pss_cons (ps_set (i:=5) scRf.nd rfl (Or.inl rfl) pe_non) (pss_cons (ps_try (i:=6) scRf.nd rfl rfl rfl rfl KD.he (psx_if (pt_cmpR op_eq (pv 0) pe_int (nomark _)) (psx_expr (pex_call G1 hr4 (by rfl) D1.m D1.F.kp D1.b .nil (pa_cons (pv 3) (pa_cons (pv 4) pa_nil)))) (psx_if (pt_cmpR op_eq (pv 0) pe_int (nomark _)) (psx_expr (pex_make MM GI hr6 (by rfl) mM BM (show Vals [V.non,V.non] [Value.none,Value.none] from .cons rfl (.cons rfl .nil)) (pa_cons (pe_make MP GP hr8 (by rfl) mP BP .nil pass0 (pa_cons (pv 1) (pa_cons (pv 2) (pa_cons (pe_lst pa_nil) pa_nil)))) (pa_cons (pv 3) (pa_cons (pv 4) pa_nil))))) (psx_expr (pex_call G2 hr (by rfl) D2.m D2.F.kp D2.b .nil (pa_cons (pv 1) (pa_cons (pv 2) (pa_cons (pv 3) (pa_cons (pv 4) (pa_cons (pe_lst pa_nil) pa_nil))))))))) (λe=>pss_one (ps_set (i:=5) scRf.nd rfl (Or.inl rfl) (pv 6)))) (pss_one (ps_ret (pv 5))))),?_⟩
  refine ⟨_,rfl,rfl,_,rfl,ite2 (λ_=>?_) (λ_=>⟨_,rfl,rfl,_,rfl,ite2 (λ_=>?_) (λ_=>?_)⟩)⟩
  ·exact ⟨_,rfl,_,rfl,z,u,v,rfl,bad,λH1 s1 d hd=>⟨KD.xp,λe he=>⟨_,rfl,⟨_,rfl,done H1 s1 d hd e he⟩⟩⟩⟩
  ·refine ⟨_,rfl,_,rfl,by show 0<=sizeLine; decide,λl hl=>?_⟩
   have s0:=same_new (o:=.lst ([]:List V)) hl
   have zl:upd H l (.lst ([]:List V)) l=some (.lst (([]:List Bool).map V.bl)):=upd_same
   generalize upd H l (.lst ([]:List V))=H0 at *
   refine λwy dw hw hdw nw=>?_
   have s1:Same H0 (upd (upd H0 dw (.own wy)) wy (.ins PL dw [])):=(same_new hdw).trans (same_new (by rw [upd_ne nw.symm]; exact hw))
   refine ⟨wy,dw,p,l,ps,n,[],rfl,upd_same,(gp.same s0).same s1,hg,l1,l2,n1,n2,s1 _ _ zl,λm h r q' aw H2 qs b2 W2 c2 f2=>⟨rfl,?_⟩⟩
   have s2:Same H0 H2:=λb o e=>b2 b o (ne_of_none e hw) (s1 _ _ e)
   refine ⟨_,rfl,_,rfl,λx dx hx hdx nx=>?_⟩
   have s3:Same H2 (upd (upd H2 dx (.own x)) x (.ins MC dx [])):=(same_new hdx).trans (same_new (by rw [upd_ne nx.symm]; exact hx))
   have s03:=s0.trans (s2.trans s3)
   exact ⟨x,dx,.ref wy,z,u,v,rfl,upd_same,bad.same s03,λH1 s4 d hd=>⟨KD.xp,λe he=>⟨_,rfl,⟨_,rfl,done H1 (s03.trans s4) d hd e he⟩⟩⟩⟩
  ·refine ⟨_,rfl,_,rfl,_,rfl,_,rfl,by show 0<=sizeLine; decide,λl hl=>?_⟩
   have s0:=same_new (o:=.lst ([]:List V)) hl
   have zl:upd H l (.lst ([]:List V)) l=some (.lst (([]:List Bool).map V.bl)):=upd_same
   generalize upd H l (.lst ([]:List V))=H0 at *
   exact .inr (.inr ⟨p,l,ps,n,z,u,v,[],rfl,gp.same s0,hg,l1,l2,n1,n2,zl,bad.same s0,λH1 s4 d hd=>⟨KD.xp,λe he=>⟨_,rfl,⟨_,rfl,done H1 (s0.trans s4) d hd e he⟩⟩⟩⟩)
theorem ok_refi {f f1 f2 f3 f4:Addr} {fd fd1 fd2 fd3 fd4:FuncData} (F:Fun K "_law_refused" "_law_refused" sRefd f fd) (D1:Dn K mg "checked" sChk ["program","entry"] f1 fd1) (G1:FnOk P w K mg base (CXr P w) 4 f1 fd1 ["program","entry"] (spChkN NR)) (D2:Dn K mg "bare" sBare ["pages","most","program","entry","words"] f2 fd2) (G2:FnOk P w K mg base (CXr P w) 10 f2 fd2 ["pages","most","program","entry","words"] (spBareN NI NSh NR)) (MM:Mk K MC f3) (mM:mg "Machine"=some (.ref MC)) (BM:Binds K fd3 ["self","ways","program","entry","core","events"] [.none,.none]) (GI:FnOk P w K mg base (CXr P w) 5 f3 fd3 ["self","ways","program","entry","core","events"] (spMInitB MC NR)) (MP:Mk K PL f4) (mP:mg "Plain"=some (.ref PL)) (BP:Binds K fd4 ["self","pages","most","words"] []) (GP:FnOk P w K mg base CX0 8 f4 fd4 ["self","pages","most","words"] (spPInit C SC PL)) (KD:Kd K mg HE NR NT FA NB NI NSh):FnOk P w K mg base CX0 11 f fd ["_law_kind","_law_pages","_law_most","_law_rows","_law_entry"] (spRefI NI):=by
 refine F.ok scRf (λvs H Q E h'=>?_) (λcdv A outer s H vs Q E hr h'=>?_)
 ·obtain ⟨x,y,z,u,rfl,_⟩:=h'
  rfl
 ·obtain ⟨x,y,z,u,rfl,bad,q⟩:=h'
  have hr8:Room 9 _:=hr.mono (by decide)
  have hr6:Room 6 _:=hr.mono (by decide)
  have hr4:Room 4 _:=hr.mono (by decide)
  refine ⟨_,(pss_cons (ps_set (i:=5) scRf.nd rfl (Or.inl rfl) pe_non) (pss_cons (ps_try (i:=6) scRf.nd rfl rfl rfl rfl KD.he (psx_if (pt_cmpR op_eq (pv 0) pe_int (nomark _)) (psx_expr (pex_call G1 hr4 (by rfl) D1.m D1.F.kp D1.b .nil (pa_cons (pv 3) (pa_cons (pv 4) pa_nil)))) (psx_if (pt_cmpR op_eq (pv 0) pe_int (nomark _)) (psx_expr (pex_make MM GI hr6 (by rfl) mM BM (show Vals [V.non,V.non] [Value.none,Value.none] from .cons rfl (.cons rfl .nil)) (pa_cons (pe_make MP GP hr8 (by rfl) mP BP .nil pass0 (pa_cons (pv 1) (pa_cons (pv 2) (pa_cons (pe_lst pa_nil) pa_nil)))) (pa_cons (pv 3) (pa_cons (pv 4) pa_nil))))) (psx_expr (pex_call G2 hr (by rfl) D2.m D2.F.kp D2.b .nil (pa_cons (pv 1) (pa_cons (pv 2) (pa_cons (pv 3) (pa_cons (pv 4) (pa_cons (pe_lst pa_nil) pa_nil))))))))) (λe=>pss_one (ps_set (i:=5) scRf.nd rfl (Or.inl rfl) (pv 6)))) (pss_one (ps_ret (pv 5))))),?_⟩
  refine ⟨_,rfl,rfl,_,rfl,iteFS (by decide) ⟨_,rfl,rfl,_,rfl,iteFS (by decide) ?_⟩⟩
  refine ⟨_,rfl,_,rfl,_,rfl,_,rfl,by show 0<=sizeLine; decide,λl hl=>?_⟩
  have s0:=same_new (o:=.lst ([]:List V)) hl
  generalize upd H l (.lst ([]:List V))=H0 at *
  exact .inl ⟨x,y,z,u,.ref l,rfl,bad.same s0,λH1 s4=>⟨KD.xi,λe he=>⟨_,rfl,⟨_,rfl,q e _ (s0.trans (s4.trans (same_new he))) upd_same⟩⟩⟩⟩
theorem ok_refs {f f1 f2 f3 f4:Addr} {fd fd1 fd2 fd3 fd4:FuncData} (F:Fun K "_law_refused" "_law_refused" sRefd f fd) (D1:Dn K mg "checked" sChk ["program","entry"] f1 fd1) (G1:FnOk P w K mg base (CXr P w) 4 f1 fd1 ["program","entry"] (spChkN NR)) (D2:Dn K mg "bare" sBare ["pages","most","program","entry","words"] f2 fd2) (G2:FnOk P w K mg base (CXr P w) 10 f2 fd2 ["pages","most","program","entry","words"] (spBareN NI NSh NR)) (MM:Mk K MC f3) (mM:mg "Machine"=some (.ref MC)) (BM:Binds K fd3 ["self","ways","program","entry","core","events"] [.none,.none]) (GI:FnOk P w K mg base (CXr P w) 5 f3 fd3 ["self","ways","program","entry","core","events"] (spMInitB MC NR)) (MP:Mk K PL f4) (mP:mg "Plain"=some (.ref PL)) (BP:Binds K fd4 ["self","pages","most","words"] []) (GP:FnOk P w K mg base CX0 8 f4 fd4 ["self","pages","most","words"] (spPInit C SC PL)) (KD:Kd K mg HE NR NT FA NB NI NSh):FnOk P w K mg base CX0 11 f fd ["_law_kind","_law_pages","_law_most","_law_rows","_law_entry"] (spRefS NSh):=by
 refine F.ok scRf (λvs H Q E h'=>?_) (λcdv A outer s H vs Q E hr h'=>?_)
 ·obtain ⟨p,ps,y,z,u,rfl,_⟩:=h'
  rfl
 ·obtain ⟨p,ps,y,z,u,rfl,gp,hg,l1,l2,th,bad,q⟩:=h'
  have hr8:Room 9 _:=hr.mono (by decide)
  have hr6:Room 6 _:=hr.mono (by decide)
  have hr4:Room 4 _:=hr.mono (by decide)
  refine ⟨_,(pss_cons (ps_set (i:=5) scRf.nd rfl (Or.inl rfl) pe_non) (pss_cons (ps_try (i:=6) scRf.nd rfl rfl rfl rfl KD.he (psx_if (pt_cmpR op_eq (pv 0) pe_int (nomark _)) (psx_expr (pex_call G1 hr4 (by rfl) D1.m D1.F.kp D1.b .nil (pa_cons (pv 3) (pa_cons (pv 4) pa_nil)))) (psx_if (pt_cmpR op_eq (pv 0) pe_int (nomark _)) (psx_expr (pex_make MM GI hr6 (by rfl) mM BM (show Vals [V.non,V.non] [Value.none,Value.none] from .cons rfl (.cons rfl .nil)) (pa_cons (pe_make MP GP hr8 (by rfl) mP BP .nil pass0 (pa_cons (pv 1) (pa_cons (pv 2) (pa_cons (pe_lst pa_nil) pa_nil)))) (pa_cons (pv 3) (pa_cons (pv 4) pa_nil))))) (psx_expr (pex_call G2 hr (by rfl) D2.m D2.F.kp D2.b .nil (pa_cons (pv 1) (pa_cons (pv 2) (pa_cons (pv 3) (pa_cons (pv 4) (pa_cons (pe_lst pa_nil) pa_nil))))))))) (λe=>pss_one (ps_set (i:=5) scRf.nd rfl (Or.inl rfl) (pv 6)))) (pss_one (ps_ret (pv 5))))),?_⟩
  refine ⟨_,rfl,rfl,_,rfl,iteFS (by decide) ⟨_,rfl,rfl,_,rfl,iteFS (by decide) ?_⟩⟩
  refine ⟨_,rfl,_,rfl,_,rfl,_,rfl,by show 0<=sizeLine; decide,λl hl=>?_⟩
  have s0:=same_new (o:=.lst ([]:List V)) hl
  generalize upd H l (.lst ([]:List V))=H0 at *
  exact .inr (.inl ⟨p,ps,y,z,u,.ref l,rfl,gp.same s0,hg,l1,l2,th.same s0,bad,λH1 s4=>⟨KD.xs,λe he=>⟨_,rfl,⟨_,rfl,q e _ (s0.trans (s4.trans (same_new he))) upd_same⟩⟩⟩⟩)
theorem scNp:FnScope ["_law_found","_law_due"] ["_law_found","_law_due"] (defScope sNop):=FSc
theorem ok_nop {f fI:Addr} {fd:FuncData} (F:Fun K "_law_is_no_program" "_law_is_no_program" sNop f fd) (KD:Kd K mg HE NR NT FA NB NI NSh) (NP:Npg K mg NR fI) (T:Txt K mg):FnOk P w K mg base CX0 1 f fd ["_law_found","_law_due"] (spNop NR):=by
 refine F.ok scNp (λvs H Q E h'=>?_) (λcdv A outer s H vs Q E hr h'=>?_)
 ·obtain ⟨e,v,rfl,_⟩:=h'
  rfl
 ·obtain ⟨e,v,rfl,rf,hv,q⟩:=h'
  obtain ⟨d,he,hd⟩:=rf.ob
  refine ⟨_,(pss_cons (ps_if (PW.pt (pw_or (pt_not (pt_val (pe_callB (call_isexc KD.i0) (by rfl) T.isi PyProof.Rows.boot_isinstance (pa_cons (pv 0) (pa_cons (pe_glob (by rfl) KD.m0 (show RelV (.ref NR) (.ref NR) from rfl)) pa_nil))))) (pw_or1 (pt_not (pt_val (pe_callB (call_isexc KD.iv) (by rfl) T.isi PyProof.Rows.boot_isinstance (pa_cons (pv 0) (pa_cons (pe_bltn (by rfl) KD.mv PyProof.Rows.Boot.«ValueError» (show RelV (.ty "ValueError") (.type "ValueError") from rfl)) pa_nil)))))))) (pss_one (ps_ret pe_bl)) pss_nil) (pss_cons (ps_if (PW.pt (pw_or (pt_val (pe_callB (call_isexc KD.i1) (by rfl) T.isi PyProof.Rows.boot_isinstance (pa_cons (pv 0) (pa_cons (pe_glob (by rfl) KD.m1 (show RelV (.ref NT) (.ref NT) from rfl)) pa_nil)))) (pw_or (pt_val (pe_callB (call_isexc KD.i2) (by rfl) T.isi PyProof.Rows.boot_isinstance (pa_cons (pv 0) (pa_cons (pe_glob (by rfl) KD.m2 (show RelV (.ref FA) (.ref FA) from rfl)) pa_nil)))) (pw_or1 (pt_val (pe_callB (call_isexc KD.i3) (by rfl) T.isi PyProof.Rows.boot_isinstance (pa_cons (pv 0) (pa_cons (pe_glob (by rfl) KD.m3 (show RelV (.ref NB) (.ref NB) from rfl)) pa_nil)))))))) (pss_one (ps_ret pe_bl)) pss_nil) (pss_cons (ps_if (PW.pt (pw_or (pt_val (pe_callB (call_isexc KD.i4) (by rfl) T.isi PyProof.Rows.boot_isinstance (pa_cons (pv 0) (pa_cons (pe_glob (by rfl) KD.m4 (show RelV (.ref NI) (.ref NI) from rfl)) pa_nil)))) (pw_or1 (pt_val (pe_callB (call_isexc KD.i5) (by rfl) T.isi PyProof.Rows.boot_isinstance (pa_cons (pv 0) (pa_cons (pe_glob (by rfl) KD.m5 (show RelV (.ref NSh) (.ref NSh) from rfl)) pa_nil))))))) (pss_one (ps_ret pe_bl)) pss_nil) (pss_cons (ps_if (pt_cmpR op_isN (pv 1) pe_non (nomark _)) (pss_one (ps_ret (pe_cmpR op_isN (pe_xfldK (K:=K) rfl (pv 0) rfl) pe_non (nomark _)))) pss_nil) (pss_one (ps_ret (pe_and (pe_callB call_isint (by rfl) T.isi PyProof.Rows.boot_isinstance (pa_cons (pe_xfldK (K:=K) rfl (pv 0) rfl) (pa_cons (pe_bltn (by rfl) T.int PyProof.Rows.boot_int (show RelV (.ty "int") (.type "int") from rfl)) pa_nil))) (pe_and (pe_not (pe_callB call_isbool (by rfl) T.isi PyProof.Rows.boot_isinstance (pa_cons (pe_xfldK (K:=K) rfl (pv 0) rfl) (pa_cons (pe_bltn (by rfl) T.boo PyProof.Rows.boot_bool (show RelV (.ty "bool") (.type "bool") from rfl)) pa_nil)))) (pe_one (pe_cmpR op_eq (pe_xfldK (K:=K) rfl (pv 0) rfl) (pv 1) (nomark _))))))))))),?_⟩
  refine ⟨_,rfl,e,some d,rfl,he,_,rfl,iteF ⟨_,rfl,e,some d,rfl,he,_,rfl,iteF ?_⟩⟩
  refine ⟨_,rfl,e,some d,rfl,he,_,rfl,iteF ⟨_,rfl,e,some d,rfl,he,_,rfl,iteF ⟨_,rfl,e,some d,rfl,he,_,rfl,iteF ?_⟩⟩⟩
  refine ⟨_,rfl,e,some d,rfl,he,_,rfl,iteF ⟨_,rfl,e,some d,rfl,he,_,rfl,iteF ?_⟩⟩
  rcases hv with rfl | ⟨k,rfl⟩
  ·exact ⟨_,rfl,rfl,_,rfl,iteTS rfl ⟨_,rfl,e,NR,d,_,.non,rfl,he,hd,NP.x,NP.np,ffP_place .non,rfl,q⟩⟩
  ·refine ⟨_,rfl,rfl,_,rfl,iteFS rfl ?_⟩
   refine ⟨_,rfl,e,NR,d,_,.int k,rfl,he,hd,NP.x,NP.np,ffP_place _,.int k,rfl,.int k,_,rfl,iteT ?_⟩
   refine ⟨_,rfl,e,NR,d,_,.int k,rfl,he,hd,NP.x,NP.np,ffP_place _,.int k,rfl,.int k,_,rfl,_,rfl,iteT ?_⟩
   refine ⟨_,rfl,e,NR,d,_,.int k,rfl,he,hd,NP.x,NP.np,ffP_place _,_,rfl,rfl,?_⟩
   rw [decide_eq_true rfl]
   exact q
end
end K32
end
section
namespace K32
open PySem L2
abbrev sLaw:Stmt:=top 72
def Sx (K:PySem.W.Frag) (H:Hp) (a:Addr) (xs:List V) (X:Addr->Prop):Prop:=(Rd H a (.lst xs)/\¬ X a)\/∀ H',SqL K H' a xs
section
variable {K : PySem.W.Frag} {H H' : Hp} {a : Addr} {xs : List V} {X X' : Addr → Prop}
theorem Sx.sq (h:Sx K H a xs X):SqL K H a xs:=by
 rcases h with h | h
 ·exact .inl h.1
 ·exact h H
theorem Sx.go (h:Sx K H a xs X) (k:∀ b o,¬ X b->H b=some o->H' b=some o/\¬ X' b):Sx K H' a xs X':=by
 rcases h with ⟨h | ⟨o,h⟩,n⟩ | h
 ·exact .inl ⟨.inl (k _ _ n h).1,(k _ _ n h).2⟩
 ·exact .inl ⟨.inr ⟨o,(k _ _ n h).1⟩,(k _ _ n h).2⟩
 ·exact .inr h
theorem Sx.mk (h:SqL K H a xs) (k:∀ b,X b->H b=none):Sx K H a xs X:=by
 rcases h with (h | ⟨o,h⟩) | h
 ·exact .inl ⟨.inl h,λy=>by rw [k _ y] at h; cases h⟩
 ·exact .inl ⟨.inr ⟨o,h⟩,λy=>by rw [k _ y] at h; cases h⟩
 ·exact .inr λ_=>.inr h
end
inductive spLaw (K:PySem.W.Frag) (vs:List V) (H:Hp) (Q:VK) (E:XK):Prop
 | mk (a:Addr) (ns:List Int) (_:vs=[.ref a]) (_:SqL K H a (ns.map V.int)) (_:ns.length<=63) (_:∀ H',Q (.bl true) H'):spLaw K vs H Q E
theorem cut_60 (ns:List Int):∃ ms:List Int,cutV (ns.map V.int) (some 3) (some 63)=ms.map V.int/\ms.length<=60:=by
 refine ⟨(ns.drop (HT.sIx (ns.map V.int).length 0 (some 3))).take (HT.sIx (ns.map V.int).length (ns.map V.int).length (some 63) - HT.sIx (ns.map V.int).length 0 (some 3)),?_,?_⟩
 ·unfold cutV
  rw [List.map_take,List.map_drop]
 ·rw [show (some (3:Int))=some ((3:Nat):Int) from rfl,show (some (63:Int))=some ((63:Nat):Int) from rfl,HT.sIx_nat,HT.sIx_nat,List.length_take,List.length_drop]
  omega
def rowD (r:Ro):PyData:=.tuple (.str r.w::r.p.map PyData.int)
theorem strOk_w (r:Ro):PyData.strOk r.w=true:=by
 cases r with
 | way w a b=>cases w <;> kernel_rfl
 | _=>kernel_rfl
theorem rowD_ok (r:Ro):PyData.canLay0 (rowD r)=true/\PyData.depth (rowD r)<=1/\PyData.eqv (rowD r) (rowD r)=true:=by
 obtain ⟨h1,h2⟩:=layI r.p
 refine ⟨?_,?_,?_⟩
 ·simp only [rowD,PyData.canLay0,PyData.canLayAll0,h1,strOk_w,Bool.and_self]
 ·simp only [rowD,PyData.depth,PyData.depthAll,h2]
  decide
 ·simp only [rowD,PyData.eqv,PyData.eqvAll,eqvI r.p,beq_self_eq_true,Bool.and_self]
theorem rows_ok:∀ rr:List Ro,PyData.canLayAll0 (rr.map rowD)=true/\PyData.depthAll (rr.map rowD)<=1/\PyData.eqvAll (rr.map rowD) (rr.map rowD)=true
 | []=>⟨rfl,by decide,rfl⟩
 | o::r=>by
  obtain ⟨h1,h2,h3⟩:=rows_ok r
  obtain ⟨g1,g2,g3⟩:=rowD_ok o
  refine ⟨?_,?_,?_⟩
  ·simp only [List.map_cons,PyData.canLayAll0,h1,g1,Bool.and_self]
  ·simp only [List.map_cons,PyData.depthAll]
   omega
  ·simp only [List.map_cons,PyData.eqvAll,h3,g3,Bool.and_self]
theorem shapedR (rr:List Ro):SeqAt.shaped (.list (rr.map rowD))=true:=by
 obtain ⟨h1,h2,_⟩:=rows_ok rr
 simp only [SeqAt.shaped,PyData.canLay0,PyData.depth,h1,Bool.true_and]
 exact decide_eq_true (by omega)
theorem eqvR (rr:List Ro):PyData.eqv (.list (rr.map rowD)) (.list (rr.map rowD))=true:=by
 simp only [PyData.eqv]
 exact (rows_ok rr).2.2
theorem eqvRn {r:Ro} {rr:List Ro}:PyData.eqv (.list ((r::rr).map rowD)) (.list [])=false:=by
 simp only [PyData.eqv,List.map_cons,PyData.eqvAll]
theorem Rls.dats {K:PySem.W.Frag} {H:Hp} {ys:List V} {rr:List Ro} (h:Rls H ys rr):DatsR K H ys (rr.map rowD):=by
 induction h with
 | nil=>exact .nil
 | @cons t r ys rr e _ ih=>exact .cons (.tup (SqT.of e) (.cons (.str _) (datsI _))) ih
theorem rep_len1 {x:V}:∀ k:Nat,(List.replicate k [x]).flatten.length=k
 | 0=>rfl
 | k+1=>by rw [List.replicate_succ,List.flatten_cons,List.length_append,rep_len1 k]; show 1+k=k+1; omega
abbrev tRo:TE:=tCall spRowL [] E0 (tCons (tVar 0) tNil)
theorem comp_ro {K:PySem.W.Frag} {x:Addr} {ms:List Int} {σ:St} {H1:Hp} {Q:Addr->Hp->Prop} (hS:SqL K H1 x (ms.map V.int)) (hm:ms.length<=60) (kp:∀ H',Same H1 H'->SqL K H' x (ms.map V.int)) (hd:∀ D (ys:List V) (rr:List Ro) H',Same H1 H'->H' D=some (.lst ys)->H1 D=none->Rls H' ys rr->(∀ r ∈ rr,r.Ok)->ys.length<=60->Q D H') :
  ∀ D,H1 D=none->∃ W:Nat->Nat->List V->Hp->Prop,(∃ m,W 0 m [] (upd H1 D (.lst [])))/\∀ i m ys H,W i m ys H->H D=some (.lst ys) /\
   (((Itl K x).stop i H/\Q D H)\/((Itl K x).go i H/\∃ N:List V->Hp->Prop,(∀ zs H',N zs H'->∃ m',m'<m/\W (i+1) m' zs H')/\∀ y H',(Itl K x).yld i H y H'->tYes (some y::σ) H' λb H2=>if b=true then tRo (some y::σ) H2 λy H3=>H3 D=some (.lst ys)/\ys.length<sizeLine/\N (ys++[y]) (upd H3 D (.lst (ys++[y])))
    else N ys H2)):=by
 refine comp_list (xs:=ms.map V.int) (λD k ys H'=>∃ rr:List Ro,H1 D=none/\Same H1 H'/\H' D=some (.lst ys)/\Rls H' ys rr/\(∀ r ∈ rr,r.Ok)/\ys.length=k) ?_ ?_ ?_ ?_
 ·exact λD hD=>⟨[],hD,same_new hD,upd_same,.nil,(λr hr=>by cases hr),rfl⟩
 ·rintro D i ys H hi ⟨rr,hD,ss,e,_⟩
  exact ⟨kp H ss,e⟩
 ·rintro D i y ys H hy ⟨rr,hD,ss,e,rl,ok,hl⟩
  rw [List.getElem?_map] at hy
  cases em:ms[i]? with
  | none=>rw [em] at hy; cases hy
  | some c =>
   rw [em] at hy
   cases hy
   have hi:i<ms.length:=(List.getElem?_eq_some_iff.mp em).1
   refine iteT ⟨_,rfl,c,rfl,λt r H2 s2 ht hok=>⟨s2 _ _ e,?_,rr++[r],hD,(ss.trans s2).set hD,upd_same,?_,?_,by rw [List.length_append,hl]; rfl⟩⟩
   ·rw [hl]; exact Nat.lt_of_lt_of_le (show i<61 by omega) (by decide)
   ·have ed:=s2 _ _ e
    have up:∀ t' xs,H2 t'=some (.tup xs)->upd H2 D (.lst (ys++[.ref t])) t'=some (.tup xs):=λt' xs z=>by rw [upd_ne (ne_of z ed (by intro z; cases z))]; exact z
    exact ((rl.same s2).imp up).append (.cons (up _ _ ht) .nil)
   ·intro r' hr'
    rcases List.mem_append.mp hr' with z | z
    ·exact ok r' z
    ·rw [List.mem_singleton] at z; rw [z]; exact hok
 ·rintro D ys H' ⟨rr,hD,ss,e,rl,ok,hl⟩
  exact hd D ys rr H' ss e hD rl ok (by rw [hl,List.length_map]; exact hm)
section
variable {P : Program} {w : World} {K : PySem.W.Frag} {mg : Str → Option Value} {base : Heap} {C NP NL NW NI SC PL WC FA MC NR NSh NT NB HE : Addr}
theorem scLa:FnScope ["_law_script","_law_rows","_law_entry","_law_way","_law_due","_law_program","_law_bad","_law_pages","_law_machine","_law_kept","_law_told","_law_kind"] ["_law_script"] (defScope sLaw):=FSc
theorem ndLa:(compN "_law_cell" ["_law_script","_law_rows","_law_entry","_law_way","_law_due","_law_program","_law_bad","_law_pages","_law_machine","_law_kept","_law_told","_law_kind"]).Nodup:=by decide +kernel
theorem dotLa:(".0":Str) ∉ (["_law_script","_law_rows","_law_entry","_law_way","_law_due","_law_program","_law_bad","_law_pages","_law_machine","_law_kept","_law_told","_law_kind"]:List Str):=by decide +kernel
theorem ok_law {f f1 f2 f3 f4 f5 f6 f7 f8 f9 f10 f11:Addr} {fd fd1 fd2 fd3 fd4 fd5 fd6 fd7 fd8 fd9 fd10 fd11:FuncData} (F:Fun K "law" "law" sLaw f fd) (D1:Dn K mg "_law_row" sRowL ["_law_cell"] f1 fd1) (G1:FnOk P w K mg base CX0 2 f1 fd1 ["_law_cell"] spRowL) (D2:Dn K mg "_law_cell_at" sCell ["_law_script","_law_k"] f2 fd2) (G2:FnOk P w K mg base CX0 1 f2 fd2 ["_law_script","_law_k"] (spCell K)) (D3:Dn K mg "_law_mix" sMix ["_law_cell","_law_by","_law_many"] f3 fd3) (G3:FnOk P w K mg base CX0 1 f3 fd3 ["_law_cell","_law_by","_law_many"] spMix) (D4:Dn K mg "_law_spoil" sSpo ["_law_rows","_law_script"] f4 fd4) (G4:FnOk P w K mg base CX0 2 f4 fd4 ["_law_rows","_law_script"] (spSpoil K)) (D5:Dn K mg "_law_refused" sRefd ["_law_kind","_law_pages","_law_most","_law_rows","_law_entry"] f5 fd5) (G5:FnOk P w K mg base CX0 11 f5 fd5 ["_law_kind","_law_pages","_law_most","_law_rows","_law_entry"] (spRefd NR NI NSh)) (D6:Dn K mg "_law_is_no_program" sNop ["_law_found","_law_due"] f6 fd6) (G6:FnOk P w K mg base CX0 1 f6 fd6 ["_law_found","_law_due"] (spNop NR)) (D7:Dn K mg "checked" sChk ["program","entry"] f7 fd7) (G7:FnOk P w K mg base CX0 4 f7 fd7 ["program","entry"] spChk) (M1:Me K MC "program" "Machine.program" sMPrg ["self"] f8 fd8) (GM1:FnOk P w K mg base CX0 1 f8 fd8 ["self"] (spMPrg MC)) (M2:Me K MC "entry" "Machine.entry" sMEnt ["self"] f9 fd9) (GM2:FnOk P w K mg base CX0 1 f9 fd9 ["self"] (spMEnt MC)) (MM:Mk K MC f10) (mM:mg "Machine"=some (.ref MC)) (BM:Binds K fd10 ["self","ways","program","entry","core","events"] [.none,.none]) (GI:FnOk P w K mg base CX0 5 f10 fd10 ["self","ways","program","entry","core","events"] (spMInit MC)) (MP:Mk K PL f11) (mP:mg "Plain"=some (.ref PL)) (BP:Binds K fd11 ["self","pages","most","words"] []) (GP:FnOk P w K mg base CX0 8 f11 fd11 ["self","pages","most","words"] (spPInit C SC PL)) (MK:Mcc K MC) (KD:Kd K mg HE NR NT FA NB NI NSh) (T:Txt K mg) (T2:Tx2 K mg):FnOk P w K mg base CX0 12 f fd ["_law_script"] (spLaw K):=by
 refine F.ok scLa (λvs H Q E h=>?_) (λcdv A1 outer s H vs Q E hr h=>?_)
 ·obtain ⟨x,ns,rfl,_⟩:=h
  rfl
 ·obtain ⟨x,ns,rfl,hS,hns,q0⟩:=h
  have hr9:Room 9 _:=hr.mono (by decide)
  have hr6:Room 6 _:=hr.mono (by decide)
  have hr4:Room 4 _:=hr.mono (by decide)
  have hr2:Room 2 _:=hr.mono (by decide)
  have hr1:Room 1 _:=hr.mono (by decide)
  obtain ⟨t9,R9,hB,hG⟩:∃ tr,PSs (cxOf CX0 P w K mg base ["_law_script","_law_rows","_law_entry","_law_way","_law_due","_law_program","_law_bad","_law_pages","_law_machine","_law_kept","_law_told","_law_kind"] "law" (defScope sLaw) f cdv A1 outer s H E).nox ((defBody sLaw).drop 9) tr /\
    (∀ (H1:Hp) (p:Addr) (k:Nat) (z u v:V) (v6:Option V),2<=k->NoPg H1 z u v->(v=.non\/∃ j:Int,v=.int j)->tr { nx:=λ_ H'=>Q .non H',rt:=Q } [some (.ref x),some (.ref p),some u,some (.int (k:Int)),some v,some z,v6,none,none,none,none,none] H1) /\
    (∀ (H1:Hp) (p:Addr) (k e:Nat) (ys:List V) (rr:List Ro) (v6:Option V),k<2->H1 p=some (.lst ys)->Rls H1 ys rr->(∀ r ∈ rr,r.Ok)->1<=ys.length->ys.length<=60->e<61->tr { nx:=λ_ H'=>Q .non H',rt:=Q } [some (.ref x),some (.ref p),some (.int (e:Int)),some (.int (k:Int)),some .non,some (.ref p),v6,none,none,none,none,none] H1):=by
   refine ⟨_,(pss_cons (ps_set (i:=7) scLa.nd rfl (Or.inl rfl) (pe_lst (pa_cons (pe_op op_rep (pe_lst (pa_cons pe_int pa_nil)) pe_int) pa_nil))) (pss_cons (ps_if (pt_cmpR op_lt (pv 3) pe_int (nomark _)) (pss_cons (ps_set (i:=8) scLa.nd rfl (Or.inl rfl) (pe_make MM GI hr6 (by rfl) mM BM (show Vals [V.non,V.non] [Value.none,Value.none] from .cons rfl (.cons rfl .nil)) pass0 (pa_cons (pe_make MP GP hr9 (by rfl) mP BP .nil pass0 (pa_cons (pv 7) (pa_cons pe_int (pa_cons (pe_lst pa_nil) pa_nil)))) (pa_cons (pv 5) (pa_cons (pv 2) pa_nil))))) (pss_cons (ps_set (i:=9) scLa.nd rfl (Or.inl rfl) (pe_callTy call_list_of (by rfl) T.lst PyProof.Rows.boot_list (pa_cons (pv 5) pa_nil))) (pss_cons (ps_set (i:=10) scLa.nd rfl (Or.inl rfl) (pe_meth0 (pv 8) MK.cl M1.m GM1 hr1 M1.b .nil pass0)) (pss_cons (ps_if (PW.pt (pw_or (pt_cmpR op_notN (pe_call G7 hr4 (by rfl) D7.m D7.F.kp D7.b .nil pass0 (pa_cons (pv 5) (pa_cons (pv 2) pa_nil))) pe_non (nomark _)) (pw_or (pt_cmpR (op_neD hr.units) (pv 10) (pv 9) (nomark _)) (pw_or (pt_cmpR op_ne (pe_meth0 (pv 8) MK.cl M2.m GM2 hr1 M2.b .nil pass0) (pv 2) (nomark _)) (pw_or1 (pt_cmpR (op_neD hr.units) (pv 5) (pv 9) (nomark _))))))) (pss_one (ps_ret pe_bl)) pss_nil) (pss_cons (ps_expr (pe_bm PySem.F.plainAttrs_list PySem.F.slot_list_append PySem.F.type_list_append mt_append (pv 10) (pa_cons (pe_tup (pa_cons pe_str pa_nil)) pa_nil))) (pss_cons (ps_expr (pe_bm PySem.F.plainAttrs_list PySem.F.slot_list_append PySem.F.type_list_append mt_append (pv 5) (pa_cons (pe_tup (pa_cons pe_str pa_nil)) pa_nil))) (pss_one (ps_ret (pe_and (pe_cmpR (op_eqD hr.units) (pe_meth0 (pv 8) MK.cl M1.m GM1 hr1 M1.b .nil pass0) (pv 9) (nomark _)) (pe_one (pe_callB call_isint (by rfl) T.isi PyProof.Rows.boot_isinstance (pa_cons (pe_meth0 (pv 8) MK.cl M2.m GM2 hr1 M2.b .nil pass0) (pa_cons (pe_bltn (by rfl) T.int PyProof.Rows.boot_int (show RelV (.ty "int") (.type "int") from rfl)) pa_nil))))))))))))) pss_nil) (pss_cons (ps_for PassesOwn.never rfl (pi_range1 (by rfl) T.rng (pa_cons pe_int pa_nil)) (pg_name (i:=11) scLa.nd rfl (Or.inl rfl)) (pss_one (ps_if (pt_not (pt_val (pe_call G6 hr1 (by rfl) D6.m D6.F.kp D6.b .nil pass0 (pa_cons (pe_call G5 hr (by rfl) D5.m D5.F.kp D5.b .nil pass0 (pa_cons (pv 11) (pa_cons (pv 7) (pa_cons pe_int (pa_cons (pv 5) (pa_cons (pv 2) pa_nil)))))) (pa_cons (pv 4) pa_nil))))) (pss_one (ps_ret pe_bl)) pss_nil))) (pss_cons (ps_if (pt_not (pt_val (pe_callB (call_isexc KD.j4) (by rfl) T.isi PyProof.Rows.boot_isinstance (pa_cons (pe_call G5 hr (by rfl) D5.m D5.F.kp D5.b .nil pass0 (pa_cons pe_int (pa_cons (pe_lst pa_nil) (pa_cons pe_int (pa_cons (pv 5) (pa_cons (pv 2) pa_nil)))))) (pa_cons (pe_glob (by rfl) KD.m4 (show RelV (.ref NI) (.ref NI) from rfl)) pa_nil))))) (pss_one (ps_ret pe_bl)) pss_nil) (pss_one (ps_ret (pe_callB (call_isexc KD.j5) (by rfl) T.isi PyProof.Rows.boot_isinstance (pa_cons (pe_call G5 hr (by rfl) D5.m D5.F.kp D5.b .nil pass0 (pa_cons pe_int (pa_cons (pv 7) (pa_cons pe_int (pa_cons (pv 5) (pa_cons (pv 2) pa_nil)))))) (pa_cons (pe_glob (by rfl) KD.m5 (show RelV (.ref NSh) (.ref NSh) from rfl)) pa_nil))))))))),λH1 p k z u v v6 k2 bad hv=>?_,λH1 p k e ys rr v6 k2 hp rl ok l1 l2 e1=>?_⟩
   ·refine ⟨by show 1<=sizeLine; decide,λa1 ha1=>?_⟩
    have s1:=same_new (o:=.lst [V.int 0]) ha1
    have z1:upd H1 a1 (.lst [V.int 0]) a1=some (.lst [V.int 0]):=upd_same
    generalize upd H1 a1 (.lst [V.int 0])=H2 at *
    refine ⟨a1,8,_,rfl,rfl,z1,by decide,by decide,(by show 1 * (8:Nat)<=sizeLine; decide),λpg hpg=>?_⟩
    have s2:=same_new (o:=.lst (List.replicate (8:Int).toNat [V.int 0]).flatten) hpg
    have z2:upd H2 pg (.lst (List.replicate (8:Int).toNat [V.int 0]).flatten) pg=some (.lst (([0,0,0,0,0,0,0,0]:List Int).map V.int)):=upd_same.trans rfl
    generalize upd H2 pg (.lst (List.replicate (8:Int).toNat [V.int 0]).flatten)=H3 at *
    refine ⟨by show 1<=sizeLine; decide,λpl hpl=>?_⟩
    have s3:=same_new (o:=.lst [V.ref pg]) hpl
    have g4:Pg (upd H3 pl (.lst [V.ref pg])) pl [some (pg,[0,0,0,0,0,0,0,0])]:=by
     refine ⟨upd_same,λi q ws e=>?_,λi j q ws ws' e e'=>?_⟩
     ·match i,e with
      | 0,e =>
       have e:some (some (pg,[0,0,0,0,0,0,0,0]))=some (some (q,ws)):=e
       cases e
       exact ⟨s3 _ _ z2,λz=>by rw [<- z,z2] at hpl; cases hpl⟩
      | i+1,e=>simp at e
     ·match i,j,e,e' with
      | 0,0,_,_=>rfl
      | i+1,_,e,_=>simp at e
      | 0,j+1,_,e'=>simp at e'
    have gd4:Good [some (pg,([0,0,0,0,0,0,0,0]:List Int))]:=λi q ws e=>by
     match i,e with
     | 0,e =>
      have e:some (some (pg,[0,0,0,0,0,0,0,0]))=some (some (q,ws)):=e
      cases e
      exact ⟨rfl,by decide⟩
     | i+1,e=>simp at e
    have s4:Same H1 (upd H3 pl (.lst [V.ref pg])):=(s1.trans s2).trans s3
    generalize upd H3 pl (.lst [V.ref pg])=H4 at *
    refine ⟨_,rfl,_,_,rfl,rfl,_,rfl,iteFS (decide_eq_false (by omega)) ?_⟩
    have bad4:=bad.same s4
    refine ⟨3,rfl,by decide,by decide,for_range (lo:=0) (n:=3) (λi σ H'=>∃ v11:Option V,σ=[some (.ref x),some (.ref p),some u,some (.int (k:Int)),some v,some z,v6,some (.ref pl),none,none,none,v11]/\Same H4 H') ⟨_,rfl,Same.refl _⟩ ?_ ?_⟩
    ·rintro i σ H5 hi ⟨v11,rfl,s5⟩
     refine ⟨_,rfl,_,rfl,_,rfl,_,rfl,.inl ⟨_,pl,_,1,z,u,v,rfl,g4.same s5,gd4,by show 1<=1; decide,by show 1<=24; decide,by decide,by decide,bad4.same s5,λe H6 s6 rf=>?_⟩⟩
     exact ⟨_,rfl,e,v,rfl,rf,hv,_,rfl,iteF ⟨_,rfl,s5.trans s6⟩⟩
    ·rintro σ H5 ⟨v11,rfl,s5⟩
     refine ⟨by show 0<=sizeLine; decide,λl hl=>?_⟩
     have s6:=same_new (o:=.lst ([]:List V)) hl
     have z6:upd H5 l (.lst ([]:List V)) l=some (.lst []):=upd_same
     generalize upd H5 l (.lst ([]:List V))=H6 at *
     refine ⟨_,rfl,_,rfl,.inr (.inl ⟨.ref l,.int 0,z,u,rfl,.inr (.inl ⟨l,[],rfl,z6,.inl rfl,by decide⟩),λe H7 s7 he=>?_⟩)⟩
     refine ⟨e,none,rfl,he,_,rfl,iteF ?_⟩
     have s57:=(s5.trans s6).trans s7
     exact ⟨_,rfl,_,rfl,_,rfl,.inr (.inr ⟨pl,_,.int 0,z,u,rfl,g4.same s57,gd4,by show 1<=1; decide,by show 1<=24; decide,.int 0,rfl,λe2 H8 s8 he2=>⟨e2,none,rfl,he2,q0 H8⟩⟩)⟩
   ·refine ⟨by show 1<=sizeLine; decide,λa1 ha1=>?_⟩
    have s1:=same_new (o:=.lst [V.int 0]) ha1
    have z1:upd H1 a1 (.lst [V.int 0]) a1=some (.lst [V.int 0]):=upd_same
    generalize upd H1 a1 (.lst [V.int 0])=H2 at *
    refine ⟨a1,8,_,rfl,rfl,z1,by decide,by decide,(by show 1 * (8:Nat)<=sizeLine; decide),λpg hpg=>?_⟩
    have s2:=same_new (o:=.lst (List.replicate (8:Int).toNat [V.int 0]).flatten) hpg
    have z2:upd H2 pg (.lst (List.replicate (8:Int).toNat [V.int 0]).flatten) pg=some (.lst (([0,0,0,0,0,0,0,0]:List Int).map V.int)):=upd_same.trans rfl
    generalize upd H2 pg (.lst (List.replicate (8:Int).toNat [V.int 0]).flatten)=H3 at *
    refine ⟨by show 1<=sizeLine; decide,λpl hpl=>?_⟩
    have s3:=same_new (o:=.lst [V.ref pg]) hpl
    have g4:Pg (upd H3 pl (.lst [V.ref pg])) pl [some (pg,[0,0,0,0,0,0,0,0])]:=by
     refine ⟨upd_same,λi q ws e=>?_,λi j q ws ws' e e'=>?_⟩
     ·match i,e with
      | 0,e =>
       have e:some (some (pg,[0,0,0,0,0,0,0,0]))=some (some (q,ws)):=e
       cases e
       exact ⟨s3 _ _ z2,λz=>by rw [<- z,z2] at hpl; cases hpl⟩
      | i+1,e=>simp at e
     ·match i,j,e,e' with
      | 0,0,_,_=>rfl
      | i+1,_,e,_=>simp at e
      | 0,j+1,_,e'=>simp at e'
    have gd4:Good [some (pg,([0,0,0,0,0,0,0,0]:List Int))]:=λi q ws e=>by
     match i,e with
     | 0,e =>
      have e:some (some (pg,[0,0,0,0,0,0,0,0]))=some (some (q,ws)):=e
      cases e
      exact ⟨rfl,by decide⟩
     | i+1,e=>simp at e
    have s4:Same H1 (upd H3 pl (.lst [V.ref pg])):=(s1.trans s2).trans s3
    generalize upd H3 pl (.lst [V.ref pg])=H4 at *
    refine ⟨_,rfl,_,_,rfl,rfl,_,rfl,iteTS (decide_eq_true (by omega)) ?_⟩
    have hp4:=s4 _ _ hp
    have rl4:=rl.same s4
    refine ⟨_,rfl,by show 0<=sizeLine; decide,λl hl=>?_⟩
    have s5:=same_new (o:=.lst ([]:List V)) hl
    have z5:upd H4 l (.lst ([]:List V)) l=some (.lst (([]:List Bool).map V.bl)):=upd_same
    generalize upd H4 l (.lst ([]:List V))=H5 at *
    refine λwy dw hw hdw nw=>?_
    have s6:Same H5 (upd (upd H5 dw (.own wy)) wy (.ins PL dw [])):=(same_new hdw).trans (same_new (by rw [upd_ne nw.symm]; exact hw))
    refine ⟨wy,dw,pl,l,_,1,[],rfl,upd_same,(g4.same s5).same s6,gd4,by show 1<=1; decide,by show 1<=24; decide,by decide,by decide,s6 _ _ z5,λm h r q' aw H7 qs b7 W7 c7 f7=>⟨rfl,?_⟩⟩
    have s7:Same H4 H7:=s5.trans λb o e=>b7 b o (ne_of_none e hw) (s6 _ _ e)
    refine ⟨_,rfl,_,rfl,λmc dx hmc hdx nx=>?_⟩
    have s8:Same H7 (upd (upd H7 dx (.own mc)) mc (.ins MC dx [])):=(same_new hdx).trans (same_new (by rw [upd_ne nx.symm]; exact hmc))
    have s48:=s7.trans s8
    refine ⟨mc,dx,wy,p,(e:Int),ys,rfl,upd_same,s48 _ _ hp4,(rl4.same s48).ords ok,l1,l2,by omega,by omega,λpo rg sv hp' fs c kn hl' H9 hm mf hpo k9 fpo npo=>⟨rfl,?_⟩⟩
    have s49:Same H4 H9:=λb o z=>k9 b o (ne_of_none z (s7.free hmc)) (s48 _ _ z)
    have hp9:=s49 _ _ hp4
    have rl9:=rl4.same s49
    have fpo4:H4 po=none:=s48.free fpo
    refine ⟨_,rfl,p,_,rfl,.inl (SqL.of hp9),λkt hkt=>?_⟩
    have sa:=same_new (o:=.lst ys) hkt
    have za:upd H9 kt (.lst ys) kt=some (.lst ys):=upd_same
    generalize upd H9 kt (.lst ys)=Ha at *
    refine ⟨_,rfl,mc,dx,fs,rfl,sa _ _ hm,mf.no _ (by decide +kernel) (by decide +kernel) (by decide +kernel) (by decide +kernel) (by decide +kernel) (by decide +kernel) (by decide +kernel) (by decide +kernel) (by decide +kernel),mc,dx,wy,po,rg,sv,hp',(e:Int),c,kn,hl',fs,ys,rfl,sa _ _ hm,mf,sa _ _ hpo,λtl Hb sb ftl zb=>?_⟩
    have sab:=sa.trans sb
    have hpb:=sab _ _ hp9
    have rlb:=rl9.same sab
    refine ⟨_,rfl,_,rfl,p,ys,(e:Int),rfl,hpb,l1,l2,rlb.ords ok,by omega,by omega,λHc sc=>⟨rfl,_,rfl,iteFS rfl ?_⟩⟩
    have rlc:=rlb.same sc
    have zkc:=sc _ _ (sb _ _ za)
    have ztc:=sc _ _ zb
    have hmc':=sc _ _ (sab _ _ hm)
    have hpc:=sc _ _ hpb
    have hoc:=sc _ _ (sab _ _ hpo)
    refine ⟨_,rfl,_,rfl,_,_,.lst (SqL.of ztc) rlc.dats,.lst (SqL.of zkc) rlc.dats,shapedR rr,shapedR rr,_,rfl,iteFS (by rw [eqvR]; rfl) ?_⟩
    refine ⟨_,rfl,mc,dx,fs,rfl,hmc',mf.no _ (by decide +kernel) (by decide +kernel) (by decide +kernel) (by decide +kernel) (by decide +kernel) (by decide +kernel) (by decide +kernel) (by decide +kernel) (by decide +kernel),mc,dx,wy,po,rg,sv,hp',(e:Int),c,kn,hl',fs,rfl,hmc',mf,_,rfl,rfl,_,rfl,iteFS (by show (!decide (V.int (e:Int)=V.int (e:Int)))=false; rw [decide_eq_true rfl]; rfl) ?_⟩
    refine ⟨_,rfl,_,rfl,_,_,.lst (SqL.of hpc) rlc.dats,.lst (SqL.of zkc) rlc.dats,shapedR rr,shapedR rr,_,rfl,iteFS (by rw [eqvR]; rfl) ?_⟩
    have ntk:tl≠kt:=λz=>by rw [z,za] at ftl; cases ftl
    have ntp:tl≠po:=λz=>by rw [z,sa _ _ hpo] at ftl; cases ftl
    have nkp:kt≠p:=λz=>by rw [z,hp9] at hkt; cases hkt
    have npp:po≠p:=λz=>by rw [z,hp4] at fpo4; cases fpo4
    refine ⟨_,rfl,.inl ⟨rfl,_,SqL.of ztc⟩,by show 1<=sizeLine; decide,λt1 ht1=>?_⟩
    have sd:=same_new (o:=.tup [.str "halt"]) ht1
    have zd:upd Hc t1 (.tup [.str "halt"]) t1=some (.tup [.str "halt"]):=upd_same
    generalize upd Hc t1 (.tup [.str "halt"])=Hd at *
    refine ⟨tl,_,_,rfl,rfl,sd _ _ ztc,Nat.lt_of_le_of_lt l2 (by decide),?_⟩
    have ke:∀ b o,b≠tl->Hd b=some o->upd Hd tl (.lst (ys++[.ref t1])) b=some o:=λb o nb e=>by rw [upd_ne nb]; exact e
    have ntl:p≠tl:=λz=>by rw [<- z,sa _ _ hp9] at ftl; cases ftl
    have hpe:=ke _ _ ntl (sd _ _ hpc)
    have zke:=ke _ _ ntk.symm (sd _ _ zkc)
    have hoe:=ke _ _ ntp.symm (sd _ _ hoc)
    have hme:=ke _ _ (ne_of (sd _ _ hmc') (sd _ _ ztc) (by intro z; cases z)) (sd _ _ hmc')
    have rle:=(rlc.same sd).imp λt xs z=>ke t _ (ne_of z (sd _ _ ztc) (by intro z; cases z)) z
    generalize upd Hd tl (.lst (ys++[.ref t1]))=He at *
    refine ⟨_,rfl,.inl ⟨rfl,_,SqL.of hpe⟩,by show 1<=sizeLine; decide,λt2 ht2=>?_⟩
    have sf:=same_new (o:=.tup [.str "halt"]) ht2
    generalize upd He t2 (.tup [.str "halt"])=Hf at *
    refine ⟨p,_,_,rfl,rfl,sf _ _ hpe,Nat.lt_of_le_of_lt l2 (by decide),?_⟩
    have kg:∀ b o,b≠p->Hf b=some o->upd Hf p (.lst (ys++[.ref t2])) b=some o:=λb o nb e=>by rw [upd_ne nb]; exact e
    have zkg:=kg _ _ nkp (sf _ _ zke)
    have hog:=kg _ _ npp (sf _ _ hoe)
    have hmg:=kg _ _ (ne_of (sf _ _ hme) (sf _ _ hpe) (by intro z; cases z)) (sf _ _ hme)
    have rlg:=(rle.same sf).imp λt xs z=>kg t _ (ne_of z (sf _ _ hpe) (by intro z; cases z)) z
    generalize upd Hf p (.lst (ys++[.ref t2]))=Hg at *
    refine ⟨_,rfl,mc,dx,fs,rfl,hmg,mf.no _ (by decide +kernel) (by decide +kernel) (by decide +kernel) (by decide +kernel) (by decide +kernel) (by decide +kernel) (by decide +kernel) (by decide +kernel) (by decide +kernel),mc,dx,wy,po,rg,sv,hp',(e:Int),c,kn,hl',fs,ys,rfl,hmg,mf,hog,λl9 Hh sh fl9 zh=>?_⟩
    refine ⟨_,rfl,_,_,.lst (SqL.of zh) (rlg.same sh).dats,.lst (SqL.of (sh _ _ zkg)) (rlg.same sh).dats,shapedR rr,shapedR rr,_,rfl,iteTS (eqvR rr) ?_⟩
    exact ⟨_,rfl,mc,dx,fs,rfl,sh _ _ hmg,mf.no _ (by decide +kernel) (by decide +kernel) (by decide +kernel) (by decide +kernel) (by decide +kernel) (by decide +kernel) (by decide +kernel) (by decide +kernel) (by decide +kernel),mc,dx,wy,po,rg,sv,hp',(e:Int),c,kn,hl',fs,rfl,sh _ _ hmg,mf,_,rfl,.int _,q0 Hh⟩
  obtain ⟨t2,R2,hR2⟩:∃ tr,PSsq (cxOf CX0 P w K mg base ["_law_script","_law_rows","_law_entry","_law_way","_law_due","_law_program","_law_bad","_law_pages","_law_machine","_law_kept","_law_told","_law_kind"] "law" (defScope sLaw) f cdv A1 outer s H E).nox ((defBody sLaw).drop 2) tr/\∀ (H1:Hp) (p:Addr) (ys:List V) (rr:List Ro),Same H H1->H p=none->H1 p=some (.lst ys)->Rls H1 ys rr->(∀ r ∈ rr,r.Ok)->1<=ys.length->ys.length<=60->tr { nx:=λ_ H'=>Q .non H',rt:=Q } [some (.ref x),some (.ref p),none,none,none,none,none,none,none,none,none,none] H1:=by
   refine ⟨_,(pssq_cons (psq_setq (i:=2) scLa.nd rfl (Or.inl rfl) ⟨(pe_op op_mod (pe_call G2 hr1 (by rfl) D2.m D2.F.kp D2.b .nil pass0 (pa_cons (pv 0) (pa_cons pe_int pa_nil))) pe_int)⟩) (pssq_cons (psq_setq (i:=3) scLa.nd rfl (Or.inl rfl) ⟨(pe_call G3 hr1 (by rfl) D3.m D3.F.kp D3.b .nil pass0 (pa_cons (pe_call G2 hr1 (by rfl) D2.m D2.F.kp D2.b .nil pass0 (pa_cons (pv 0) (pa_cons pe_int pa_nil))) (pa_cons pe_int (pa_cons pe_int pa_nil))))⟩) (pssq_cons (psq_setq (i:=4) scLa.nd rfl (Or.inl rfl) ⟨pe_non⟩) (pssq_cons (psq_setq (i:=5) scLa.nd rfl (Or.inl rfl) ⟨(pv 1)⟩) (pssq_cons (psq_if ⟨(pt_cmpR op_eq (pv 3) pe_int (nomark _))⟩ (pssq_one (psq_setq (i:=4) scLa.nd rfl (Or.inl rfl) ⟨(pe_call G4 hr2 (by rfl) D4.m D4.F.kp D4.b .nil pass0 (pa_cons (pv 1) (pa_cons (pv 0) pa_nil)))⟩)) pssq_nil) (pssq_cons (psq_if ⟨(pt_cmpR op_eq (pv 3) pe_int (nomark _))⟩ (pssq_cons (psq_setq (i:=6) scLa.nd rfl (Or.inl rfl) (peq_lst (paq_cons (peq_lst paq_nil) (paq_cons (peq_op op_cat ⟨(pv 1)⟩ ⟨(pe_op op_rep (pe_lst (pa_cons (pe_tup (pa_cons pe_str pa_nil)) pa_nil)) (pe_op op_sub pe_int (pe_callB call_len_seq (by rfl) T.len PySem.boot_len (pa_cons (pv 1) pa_nil))))⟩) (paq_cons ⟨(pe_callTy call_tuple_of (by rfl) T2.tup PyProof.Rows.boot_tuple (pa_cons (pv 1) pa_nil))⟩ (paq_cons ⟨pe_non⟩ (paq_cons ⟨pe_dnewK⟩ (paq_cons ⟨pe_str⟩ (paq_cons ⟨pe_int⟩ paq_nil))))))))) (pssq_one (psq_setq (i:=5) scLa.nd rfl (Or.inl rfl) ⟨(pe_ix ix_list (pv 6) (pe_call G3 hr1 (by rfl) D3.m D3.F.kp D3.b .nil pass0 (pa_cons (pe_call G2 hr1 (by rfl) D2.m D2.F.kp D2.b .nil pass0 (pa_cons (pv 0) (pa_cons pe_int pa_nil))) (pa_cons pe_int (pa_cons pe_int pa_nil)))) (λ_ _=>rfl))⟩))) pssq_nil) (pssq_cons (psq_if ⟨(pt_cmpR op_eq (pv 3) pe_int (nomark _))⟩ (pssq_cons (psq_setq (i:=6) scLa.nd rfl (Or.inl rfl) (peq_lst (paq_cons ⟨(pe_un un_neg pe_int)⟩ (paq_cons ⟨pe_int⟩ (paq_cons ⟨pe_bl⟩ (paq_cons ⟨pe_bl⟩ (paq_cons ⟨pe_non⟩ (paq_cons ⟨pe_str⟩ (paq_cons (peq_lst (paq_cons ⟨pe_int⟩ paq_nil)) (paq_cons ⟨(pe_op op_add pe_int (pe_op op_mul (pv 2) (pe_op op_pow pe_int pe_int)))⟩ paq_nil)))))))))) (pssq_one (psq_setq (i:=2) scLa.nd rfl (Or.inl rfl) ⟨(pe_ix ix_list (pv 6) (pe_call G3 hr1 (by rfl) D3.m D3.F.kp D3.b .nil pass0 (pa_cons (pe_call G2 hr1 (by rfl) D2.m D2.F.kp D2.b .nil pass0 (pa_cons (pv 0) (pa_cons pe_int pa_nil))) (pa_cons pe_int (pa_cons pe_int pa_nil)))) (λ_ _=>rfl))⟩))) pssq_nil) ⟨R9⟩))))))),λH1 p ys rr s1 fp hp rl ok l1 l2=>?_⟩
   have hS1:=s1.seq hS
   have e0:0<=ns.getD 2 0 % 61:=Int.emod_nonneg _ (by decide)
   have e1:ns.getD 2 0 % 61<61:=Int.emod_lt_of_pos _ (by decide)
   obtain ⟨e,he⟩:∃ e:Nat,ns.getD 2 0 % 61=(e:Int):=⟨(ns.getD 2 0 % 61).toNat,by omega⟩
   refine ⟨_,rfl,x,ns,2,rfl,hS1,_,61,rfl,rfl,(by show (0:Int)<61; decide),?_⟩
   dsimp only
   rw [he]
   refine ⟨_,rfl,x,ns,2,rfl,hS1,_,48271,5,rfl,by decide,λv v0 v1=>?_⟩
   obtain ⟨k,rfl⟩:∃ k:Nat,v=(k:Int):=⟨v.toNat,by omega⟩
   refine ⟨_,rfl,?_⟩
   have k5:k=0\/k=1\/k=2\/k=3\/k=4:=by omega
   have ords:=rl.ords ok
   rcases k5 with rfl | rfl | rfl | rfl | rfl
   ·exact ⟨_,rfl,rfl,_,rfl,iteFS (by decide) ⟨_,rfl,rfl,_,rfl,iteFS (by decide) ⟨_,rfl,rfl,_,rfl,iteFS (by decide) (hG H1 p 0 e ys rr _ (by decide) hp rl ok l1 l2 (by omega))⟩⟩⟩
   ·exact ⟨_,rfl,rfl,_,rfl,iteFS (by decide) ⟨_,rfl,rfl,_,rfl,iteFS (by decide) ⟨_,rfl,rfl,_,rfl,iteFS (by decide) (hG H1 p 1 e ys rr _ (by decide) hp rl ok l1 l2 (by omega))⟩⟩⟩
   ·refine ⟨_,rfl,rfl,_,rfl,iteTS (by decide) ?_⟩
    refine ⟨_,rfl,_,rfl,p,x,ys,ns,rfl,hp,l1,l2,ords,λH' kp=>?_,λH' k y zs kp hp' lz hk hf ht=>?_⟩
    ·exact ((Sx.mk (X:=λb=>H b=none) hS (λb y=>y)).go (X':=λ_=>False) (λb o nb z=>⟨kp b o (λy=>by rw [y,fp] at z; cases z) (s1 _ _ z),id⟩)).sq
    ·exact ⟨_,rfl,rfl,_,rfl,iteFS (by decide) ⟨_,rfl,rfl,_,rfl,iteFS (by decide) (hB H' p 2 (.ref p) (.int (e:Int)) (.int (k:Int)) _ (by decide) (.row hp' (by omega) hk ht hf (.int _)) (.inr ⟨_,rfl⟩))⟩⟩
   ·refine ⟨_,rfl,rfl,_,rfl,iteFS (by decide) ⟨_,rfl,rfl,_,rfl,iteTS (by decide) ?_⟩⟩
    refine ⟨by show 0<=sizeLine; decide,λa1 h1=>?_⟩
    have q1:=same_new (o:=.lst ([]:List V)) h1
    have y1:upd H1 a1 (.lst ([]:List V)) a1=some (.lst []):=upd_same
    generalize upd H1 a1 (.lst ([]:List V))=G1 at *
    refine ⟨_,rfl,by show 1<=sizeLine; decide,λa2 h2=>?_⟩
    have q2:=same_new (o:=.tup [.str "halt"]) h2
    generalize upd G1 a2 (.tup [.str "halt"])=G2 at *
    refine ⟨by show 1<=sizeLine; decide,λa3 h3=>?_⟩
    have q3:=same_new (o:=.lst [V.ref a2]) h3
    have y3:upd G2 a3 (.lst [V.ref a2]) a3=some (.lst [V.ref a2]):=upd_same
    generalize upd G2 a3 (.lst [V.ref a2])=G3 at *
    have q13:=q1.trans (q2.trans q3)
    have hp3:=q13 _ _ hp
    refine ⟨_,rfl,p,_,rfl,.inl (SqL.of hp3),61,_,rfl,rfl,?_⟩
    dsimp only
    rw [show (61:Int) - (ys.length:Int)=((61 - ys.length:Nat):Int) by omega]
    refine ⟨a3,_,_,rfl,rfl,y3,by omega,by omega,(by rw [Int.toNat_natCast]; exact Nat.le_trans (show 1 * (61 - ys.length)<=61 by omega) (by decide)),λa4 h4=>?_⟩
    have lr:(List.replicate ((61 - ys.length:Nat):Int).toNat [V.ref a2]).flatten.length=61 - ys.length:=by rw [Int.toNat_natCast]; exact rep_len1 _
    generalize (List.replicate ((61 - ys.length:Nat):Int).toNat [V.ref a2]).flatten=us at *
    have q4:=same_new (o:=.lst us) h4
    have y4:upd G3 a4 (.lst us) a4=some (.lst us):=upd_same
    generalize upd G3 a4 (.lst us)=G4 at *
    have lc:(ys++us).length=61:=by rw [List.length_append,lr]; omega
    refine ⟨p,a4,_,_,rfl,rfl,q4 _ _ hp3,y4,(by rw [lr]; exact Nat.le_trans (show ys.length+(61 - ys.length)<=61 by omega) (by decide)),λa5 h5=>?_⟩
    have q5:=same_new (o:=.lst (ys++us)) h5
    have y5:upd G4 a5 (.lst (ys++us)) a5=some (.lst (ys++us)):=upd_same
    generalize upd G4 a5 (.lst (ys++us))=G5 at *
    refine ⟨_,rfl,p,_,rfl,.inl ⟨SqL.of (q5 _ _ (q4 _ _ hp3)),λa6 h6=>?_⟩⟩
    have q6:=same_new (o:=.tup ys) h6
    have y6:upd G5 a6 (.tup ys) a6=some (.tup ys):=upd_same
    generalize upd G5 a6 (.tup ys)=G6 at *
    refine λa7 h7=>?_
    have q7:=same_new (o:=.dK []) h7
    have y7:upd G6 a7 (.dK []) a7=some (.dK []):=upd_same
    generalize upd G6 a7 (.dK [])=G7 at *
    refine ⟨by show 7<=sizeLine; decide,λlb hlb=>?_⟩
    have q8:=same_new (o:=.lst [V.ref a1,.ref a5,.ref a6,.non,.ref a7,.str "halt",.int 1]) hlb
    have zl:upd G7 lb (.lst [V.ref a1,.ref a5,.ref a6,.non,.ref a7,.str "halt",.int 1]) lb=some (.lst [V.ref a1,.ref a5,.ref a6,.non,.ref a7,.str "halt",.int 1]):=upd_same
    generalize upd G7 lb (.lst [V.ref a1,.ref a5,.ref a6,.non,.ref a7,.str "halt",.int 1])=G8 at *
    have q68:=q7.trans q8
    have q58:=q6.trans q68
    have sl:Same H1 G8:=q13.trans (q4.trans (q5.trans q58))
    have w1:=q58 _ _ (q5 _ _ (q4 _ _ (q3 _ _ (q2 _ _ y1))))
    have w5:=q58 _ _ y5
    have w6:=q68 _ _ y6
    have w7:=q8 _ _ y7
    have no:∀ y ∈ [V.ref a1,.ref a5,.ref a6,.non,.ref a7,.str "halt",.int 1],NoPg G8 y (.int (e:Int)) .non:=by
     intro y hy
     simp only [List.mem_cons,List.not_mem_nil,or_false] at hy
     rcases hy with rfl | rfl | rfl | rfl | rfl | rfl | rfl
     ·exact .size w1 (.inl rfl) (.int _)
     ·exact .size w5 (.inr (by omega)) (.int _)
     ·exact .kind (.tup w6) (.int _) (by simp [isLst,w6])
     ·exact .kind .non (.int _) rfl
     ·exact .kind (.dic w7) (.int _) (by simp [isLst,w7])
     ·exact .kind (.str _) (.int _) rfl
     ·exact .kind (.int _) (.int _) rfl
    refine ⟨_,rfl,_,rfl,x,ns,0,rfl,sl.seq hS1,_,69623,7,rfl,by decide,λv v0 v1=>?_⟩
    obtain ⟨i,rfl⟩:∃ k:Nat,v=(k:Int):=⟨v.toNat,by omega⟩
    refine ⟨lb,_,_,_,rfl,rfl,SqL.of zl,atI_nat (List.getElem?_eq_getElem (by show i<7; omega)),?_⟩
    exact ⟨_,rfl,rfl,_,rfl,iteFS (by decide) (hB _ p 3 _ (.int (e:Int)) .non _ (by decide) (no _ (List.getElem_mem _)) (.inl rfl))⟩
   ·refine ⟨_,rfl,rfl,_,rfl,iteFS (by decide) ⟨_,rfl,rfl,_,rfl,iteFS (by decide) ⟨_,rfl,rfl,_,rfl,iteTS (by decide) ?_⟩⟩⟩
    refine ⟨_,rfl,by show 1<=sizeLine; decide,λa1 h1=>?_⟩
    have q1:=same_new (o:=.lst [V.int 0]) h1
    have y1:upd H1 a1 (.lst [V.int 0]) a1=some (.lst [V.int 0]):=upd_same
    generalize upd H1 a1 (.lst [V.int 0])=G1 at *
    refine ⟨_,rfl,10,50,rfl,rfl,⟨by decide,by decide,by decide⟩,_,_,rfl,rfl,.inl ⟨by omega,by omega⟩,61,_,rfl,rfl,by show 8<=sizeLine; decide,λlb hlb=>?_⟩
    have q8:=same_new (o:=.lst [V.int (-1),.int 61,.bl true,.bl false,.non,.str "0",.ref a1,.int (61+(e:Int) * (10:Int) ^ (50:Int).toNat)]) hlb
    have zl:upd G1 lb (.lst [V.int (-1),.int 61,.bl true,.bl false,.non,.str "0",.ref a1,.int (61+(e:Int) * (10:Int) ^ (50:Int).toNat)]) lb=some (.lst [V.int (-1),.int 61,.bl true,.bl false,.non,.str "0",.ref a1,.int (61+(e:Int) * (10:Int) ^ (50:Int).toNat)]):=upd_same
    generalize upd G1 lb (.lst [V.int (-1),.int 61,.bl true,.bl false,.non,.str "0",.ref a1,.int (61+(e:Int) * (10:Int) ^ (50:Int).toNat)])=G8 at *
    have sl:Same H1 G8:=q1.trans q8
    have w1:=q8 _ _ y1
    have no:∀ y ∈ [V.int (-1),.int 61,.bl true,.bl false,.non,.str "0",.ref a1,.int (61+(e:Int) * (10:Int) ^ (50:Int).toNat)],Th G8 y/\below y 61=false:=by
     intro y hy
     simp only [List.mem_cons,List.not_mem_nil,or_false] at hy
     rcases hy with rfl | rfl | rfl | rfl | rfl | rfl | rfl | rfl
     ·exact ⟨.int _,rfl⟩
     ·exact ⟨.int _,rfl⟩
     ·exact ⟨.bl _,rfl⟩
     ·exact ⟨.bl _,rfl⟩
     ·exact ⟨.non,rfl⟩
     ·exact ⟨.str _,rfl⟩
     ·exact ⟨.lst w1,rfl⟩
     ·exact ⟨.int _,below_far (by have:(0:Int)<=(e:Int) * (10:Int) ^ (50:Int).toNat:=Int.mul_nonneg (by omega) (by decide); omega)⟩
    refine ⟨_,rfl,_,rfl,x,ns,0,rfl,sl.seq hS1,_,40709,8,rfl,by decide,λv v0 v1=>?_⟩
    obtain ⟨i,rfl⟩:∃ k:Nat,v=(k:Int):=⟨v.toNat,by omega⟩
    refine ⟨lb,_,_,_,rfl,rfl,SqL.of zl,atI_nat (List.getElem?_eq_getElem (by show i<8; omega)),?_⟩
    obtain ⟨n1,n2⟩:=no _ (List.getElem_mem (show i<8 by omega))
    exact hB _ p 4 (.ref p) _ .non _ (by decide) (.entry (sl _ _ hp) l1 l2 (λz hz=>(ords z hz).same sl) n1 n2) (.inl rfl)
  refine PSsq.ex (show PSsq (cxOf CX0 P w K mg base ["_law_script","_law_rows","_law_entry","_law_way","_law_due","_law_program","_law_bad","_law_pages","_law_machine","_law_kept","_law_told","_law_kind"] "law" (defScope sLaw) f cdv A1 outer s H E).nox (defBody sLaw) _ from (pssq_cons ⟨(ps_setC (i:=1) scLa.nd rfl rfl rfl (cl:=[]) (tc:=tYes) (te:=tRo) rfl (pi_list (pe_slice sl_list (pv 0) (po_some pe_int) (po_some pe_int))) (closureFor_none (by decide +kernel)) (by repeat' (first | exact trivial | refine ⟨.inl ⟨.inr rfl,rfl⟩,?_⟩ | refine ⟨.inl ⟨.inl rfl,rfl⟩,?_⟩ | refine ⟨.inr (.inl ⟨by decide,by decide,by decide⟩),?_⟩ | refine ⟨.inr (.inr ⟨rfl,by decide +kernel,by decide +kernel,rfl,rfl⟩),?_⟩)) trivial (λC s₂ H₂ fp=>.nil) (λC s₂ H₂ fp=>(pe_call G1 hr2 (by rfl) D1.m D1.F.kp D1.b .nil pass0 (pa_cons (pv 0) pa_nil))) ndLa (hdot:=dotLa))⟩ (pssq_cons (psq_if ⟨(pt_cmpR (op_eqD hr.units) (pv 1) (pe_lst pa_nil) (nomark _))⟩ (pssq_one (psq_setq (i:=1) scLa.nd rfl (Or.inl rfl) (peq_lst (paq_cons (peq_tup (paq_cons ⟨pe_str⟩ paq_nil)) paq_nil)))) pssq_nil) R2))) ?_
  refine ⟨_,rfl,3,rfl,63,rfl,x,_,rfl,hS,λsl hsl=>?_⟩
  obtain ⟨ms,hms,hml⟩:=cut_60 ns
  rw [hms]
  have s1:=same_new (o:=.lst (ms.map V.int)) hsl
  have z1:upd H sl (.lst (ms.map V.int)) sl=some (.lst (ms.map V.int)):=upd_same
  generalize upd H sl (.lst (ms.map V.int))=H1 at *
  refine ⟨sl,rfl,⟨_,SqL.of z1⟩,comp_ro (SqL.of z1) hml (λH' s'=>SqL.of (s' _ _ z1)) (λp ys rr H2 s2 hp fp rl ok l2=>?_)⟩
  have s02:=s1.trans s2
  refine ⟨_,rfl,by show 0<=sizeLine; decide,λl hl=>?_⟩
  have s3:=same_new (o:=.lst ([]:List V)) hl
  have z3:upd H2 l (.lst ([]:List V)) l=some (.lst []):=upd_same
  generalize upd H2 l (.lst ([]:List V))=H3 at *
  have rl3:=rl.same s3
  refine ⟨_,_,.lst (SqL.of (s3 _ _ hp)) rl3.dats,.lst (SqL.of z3) .nil,shapedR rr,rfl,_,rfl,?_⟩
  cases rl3 with
  | nil =>
   refine iteTS rfl ?_
   refine ⟨by show 1<=sizeLine; decide,λt ht=>?_⟩
   have s4:=same_new (o:=.tup [.str "halt"]) ht
   have z4:upd H3 t (.tup [.str "halt"]) t=some (.tup [.str "halt"]):=upd_same
   generalize upd H3 t (.tup [.str "halt"])=H4 at *
   refine ⟨by show 1<=sizeLine; decide,λp2 hp2=>?_⟩
   have s5:=same_new (o:=.lst [V.ref t]) hp2
   exact hR2 _ p2 _ [.halt] (s02.trans (s3.trans (s4.trans s5))) (s02.free (s3.free (s4.free hp2))) upd_same (.cons (s5 _ _ z4) .nil) (λr hr=>by rw [List.mem_singleton] at hr; rw [hr]; trivial) (by show 1<=1; decide) (by show 1<=60; decide)
  | cons e r =>
   refine iteFS eqvRn ?_
   exact hR2 H3 p _ _ (s02.trans s3) (s1.free fp) (s3 _ _ hp) (.cons e r) ok (by show 1<=_+1; omega) l2
end
end K32
end
section
open PySem PySem.W PyProof.Rows
namespace K32
open PySem L2
theorem lc {us:List Value} {n:Nat} (h:us.length=n+1):∃ a t,us=a::t/\t.length=n:=by
 cases us with
 | nil=>cases h
 | cons a t=>exact ⟨a,t,rfl,Nat.succ.inj h⟩
theorem ba1 {fd:FuncData} {p1:Str} (h:∀ a1:Value,bindArgs fd ⟨[a1],[]⟩=pure ([p1].zip [a1])):∀ us:List Value,us.length=[p1].length->bindArgs fd ⟨us,[]⟩=pure ([p1].zip us):=by
 intro us hl
 obtain ⟨_,us,rfl,h1⟩:=lc hl
 obtain rfl:=List.eq_nil_of_length_eq_zero h1
 exact h _
theorem ba2 {fd:FuncData} {p1 p2:Str} (h:∀ a1 a2:Value,bindArgs fd ⟨[a1,a2],[]⟩=pure ([p1,p2].zip [a1,a2])):∀ us:List Value,us.length=[p1,p2].length->bindArgs fd ⟨us,[]⟩=pure ([p1,p2].zip us):=by
 intro us hl
 obtain ⟨_,us,rfl,h1⟩:=lc hl
 obtain ⟨_,us,rfl,h2⟩:=lc h1
 obtain rfl:=List.eq_nil_of_length_eq_zero h2
 exact h _ _
theorem ba3 {fd:FuncData} {p1 p2 p3:Str} (h:∀ a1 a2 a3:Value,bindArgs fd ⟨[a1,a2,a3],[]⟩=pure ([p1,p2,p3].zip [a1,a2,a3])):∀ us:List Value,us.length=[p1,p2,p3].length->bindArgs fd ⟨us,[]⟩=pure ([p1,p2,p3].zip us):=by
 intro us hl
 obtain ⟨_,us,rfl,h1⟩:=lc hl
 obtain ⟨_,us,rfl,h2⟩:=lc h1
 obtain ⟨_,us,rfl,h3⟩:=lc h2
 obtain rfl:=List.eq_nil_of_length_eq_zero h3
 exact h _ _ _
theorem ba4 {fd:FuncData} {p1 p2 p3 p4:Str} (h:∀ a1 a2 a3 a4:Value,bindArgs fd ⟨[a1,a2,a3,a4],[]⟩=pure ([p1,p2,p3,p4].zip [a1,a2,a3,a4])):∀ us:List Value,us.length=[p1,p2,p3,p4].length->bindArgs fd ⟨us,[]⟩=pure ([p1,p2,p3,p4].zip us):=by
 intro us hl
 obtain ⟨_,us,rfl,h1⟩:=lc hl
 obtain ⟨_,us,rfl,h2⟩:=lc h1
 obtain ⟨_,us,rfl,h3⟩:=lc h2
 obtain ⟨_,us,rfl,h4⟩:=lc h3
 obtain rfl:=List.eq_nil_of_length_eq_zero h4
 exact h _ _ _ _
theorem ba5 {fd:FuncData} {p1 p2 p3 p4 p5:Str} (h:∀ a1 a2 a3 a4 a5:Value,bindArgs fd ⟨[a1,a2,a3,a4,a5],[]⟩=pure ([p1,p2,p3,p4,p5].zip [a1,a2,a3,a4,a5])):∀ us:List Value,us.length=[p1,p2,p3,p4,p5].length->bindArgs fd ⟨us,[]⟩=pure ([p1,p2,p3,p4,p5].zip us):=by
 intro us hl
 obtain ⟨_,us,rfl,h1⟩:=lc hl
 obtain ⟨_,us,rfl,h2⟩:=lc h1
 obtain ⟨_,us,rfl,h3⟩:=lc h2
 obtain ⟨_,us,rfl,h4⟩:=lc h3
 obtain ⟨_,us,rfl,h5⟩:=lc h4
 obtain rfl:=List.eq_nil_of_length_eq_zero h5
 exact h _ _ _ _ _
theorem ba6 {fd:FuncData} {p1 p2 p3 p4 p5 p6:Str} (h:∀ a1 a2 a3 a4 a5 a6:Value,bindArgs fd ⟨[a1,a2,a3,a4,a5,a6],[]⟩=pure ([p1,p2,p3,p4,p5,p6].zip [a1,a2,a3,a4,a5,a6])):∀ us:List Value,us.length=[p1,p2,p3,p4,p5,p6].length->bindArgs fd ⟨us,[]⟩=pure ([p1,p2,p3,p4,p5,p6].zip us):=by
 intro us hl
 obtain ⟨_,us,rfl,h1⟩:=lc hl
 obtain ⟨_,us,rfl,h2⟩:=lc h1
 obtain ⟨_,us,rfl,h3⟩:=lc h2
 obtain ⟨_,us,rfl,h4⟩:=lc h3
 obtain ⟨_,us,rfl,h5⟩:=lc h4
 obtain ⟨_,us,rfl,h6⟩:=lc h5
 obtain rfl:=List.eq_nil_of_length_eq_zero h6
 exact h _ _ _ _ _ _
theorem fb1 {K:PySem.W.Frag} {x q:Str} {st:Stmt} {f:Addr} {fd:FuncData} (F:Fun K x q st f fd) (p1:Str) (h:∀ (v e m:Value) (n:Option Addr) (c t:Value) (a1:Value),bindArgs (PySem.W.fnOf x q (defArgs st) (defBody st) (defScope st) .none v e m n c t) ⟨[a1],[]⟩=pure ([p1].zip [a1]):=by intros; rfl):Binds K fd [p1] []:=F.binds λv e m n c t=>ba1 (h v e m n c t)
theorem fb2 {K:PySem.W.Frag} {x q:Str} {st:Stmt} {f:Addr} {fd:FuncData} (F:Fun K x q st f fd) (p1 p2:Str) (h:∀ (v e m:Value) (n:Option Addr) (c t:Value) (a1 a2:Value),bindArgs (PySem.W.fnOf x q (defArgs st) (defBody st) (defScope st) .none v e m n c t) ⟨[a1,a2],[]⟩=pure ([p1,p2].zip [a1,a2]):=by intros; rfl):Binds K fd [p1,p2] []:=F.binds λv e m n c t=>ba2 (h v e m n c t)
theorem fb3 {K:PySem.W.Frag} {x q:Str} {st:Stmt} {f:Addr} {fd:FuncData} (F:Fun K x q st f fd) (p1 p2 p3:Str) (h:∀ (v e m:Value) (n:Option Addr) (c t:Value) (a1 a2 a3:Value),bindArgs (PySem.W.fnOf x q (defArgs st) (defBody st) (defScope st) .none v e m n c t) ⟨[a1,a2,a3],[]⟩=pure ([p1,p2,p3].zip [a1,a2,a3]):=by intros; rfl):Binds K fd [p1,p2,p3] []:=F.binds λv e m n c t=>ba3 (h v e m n c t)
theorem fb4 {K:PySem.W.Frag} {x q:Str} {st:Stmt} {f:Addr} {fd:FuncData} (F:Fun K x q st f fd) (p1 p2 p3 p4:Str) (h:∀ (v e m:Value) (n:Option Addr) (c t:Value) (a1 a2 a3 a4:Value),bindArgs (PySem.W.fnOf x q (defArgs st) (defBody st) (defScope st) .none v e m n c t) ⟨[a1,a2,a3,a4],[]⟩=pure ([p1,p2,p3,p4].zip [a1,a2,a3,a4]):=by intros; rfl):Binds K fd [p1,p2,p3,p4] []:=F.binds λv e m n c t=>ba4 (h v e m n c t)
theorem fb5 {K:PySem.W.Frag} {x q:Str} {st:Stmt} {f:Addr} {fd:FuncData} (F:Fun K x q st f fd) (p1 p2 p3 p4 p5:Str) (h:∀ (v e m:Value) (n:Option Addr) (c t:Value) (a1 a2 a3 a4 a5:Value),bindArgs (PySem.W.fnOf x q (defArgs st) (defBody st) (defScope st) .none v e m n c t) ⟨[a1,a2,a3,a4,a5],[]⟩=pure ([p1,p2,p3,p4,p5].zip [a1,a2,a3,a4,a5]):=by intros; rfl):Binds K fd [p1,p2,p3,p4,p5] []:=F.binds λv e m n c t=>ba5 (h v e m n c t)
theorem all_mk {l:OpenLaw} {w:World} {K:Frag} {h:Heap} {mg:Str->Option Value} {fa f0 f1 f2 f3 f4 f5 f6 f7 f8 f9 f10 f11 f12 f13 f14 f15 f16 f17 f18 f19 f20 f21 f22 f23 f24 f25 xC xSC xPL xWC xNP xNL xNW xNI xFA xMC xHE xNB xNR xNSh xNT xFF:Addr} {hF0 hF1 hF2 hF3 hF4 hF5 hF6 hF7 hF8 hF9 hF10 hF11 hF12 hF13 hF14 hF15 hF16 hF17 hF18 hF19 hF20:Int} {uF0 uF1 uF2 uF3 uF4 uF5 uF6 uF7 uF8 uF9 uF10 uF11 uF12 uF13 uF14 uF15 uF16 uF17 uF18 uF19 uF20 wF0 wF1 wF2 wF3 wF4 wF5 wF6 wF7 wF8 wF9 wF10 wF11 wF12 wF13 wF14 wF15 wF16 wF17 wF18 wF19 wF20 wF21 wF22 wF23 wF24 wF25 wF26:Tok} {epF nF0 nF1 nF2 nF3 nF4 nF5 nF6 nF7 nF8 nF9 nF10 nF11 nF12 nF13 nF14 nF15 nF16 nF17 nF18 nF19 nF20:Nat} {yF0 yF1 yF2 yF3 yF4 yF5 yF6 yF7 yF8 yF9 yF10 yF11 yF12 yF13 yF14 yF15 yF16 yF17 yF18 yF19 yF20:Addr} {nd15:Nat} {xd15:Addr} (X:K.In h) (G:h.Ns mainGlobals mg) (hfa:mg "law"=some (.ref fa))
  {od0 an0 od1 an1 od2 an2 od3 an3 od4 an4 od5 an5 od6 an6 od7 an7 od8 an8 od9 an9 od10 an10 od11 an11 od12 an12 od13 an13 od14 an14 od15 an15 od16 an16 od17 an17 od18 an18 od19 an19 od20 an20 od21 an21 od22 an22 od23 an23 od24 an24 od25 an25:Option Addr} {sl0 sl1 sl2 sl3 sl4 sl5 sl6 sl7 sl8 sl9 sl10 sl11 sl12 sl13 sl14 sl15 sl16 sl17 sl18 sl19 sl20 sl21 sl22 sl23 sl24 sl25:Array (Option Value)} {oc0 kV0 dc0 pm0 cd0 ct0 oc1 kV1 dc1 pm1 cd1 ct1 oc2 kV2 dc2 pm2 cd2 ct2 oc3 kV3 dc3 pm3 cd3 ct3 oc4 kV4 dc4 pm4 cd4 ct4 oc5 kV5 dc5 pm5 cd5 ct5 oc6 kV6 dc6 pm6 cd6 ct6 oc7 kV7 dc7 pm7 cd7 ct7 oc8 kV8 dc8 pm8 cd8 ct8 oc9 kV9 dc9 pm9 cd9 ct9 oc10 kV10 dc10 pm10 cd10 ct10 oc11 kV11 dc11 pm11 cd11 ct11 oc12 kV12 dc12 pm12 cd12 ct12 oc13 kV13 dc13 pm13 cd13 ct13 oc14 kV14 dc14 pm14 cd14 ct14 oc15 kV15 dc15 pm15 cd15 ct15 oc16 kV16 dc16 pm16 cd16 ct16 oc17 kV17 dc17 pm17 cd17 ct17 oc18 kV18 dc18 pm18 cd18 ct18 oc19 kV19 dc19 pm19 cd19 ct19 oc20 kV20 dc20 pm20 cd20 ct20 oc21 kV21 dc21 pm21 cd21 ct21 oc22 kV22 dc22 pm22 cd22 ct22 oc23 kV23 dc23 pm23 cd23 ct23 oc24 kV24 dc24 pm24 cd24 ct24 oc25 kV25 dc25 pm25 cd25 ct25:Value} {tk0 tk1 tk2 tk3 tk4 tk5 tk6:Tok}
  (n_C:NI K "Memory" xC)
  (n_SC:NI K "Shelf" xSC)
  (n_PL:NI K "Plain" xPL)
  (n_WC:NI K "Ways" xWC)
  (n_NP:NI K "NoPage" xNP)
  (n_NL:NI K "NoPlace" xNL)
  (n_NW:NI K "NoWord" xNW)
  (n_NI:NI K "NoImage" xNI)
  (n_FA:NI K "Fault" xFA)
  (n_MC:NI K "Machine" xMC)
  (n_HE:NI K "HouseError" xHE)
  (n_NB:NI K "NoBound" xNB)
  (n_NR:NI K "NoProgram" xNR)
  (n_NSh:NI K "NoShelf" xNSh)
  (n_NT:NI K "NoText" xNT)
  (a0:NI K "is_whole" f0)
  (l0:LK K f0 oc0 od0 "is_whole" "is_whole" sWhole kV0 dc0 pm0 an0 cd0 ct0 sl0)
  (c0:codeIn K cd0 "is_whole"=true)
  (k0:keepIn K (.ref f0)=true)
  (a1:NI K "is_below" f1)
  (l1:LK K f1 oc1 od1 "is_below" "is_below" sBelow kV1 dc1 pm1 an1 cd1 ct1 sl1)
  (c1:codeIn K cd1 "is_below"=true)
  (k1:keepIn K (.ref f1)=true)
  (a2:NI K "is_word" f2)
  (l2:LK K f2 oc2 od2 "is_word" "is_word" sWord kV2 dc2 pm2 an2 cd2 ct2 sl2)
  (c2:codeIn K cd2 "is_word"=true)
  (k2:keepIn K (.ref f2)=true)
  (a3:NI K "is_eight_words" f3)
  (l3:LK K f3 oc3 od3 "is_eight_words" "is_eight_words" sEight kV3 dc3 pm3 an3 cd3 ct3 sl3)
  (c3:codeIn K cd3 "is_eight_words"=true)
  (k3:keepIn K (.ref f3)=true)
  (a4:NI K "check_image" f4)
  (l4:LK K f4 oc4 od4 "check_image" "check_image" sImage kV4 dc4 pm4 an4 cd4 ct4 sl4)
  (c4:codeIn K cd4 "check_image"=true)
  (k4:keepIn K (.ref f4)=true)
  (a5:findIn K (.ref xC) "__init__"=some (some (.ref f5)))
  (l5:LK K f5 oc5 od5 "__init__" "Memory.__init__" sInit kV5 dc5 pm5 an5 cd5 ct5 sl5)
  (c5:codeIn K cd5 "Memory.__init__"=true)
  (k5:keepIn K (.ref f5)=true)
  (a6:findIn K (.ref xSC) "__init__"=some (some (.ref f6)))
  (l6:LK K f6 oc6 od6 "__init__" "Shelf.__init__" sSInit kV6 dc6 pm6 an6 cd6 ct6 sl6)
  (c6:codeIn K cd6 "Shelf.__init__"=true)
  (k6:keepIn K (.ref f6)=true)
  (a7:findCls K (.ref xWC) (.type "type") "__init__"=some (.val (.ref f7)))
  (l7:LK K f7 oc7 od7 "__init__" "Ways.__init__" sWInit kV7 dc7 pm7 an7 cd7 ct7 sl7)
  (c7:codeIn K cd7 "Ways.__init__"=true)
  (k7:keepIn K (.ref f7)=true)
  (a8:findIn K (.ref xPL) "__init__"=some (some (.ref f8)))
  (l8:LK K f8 oc8 od8 "__init__" "Plain.__init__" sPInit kV8 dc8 pm8 an8 cd8 ct8 sl8)
  (c8:codeIn K cd8 "Plain.__init__"=true)
  (k8:keepIn K (.ref f8)=true)
  (a9:NI K "bound_of" f9)
  (l9:LK K f9 oc9 od9 "bound_of" "bound_of" sBound kV9 dc9 pm9 an9 cd9 ct9 sl9)
  (c9:codeIn K cd9 "bound_of"=true)
  (k9:keepIn K (.ref f9)=true)
  (a10:NI K "is_order" f10)
  (l10:LK K f10 oc10 od10 "is_order" "is_order" sOrder kV10 dc10 pm10 an10 cd10 ct10 sl10)
  (c10:codeIn K cd10 "is_order"=true)
  (k10:keepIn K (.ref f10)=true)
  (a11:NI K "checked" f11)
  (l11:LK K f11 oc11 od11 "checked" "checked" sChk kV11 dc11 pm11 an11 cd11 ct11 sl11)
  (c11:codeIn K cd11 "checked"=true)
  (k11:keepIn K (.ref f11)=true)
  (a12:findIn K (.ref xNR) "__init__"=some (some (.ref f12)))
  (l12:LK K f12 oc12 od12 "__init__" "NoProgram.__init__" sNI kV12 dc12 pm12 an12 cd12 ct12 sl12)
  (c12:codeIn K cd12 "NoProgram.__init__"=true)
  (k12:keepIn K (.ref f12)=true)
  (a13:NI K "first_core" f13)
  (l13:LK K f13 oc13 od13 "first_core" "first_core" sFst kV13 dc13 pm13 an13 cd13 ct13 sl13)
  (c13:codeIn K cd13 "first_core"=true)
  (k13:keepIn K (.ref f13)=true)
  (a14:findIn K (.ref xMC) "arrive"=some (some (.ref f14)))
  (l14:LK K f14 oc14 od14 "arrive" "Machine.arrive" sArr kV14 dc14 pm14 an14 cd14 ct14 sl14)
  (c14:codeIn K cd14 "Machine.arrive"=true)
  (k14:keepIn K (.ref f14)=true)
  (a15:findIn K (.ref xMC) "__init__"=some (some (.ref f15)))
  (l15:K.lookup f15=some ⟨oc15,od15,.func (fnOf "__init__" "Machine.__init__" (defArgs sMInit) (defBody sMInit) (defScope sMInit) (.ref xd15) kV15 dc15 pm15 an15 cd15 ct15),sl15⟩)
  (c15:codeIn K cd15 "Machine.__init__"=true)
  (k15:keepIn K (.ref f15)=true)
  (ld15:K.lookup xd15=some { cls:=.type "tuple",data:=.seq #[.none,.none] nd15 })
  (a16:findIn K (.ref xMC) "program"=some (some (.ref f16)))
  (l16:LK K f16 oc16 od16 "program" "Machine.program" sMPrg kV16 dc16 pm16 an16 cd16 ct16 sl16)
  (c16:codeIn K cd16 "Machine.program"=true)
  (k16:keepIn K (.ref f16)=true)
  (a17:findIn K (.ref xMC) "entry"=some (some (.ref f17)))
  (l17:LK K f17 oc17 od17 "entry" "Machine.entry" sMEnt kV17 dc17 pm17 an17 cd17 ct17 sl17)
  (c17:codeIn K cd17 "Machine.entry"=true)
  (k17:keepIn K (.ref f17)=true)
  (a18:NI K "bare" f18)
  (l18:LK K f18 oc18 od18 "bare" "bare" sBare kV18 dc18 pm18 an18 cd18 ct18 sl18)
  (c18:codeIn K cd18 "bare"=true)
  (k18:keepIn K (.ref f18)=true)
  (a19:NI K "_law_cell_at" f19)
  (l19:LK K f19 oc19 od19 "_law_cell_at" "_law_cell_at" sCell kV19 dc19 pm19 an19 cd19 ct19 sl19)
  (c19:codeIn K cd19 "_law_cell_at"=true)
  (k19:keepIn K (.ref f19)=true)
  (a20:NI K "_law_mix" f20)
  (l20:LK K f20 oc20 od20 "_law_mix" "_law_mix" sMix kV20 dc20 pm20 an20 cd20 ct20 sl20)
  (c20:codeIn K cd20 "_law_mix"=true)
  (k20:keepIn K (.ref f20)=true)
  (a21:NI K "_law_row" f21)
  (l21:LK K f21 oc21 od21 "_law_row" "_law_row" sRowL kV21 dc21 pm21 an21 cd21 ct21 sl21)
  (c21:codeIn K cd21 "_law_row"=true)
  (k21:keepIn K (.ref f21)=true)
  (a22:NI K "_law_spoil" f22)
  (l22:LK K f22 oc22 od22 "_law_spoil" "_law_spoil" sSpo kV22 dc22 pm22 an22 cd22 ct22 sl22)
  (c22:codeIn K cd22 "_law_spoil"=true)
  (k22:keepIn K (.ref f22)=true)
  (a23:NI K "_law_refused" f23)
  (l23:LK K f23 oc23 od23 "_law_refused" "_law_refused" sRefd kV23 dc23 pm23 an23 cd23 ct23 sl23)
  (c23:codeIn K cd23 "_law_refused"=true)
  (k23:keepIn K (.ref f23)=true)
  (a24:NI K "_law_is_no_program" f24)
  (l24:LK K f24 oc24 od24 "_law_is_no_program" "_law_is_no_program" sNop kV24 dc24 pm24 an24 cd24 ct24 sl24)
  (c24:codeIn K cd24 "_law_is_no_program"=true)
  (k24:keepIn K (.ref f24)=true)
  (a25:NI K "law" f25)
  (l25:LK K f25 oc25 od25 "law" "law" sLaw kV25 dc25 pm25 an25 cd25 ct25 sl25)
  (c25:codeIn K cd25 "law"=true)
  (k25:keepIn K (.ref f25)=true)
  (v0:nsIn K mainGlobals "WORDS"=some (some (.int 281474976710656 tk0)))
  (v1:nsIn K mainGlobals "CELLS"=some (some (.int 8 tk1)))
  (v2:nsIn K mainGlobals "MOST_PAGES"=some (some (.int 24 tk2)))
  (v3:nsIn K mainGlobals "SEATS"=some (some (.int 12 tk3)))
  (v4:nsIn K mainGlobals "REGISTERS"=some (some (.int 4 tk4)))
  (v5:nsIn K mainGlobals "ENTRIES"=some (some (.int 61 tk5)))
  (v6:nsIn K mainGlobals "ORDERS"=some (some (.int 60 tk6)))
  (z_isinstance:nsIn K mainGlobals "isinstance"=some none)
  (z_int:nsIn K mainGlobals "int"=some none)
  (z_bool:nsIn K mainGlobals "bool"=some none)
  (z_list:nsIn K mainGlobals "list"=some none)
  (z_len:nsIn K mainGlobals "len"=some none)
  (z_all:nsIn K mainGlobals "all"=some none)
  (z_range:nsIn K mainGlobals "range"=some none)
  (z_str:nsIn K mainGlobals "str"=some none)
  (z_tuple:nsIn K mainGlobals "tuple"=some none)
  (z_zip:nsIn K mainGlobals "zip"=some none)
  (z_enumerate:nsIn K mainGlobals "enumerate"=some none)
  (z_ValueError:nsIn K mainGlobals "ValueError"=some none)
  (xi_NP:L2.excIn K xNP=true)
  (xi_NL:L2.excIn K xNL=true)
  (xi_NW:L2.excIn K xNW=true)
  (xi_NI:L2.excIn K xNI=true)
  (xi_NSh:L2.excIn K xNSh=true)
  (nh:findIn K (.ref xC) "held"=some none)
  (nmo:findIn K (.ref xSC) "most"=some none)
  (nse:findIn K (.ref xSC) "seats"=some none)
  (nme:findIn K (.ref xPL) "memory"=some none)
  (nba:findIn K (.ref xPL) "base"=some none)
  (nra:findIn K (.ref xPL) "rack"=some none)
  (nan:findIn K (.ref xPL) "answers"=some none)
  (nwys:findIn K (.ref xMC) "ways"=some none)
  (nord:findIn K (.ref xMC) "orders"=some none)
  (ngat:findIn K (.ref xMC) "gate"=some none)
  (nreg:findIn K (.ref xMC) "registers"=some none)
  (nker:findIn K (.ref xMC) "kernel"=some none)
  (nsav:findIn K (.ref xMC) "saved"=some none)
  (nhal:findIn K (.ref xMC) "halted"=some none)
  (nhap:findIn K (.ref xMC) "happened"=some none)
  (nctr:findIn K (.ref xMC) "counter"=some none)
  (npp:findIn K (.ref xNR) "place"=some none)
  (psa:findIn K (.ref xNR) "__setattr__"=some (some (.builtin "object.__setattr__")))
  (pov:L2.overIn K xNR=true)
  (phd:hasDictIn K xNR=true)
  (pga:findIn K (.ref xNR) "__getattribute__"=some (some (.builtin "BaseException.__getattribute__")))
  (pgh:findIn K (.ref xNR) "__getattr__"=some none)
  (pmb:mroIn K xNR (.type "BaseException")=some true)
  (pex:L2.excInI K xNR f12=true)
  (kNR_e1:findIn K (.ref xNR) "__getattribute__"=some (some (.builtin "BaseException.__getattribute__")))
  (kNR_e2:findIn K (.ref xNR) "__getattr__"=some none)
  (kNR_e3:findIn K (.ref xNR) "__class__"=some (some (.builtin "object.__class__")))
  (kNR_e4:specialIn K (.builtin "object.__class__") "__get__"=some (some (.builtin "getset_descriptor.__get__")))
  (kNR_e5:PySem.W.takesIn K (.builtin "object.__class__")=some true)
  (kNR_e6:mroIn K xNR (.type "object")=some true)
  (kNR_e7:mroIn K xNR (.type "BaseException")=some true)
  (kNR_t1:PySem.W.typeIn K (.ref xNR)=some (.type "type"))
  (kNR_t3:PySem.W.subIn K (.ref xNR) (.ref xNR)=some true)
  (kNR_t4:PySem.W.subIn K (.ref xNR) (.type "ValueError")=some true)
  (kNR_ex:exmOne K (.ref xNR) (.ref xHE)=some true)
  (kNI_e1:findIn K (.ref xNI) "__getattribute__"=some (some (.builtin "BaseException.__getattribute__")))
  (kNI_e2:findIn K (.ref xNI) "__getattr__"=some none)
  (kNI_e3:findIn K (.ref xNI) "__class__"=some (some (.builtin "object.__class__")))
  (kNI_e4:specialIn K (.builtin "object.__class__") "__get__"=some (some (.builtin "getset_descriptor.__get__")))
  (kNI_e5:PySem.W.takesIn K (.builtin "object.__class__")=some true)
  (kNI_e6:mroIn K xNI (.type "object")=some true)
  (kNI_e7:mroIn K xNI (.type "BaseException")=some true)
  (kNI_t1:PySem.W.typeIn K (.ref xNI)=some (.type "type"))
  (kNI_t3:PySem.W.subIn K (.ref xNI) (.ref xNI)=some true)
  (kNI_t4:PySem.W.subIn K (.ref xNI) (.type "ValueError")=some true)
  (kNI_ex:exmOne K (.ref xNI) (.ref xHE)=some true)
  (kNSh_e1:findIn K (.ref xNSh) "__getattribute__"=some (some (.builtin "BaseException.__getattribute__")))
  (kNSh_e2:findIn K (.ref xNSh) "__getattr__"=some none)
  (kNSh_e3:findIn K (.ref xNSh) "__class__"=some (some (.builtin "object.__class__")))
  (kNSh_e4:specialIn K (.builtin "object.__class__") "__get__"=some (some (.builtin "getset_descriptor.__get__")))
  (kNSh_e5:PySem.W.takesIn K (.builtin "object.__class__")=some true)
  (kNSh_e6:mroIn K xNSh (.type "object")=some true)
  (kNSh_e7:mroIn K xNSh (.type "BaseException")=some true)
  (kNSh_t1:PySem.W.typeIn K (.ref xNSh)=some (.type "type"))
  (kNSh_t3:PySem.W.subIn K (.ref xNSh) (.ref xNSh)=some true)
  (kNSh_t4:PySem.W.subIn K (.ref xNSh) (.type "ValueError")=some true)
  (kNSh_ex:exmOne K (.ref xNSh) (.ref xHE)=some true)
  (u_NT:PySem.W.kin_not K xNR xNT=true)
  (u_FA:PySem.W.kin_not K xNR xFA=true)
  (u_NB:PySem.W.kin_not K xNR xNB=true)
  (u_NI:PySem.W.kin_not K xNR xNI=true)
  (u_NSh:PySem.W.kin_not K xNR xNSh=true)
  (nF:NI K "FORMS" xFF)
  (lF:K.lookup xFF=some { cls:=.type "dict",data:=.dict #[⟨hF0,.str "set" uF0,.ref yF0⟩,⟨hF1,.str "add" uF1,.ref yF1⟩,⟨hF2,.str "both" uF2,.ref yF2⟩,⟨hF3,.str "odd" uF3,.ref yF3⟩,⟨hF4,.str "load" uF4,.ref yF4⟩,⟨hF5,.str "save" uF5,.ref yF5⟩,⟨hF6,.str "jump" uF6,.ref yF6⟩,⟨hF7,.str "nought" uF7,.ref yF7⟩,⟨hF8,.str "tell" uF8,.ref yF8⟩,⟨hF9,.str "call" uF9,.ref yF9⟩,⟨hF10,.str "halt" uF10,.ref yF10⟩,⟨hF11,.str "peek" uF11,.ref yF11⟩,⟨hF12,.str "poke" uF12,.ref yF12⟩,⟨hF13,.str "root" uF13,.ref yF13⟩,⟨hF14,.str "drop" uF14,.ref yF14⟩,⟨hF15,.str "give" uF15,.ref yF15⟩,⟨hF16,.str "want" uF16,.ref yF16⟩,⟨hF17,.str "why" uF17,.ref yF17⟩,⟨hF18,.str "back" uF18,.ref yF18⟩,⟨hF19,.str "past" uF19,.ref yF19⟩,⟨hF20,.str "user" uF20,.ref yF20⟩] epF })
  (qF0:K.lookup yF0=some { cls:=.type "tuple",data:=.seq #[.str "a" wF0,.str "word" wF1] nF0 })
  (qF1:K.lookup yF1=some { cls:=.type "tuple",data:=.seq #[.str "a" wF2,.str "b" wF3] nF1 })
  (qF2:K.lookup yF2=some { cls:=.type "tuple",data:=.seq #[.str "a" wF4,.str "b" wF5] nF2 })
  (qF3:K.lookup yF3=some { cls:=.type "tuple",data:=.seq #[.str "a" wF6,.str "b" wF7] nF3 })
  (qF4:K.lookup yF4=some { cls:=.type "tuple",data:=.seq #[.str "a" wF8,.str "b" wF9] nF4 })
  (qF5:K.lookup yF5=some { cls:=.type "tuple",data:=.seq #[.str "a" wF10,.str "b" wF11] nF5 })
  (qF6:K.lookup yF6=some { cls:=.type "tuple",data:=.seq #[.str "at" wF12] nF6 })
  (qF7:K.lookup yF7=some { cls:=.type "tuple",data:=.seq #[.str "a" wF13,.str "at" wF14] nF7 })
  (qF8:K.lookup yF8=some { cls:=.type "tuple",data:=.seq #[.str "a" wF15] nF8 })
  (qF9:K.lookup yF9=some { cls:=.type "tuple",data:=.seq #[] nF9 })
  (qF10:K.lookup yF10=some { cls:=.type "tuple",data:=.seq #[] nF10 })
  (qF11:K.lookup yF11=some { cls:=.type "tuple",data:=.seq #[.str "a" wF16,.str "b" wF17] nF11 })
  (qF12:K.lookup yF12=some { cls:=.type "tuple",data:=.seq #[.str "a" wF18,.str "b" wF19] nF12 })
  (qF13:K.lookup yF13=some { cls:=.type "tuple",data:=.seq #[.str "a" wF20] nF13 })
  (qF14:K.lookup yF14=some { cls:=.type "tuple",data:=.seq #[.str "a" wF21] nF14 })
  (qF15:K.lookup yF15=some { cls:=.type "tuple",data:=.seq #[.str "a" wF22] nF15 })
  (qF16:K.lookup yF16=some { cls:=.type "tuple",data:=.seq #[.str "a" wF23] nF16 })
  (qF17:K.lookup yF17=some { cls:=.type "tuple",data:=.seq #[.str "a" wF24,.str "b" wF25] nF17 })
  (qF18:K.lookup yF18=some { cls:=.type "tuple",data:=.seq #[] nF18 })
  (qF19:K.lookup yF19=some { cls:=.type "tuple",data:=.seq #[] nF19 })
  (qF20:K.lookup yF20=some { cls:=.type "tuple",data:=.seq #[.str "at" wF26] nF20 })
  (loF:(xFF == sysModules)=false)
  (i5:isFn K (.ref f5)=true)
  (i6:isFn K (.ref f6)=true)
  (i8:isFn K (.ref f8)=true)
  (i12:isFn K (.ref f12)=true)
  (i14:isFn K (.ref f14)=true)
  (i15:isFn K (.ref f15)=true)
  (i16:isFn K (.ref f16)=true)
  (i17:isFn K (.ref f17)=true)
  (pg_C:plainGet K xC Str.empty=true)
  (hd_C:hasDictIn K xC=true)
  (po_C:plainOver K xC=true)
  (sa_C:findIn K (.ref xC) "__setattr__"=some (some (.builtin "object.__setattr__")))
  (pg_MC:plainGet K xMC Str.empty=true)
  (hd_MC:hasDictIn K xMC=true)
  (po_MC:plainOver K xMC=true)
  (sa_MC:findIn K (.ref xMC) "__setattr__"=some (some (.builtin "object.__setattr__")))
  (pg_PL:plainGet K xPL Str.empty=true)
  (hd_PL:hasDictIn K xPL=true)
  (po_PL:plainOver K xPL=true)
  (sa_PL:findIn K (.ref xPL) "__setattr__"=some (some (.builtin "object.__setattr__")))
  (pg_SC:plainGet K xSC Str.empty=true)
  (hd_SC:hasDictIn K xSC=true)
  (po_SC:plainOver K xSC=true)
  (sa_SC:findIn K (.ref xSC) "__setattr__"=some (some (.builtin "object.__setattr__")))
  (mk_C:makesIn K xC=true)
  (kc_C:keepIn K (.ref xC)=true)
  (mk_MC:makesIn K xMC=true)
  (kc_MC:keepIn K (.ref xMC)=true)
  (mk_PL:makesIn K xPL=true)
  (kc_PL:keepIn K (.ref xPL)=true)
  (mk_SC:makesIn K xSC=true)
  (kc_SC:keepIn K (.ref xSC)=true)
  (sp_WC:specialIn K (.ref xWC) "__getattribute__"=some (some (.builtin "type.__getattribute__")))
  (rd_WC:readsIn K xWC (.type "type")=true)
  : ∃ fd:FuncData,(∀ (s:Shared) (v:Value),BindsTo s fd ⟨[v],[]⟩ [("_law_script",v)])/\∀ base:Heap,K.In base->base.Ns mainGlobals mg->FnOk l.prog w K mg base CX0 12 fa fd ["_law_script"] (spLaw K):=by
 have e:=hfa.symm.trans (mg_of X G a25)
 cases e
 have F0:=fun_mk (st:=sWhole) l0 c0 k0
 have D0:Dn K mg _ _ _ _ _:=⟨F0,mg_of X G a0,fb1 F0 "thing"⟩
 have F1:=fun_mk (st:=sBelow) l1 c1 k1
 have D1:Dn K mg _ _ _ _ _:=⟨F1,mg_of X G a1,fb2 F1 "thing" "bound"⟩
 have F2:=fun_mk (st:=sWord) l2 c2 k2
 have D2:Dn K mg _ _ _ _ _:=⟨F2,mg_of X G a2,fb1 F2 "thing"⟩
 have F3:=fun_mk (st:=sEight) l3 c3 k3
 have D3:Dn K mg _ _ _ _ _:=⟨F3,mg_of X G a3,fb1 F3 "thing"⟩
 have F4:=fun_mk (st:=sImage) l4 c4 k4
 have D4:Dn K mg _ _ _ _ _:=⟨F4,mg_of X G a4,fb1 F4 "pages"⟩
 have F5:=fun_mk (st:=sInit) l5 c5 k5
 have B5:=fb2 F5 "self" "pages"
 have F6:=fun_mk (st:=sSInit) l6 c6 k6
 have B6:=fb2 F6 "self" "most"
 have F7:=fun_mk (st:=sWInit) l7 c7 k7
 have B7:=fb2 F7 "self" "most"
 have F8:=fun_mk (st:=sPInit) l8 c8 k8
 have B8:=fb4 F8 "self" "pages" "most" "words"
 have F9:=fun_mk (st:=sBound) l9 c9 k9
 have D9:Dn K mg _ _ _ _ _:=⟨F9,mg_of X G a9,fb1 F9 "part"⟩
 have F10:=fun_mk (st:=sOrder) l10 c10 k10
 have D10:Dn K mg _ _ _ _ _:=⟨F10,mg_of X G a10,fb1 F10 "thing"⟩
 have F11:=fun_mk (st:=sChk) l11 c11 k11
 have D11:Dn K mg _ _ _ _ _:=⟨F11,mg_of X G a11,fb2 F11 "program" "entry"⟩
 have F12:=fun_mk (st:=sNI) l12 c12 k12
 have B12:=fb2 F12 "self" "place"
 have F13:=fun_mk (st:=sFst) l13 c13 k13
 have D13:Dn K mg _ _ _ _ _:=⟨F13,mg_of X G a13,F13.binds (ps:=[]) λ_ _ _ _ _ _ us hl=>match us,hl with | [],_=>rfl⟩
 have F14:=fun_mk (st:=sArr) l14 c14 k14
 have B14:=fb2 F14 "self" "counter"
 have F15:=fun_mkD (st:=sMInit) l15 c15 k15
 have B15:=FunD.bindsD (m:=4) (ps:=["self","ways","program","entry","core","events"]) (ds:=[.none,.none]) rfl F15 ld15 rfl λ_ _ _ _ _ _ us hl=>match us,hl with | [_,_,_,_],_=>⟨_,rfl,rfl⟩
 have F16:=fun_mk (st:=sMPrg) l16 c16 k16
 have B16:=fb1 F16 "self"
 have F17:=fun_mk (st:=sMEnt) l17 c17 k17
 have B17:=fb1 F17 "self"
 have F18:=fun_mk (st:=sBare) l18 c18 k18
 have D18:Dn K mg _ _ _ _ _:=⟨F18,mg_of X G a18,fb5 F18 "pages" "most" "program" "entry" "words"⟩
 have F19:=fun_mk (st:=sCell) l19 c19 k19
 have D19:Dn K mg _ _ _ _ _:=⟨F19,mg_of X G a19,fb2 F19 "_law_script" "_law_k"⟩
 have F20:=fun_mk (st:=sMix) l20 c20 k20
 have D20:Dn K mg _ _ _ _ _:=⟨F20,mg_of X G a20,fb3 F20 "_law_cell" "_law_by" "_law_many"⟩
 have F21:=fun_mk (st:=sRowL) l21 c21 k21
 have D21:Dn K mg _ _ _ _ _:=⟨F21,mg_of X G a21,fb1 F21 "_law_cell"⟩
 have F22:=fun_mk (st:=sSpo) l22 c22 k22
 have D22:Dn K mg _ _ _ _ _:=⟨F22,mg_of X G a22,fb2 F22 "_law_rows" "_law_script"⟩
 have F23:=fun_mk (st:=sRefd) l23 c23 k23
 have D23:Dn K mg _ _ _ _ _:=⟨F23,mg_of X G a23,fb5 F23 "_law_kind" "_law_pages" "_law_most" "_law_rows" "_law_entry"⟩
 have F24:=fun_mk (st:=sNop) l24 c24 k24
 have D24:Dn K mg _ _ _ _ _:=⟨F24,mg_of X G a24,fb2 F24 "_law_found" "_law_due"⟩
 have F25:=fun_mk (st:=sLaw) l25 c25 k25
 have D25:Dn K mg _ _ _ _ _:=⟨F25,mg_of X G a25,fb1 F25 "_law_script"⟩
 have T:Txt K mg:=⟨mg_none_of X G z_isinstance,mg_none_of X G z_int,mg_none_of X G z_bool,mg_none_of X G z_list,mg_none_of X G z_len,mg_none_of X G z_all,mg_none_of X G z_range⟩
 have T2:Tx2 K mg:=⟨mg_none_of X G z_str,mg_none_of X G z_tuple,mg_none_of X G z_zip,mg_none_of X G z_enumerate,⟨tk0,mg_of X G v0⟩,⟨tk4,mg_of X G v4⟩,⟨tk5,mg_of X G v5⟩,⟨tk6,mg_of X G v6⟩⟩
 have S0:Sto K mg xC xNP xNL xNW xNI:=⟨⟨pg_C,hd_C,po_C,sa_C⟩,nh,⟨tk0,mg_of X G v0⟩,⟨tk1,mg_of X G v1⟩,⟨tk2,mg_of X G v2⟩,mg_of X G n_NP,xi_NP,mg_of X G n_NL,xi_NL,mg_of X G n_NW,xi_NW,mg_of X G n_NI,xi_NI⟩
 have SS:Shf K mg xSC:=⟨⟨pg_SC,hd_SC,po_SC,sa_SC⟩,nmo,nse,⟨tk3,mg_of X G v3⟩⟩
 have PC:Plc K xPL:=⟨⟨pg_PL,hd_PL,po_PL,sa_PL⟩,nme,nba,nra,nan⟩
 have MM:Mcc K xMC:=⟨⟨pg_MC,hd_MC,po_MC,sa_MC⟩,nwys,nord,ngat,nreg,nker,nsav,nhal,nhap,nctr⟩
 have SN:ShN K mg xNSh:=⟨xi_NSh,mg_of X G n_NSh⟩
 have NPg:Npg K mg xNR f12:=⟨⟨psa,pov,phd,pga,pgh,pmb⟩,npp,pex,i12,mg_of X G n_NR⟩
 have ek0:EX.Cls K xNR:=⟨kNR_e1,kNR_e2,kNR_e3,kNR_e4,kNR_e5,kNR_e6,kNR_e7⟩
 have ek1:EX.Cls K xNI:=⟨kNI_e1,kNI_e2,kNI_e3,kNI_e4,kNI_e5,kNI_e6,kNI_e7⟩
 have ek2:EX.Cls K xNSh:=⟨kNSh_e1,kNSh_e2,kNSh_e3,kNSh_e4,kNSh_e5,kNSh_e6,kNSh_e7⟩
 have KD0:Kd K mg xHE xNR xNT xFA xNB xNI xNSh:=⟨mg_of X G n_NR,mg_of X G n_NT,mg_of X G n_FA,mg_of X G n_NB,mg_of X G n_NI,mg_of X G n_NSh,mg_of X G n_HE,mg_none_of X G z_ValueError,⟨ek0,.inr (.inl ⟨_,rfl,rfl,kNR_t1,kNR_e6,kNR_t3⟩)⟩,⟨ek0,.inr (.inr ⟨_,rfl,rfl,by kernel_rfl,kNR_t4⟩)⟩,⟨ek0,.inl ⟨_,rfl,rfl,u_NT⟩⟩,⟨ek0,.inl ⟨_,rfl,rfl,u_FA⟩⟩,⟨ek0,.inl ⟨_,rfl,rfl,u_NB⟩⟩,⟨ek0,.inl ⟨_,rfl,rfl,u_NI⟩⟩,⟨ek0,.inl ⟨_,rfl,rfl,u_NSh⟩⟩,⟨ek1,.inr (.inl ⟨_,rfl,rfl,kNI_t1,kNI_e6,kNI_t3⟩)⟩,⟨ek2,.inr (.inl ⟨_,rfl,rfl,kNSh_t1,kNSh_e6,kNSh_t3⟩)⟩,kNR_ex,kNI_ex,kNSh_ex⟩
 have tbF:Tab K xFF [("set",yF0),("add",yF1),("both",yF2),("odd",yF3),("load",yF4),("save",yF5),("jump",yF6),("nought",yF7),("tell",yF8),("call",yF9),("halt",yF10),("peek",yF11),("poke",yF12),("root",yF13),("drop",yF14),("give",yF15),("want",yF16),("why",yF17),("back",yF18),("past",yF19),("user",yF20)]:=⟨loF,_,_,_,lF,⟨rfl,rfl,rfl⟩,rfl,.cons rfl rfl (.cons rfl rfl (.cons rfl rfl (.cons rfl rfl (.cons rfl rfl (.cons rfl rfl (.cons rfl rfl (.cons rfl rfl (.cons rfl rfl (.cons rfl rfl (.cons rfl rfl (.cons rfl rfl (.cons rfl rfl (.cons rfl rfl (.cons rfl rfl (.cons rfl rfl (.cons rfl rfl (.cons rfl rfl (.cons rfl rfl (.cons rfl rfl (.cons rfl rfl (.nil)))))))))))))))))))))⟩
 have fmF:Fm K [("set",yF0),("add",yF1),("both",yF2),("odd",yF3),("load",yF4),("save",yF5),("jump",yF6),("nought",yF7),("tell",yF8),("call",yF9),("halt",yF10),("peek",yF11),("poke",yF12),("root",yF13),("drop",yF14),("give",yF15),("want",yF16),("why",yF17),("back",yF18),("past",yF19),("user",yF20)] fT:=.cons (λH=>.inr ⟨_,_,_,qF0,rfl,rfl,(by show 2<=sizeLine; decide),.cons ⟨_,rfl⟩ (.cons ⟨_,rfl⟩ .nil)⟩) (.cons (λH=>.inr ⟨_,_,_,qF1,rfl,rfl,(by show 2<=sizeLine; decide),.cons ⟨_,rfl⟩ (.cons ⟨_,rfl⟩ .nil)⟩) (.cons (λH=>.inr ⟨_,_,_,qF2,rfl,rfl,(by show 2<=sizeLine; decide),.cons ⟨_,rfl⟩ (.cons ⟨_,rfl⟩ .nil)⟩) (.cons (λH=>.inr ⟨_,_,_,qF3,rfl,rfl,(by show 2<=sizeLine; decide),.cons ⟨_,rfl⟩ (.cons ⟨_,rfl⟩ .nil)⟩) (.cons (λH=>.inr ⟨_,_,_,qF4,rfl,rfl,(by show 2<=sizeLine; decide),.cons ⟨_,rfl⟩ (.cons ⟨_,rfl⟩ .nil)⟩) (.cons (λH=>.inr ⟨_,_,_,qF5,rfl,rfl,(by show 2<=sizeLine; decide),.cons ⟨_,rfl⟩ (.cons ⟨_,rfl⟩ .nil)⟩) (.cons (λH=>.inr ⟨_,_,_,qF6,rfl,rfl,(by show 1<=sizeLine; decide),.cons ⟨_,rfl⟩ .nil⟩) (.cons (λH=>.inr ⟨_,_,_,qF7,rfl,rfl,(by show 2<=sizeLine; decide),.cons ⟨_,rfl⟩ (.cons ⟨_,rfl⟩ .nil)⟩) (.cons (λH=>.inr ⟨_,_,_,qF8,rfl,rfl,(by show 1<=sizeLine; decide),.cons ⟨_,rfl⟩ .nil⟩) (.cons (λH=>.inr ⟨_,_,_,qF9,rfl,rfl,(by show 0<=sizeLine; decide),.nil⟩) (.cons (λH=>.inr ⟨_,_,_,qF10,rfl,rfl,(by show 0<=sizeLine; decide),.nil⟩) (.cons (λH=>.inr ⟨_,_,_,qF11,rfl,rfl,(by show 2<=sizeLine; decide),.cons ⟨_,rfl⟩ (.cons ⟨_,rfl⟩ .nil)⟩) (.cons (λH=>.inr ⟨_,_,_,qF12,rfl,rfl,(by show 2<=sizeLine; decide),.cons ⟨_,rfl⟩ (.cons ⟨_,rfl⟩ .nil)⟩) (.cons (λH=>.inr ⟨_,_,_,qF13,rfl,rfl,(by show 1<=sizeLine; decide),.cons ⟨_,rfl⟩ .nil⟩) (.cons (λH=>.inr ⟨_,_,_,qF14,rfl,rfl,(by show 1<=sizeLine; decide),.cons ⟨_,rfl⟩ .nil⟩) (.cons (λH=>.inr ⟨_,_,_,qF15,rfl,rfl,(by show 1<=sizeLine; decide),.cons ⟨_,rfl⟩ .nil⟩) (.cons (λH=>.inr ⟨_,_,_,qF16,rfl,rfl,(by show 1<=sizeLine; decide),.cons ⟨_,rfl⟩ .nil⟩) (.cons (λH=>.inr ⟨_,_,_,qF17,rfl,rfl,(by show 2<=sizeLine; decide),.cons ⟨_,rfl⟩ (.cons ⟨_,rfl⟩ .nil)⟩) (.cons (λH=>.inr ⟨_,_,_,qF18,rfl,rfl,(by show 0<=sizeLine; decide),.nil⟩) (.cons (λH=>.inr ⟨_,_,_,qF19,rfl,rfl,(by show 0<=sizeLine; decide),.nil⟩) (.cons (λH=>.inr ⟨_,_,_,qF20,rfl,rfl,(by show 1<=sizeLine; decide),.cons ⟨_,rfl⟩ .nil⟩) (.nil)))))))))))))))))))))
 have Z:Fms K mg xFF:=⟨mg_of X G nF,_,tbF,fmF⟩
 have M14_MC:Me K xMC _ _ _ _ _ _:=⟨F14,⟨a14,i14,k14⟩,B14⟩
 have M16_MC:Me K xMC _ _ _ _ _ _:=⟨F16,⟨a16,i16,k16⟩,B16⟩
 have M17_MC:Me K xMC _ _ _ _ _ _:=⟨F17,⟨a17,i17,k17⟩,B17⟩
 refine ⟨fnOf "law" "law" (defArgs sLaw) (defBody sLaw) (defScope sLaw) .none kV25 dc25 pm25 an25 cd25 ct25,λs v=>.of_eq rfl,λbase _ _=>?_⟩
 have g0_whole:FnOk l.prog w K mg base _ _ f0 _ _ spWhole:=ok_whole F0 T
 have g1_below:FnOk l.prog w K mg base _ _ f1 _ _ spBelow:=ok_below F1 D0 T
 have g2_word:FnOk l.prog w K mg base _ _ f2 _ _ spWord:=ok_word F2 D1 g1_below S0
 have g3_eight:FnOk l.prog w K mg base _ _ f3 _ _ spEight:=ok_eight F3 D2 g2_word S0 T
 have g4_image:FnOk l.prog w K mg base _ _ f4 _ _ spImage:=ok_image F4 D3 g3_eight S0 T
 have g5_init:FnOk l.prog w K mg base _ _ f5 _ _ (spInit xC):=ok_init F5 D4 g4_image S0 T
 have g6_sinit:FnOk l.prog w K mg base _ _ f6 _ _ (spSInit xSC):=ok_sinit F6 D0 g0_whole SS
 have g7_winit:FnOk l.prog w K mg base _ _ f7 _ _ (spWInit xSC xPL):=ok_winit F7 ⟨mk_SC,a6,i6,kc_SC⟩ (mg_of X G n_SC) B6 g6_sinit PC
 have g8_plinit:FnOk l.prog w K mg base _ _ f8 _ _ (spPInit xC xSC xPL):=ok_plinit F8 ⟨mk_C,a5,i5,kc_C⟩ (mg_of X G n_C) B5 g5_init ⟨sp_WC,rd_WC,a7,k7⟩ (mg_of X G n_WC) B7 g7_winit PC T
 have g3_eightN:FnOk l.prog w K mg base _ _ f3 _ _ spEightN:=ok_eightN F3 D2 g2_word S0 T
 have g3_o10:FnOk l.prog w K mg base _ _ f3 _ _ spEightB:=FnOk.or g3_eight g3_eightN
 have g4_imageN:FnOk l.prog w K mg base _ _ f4 _ _ (spImageN xNI):=ok_imageN F4 D3 g3_o10 S0 T
 have g6_sinitN:FnOk l.prog w K mg base _ _ f6 _ _ (spSInitN xSC xNSh):=ok_sinitN F6 D0 g0_whole SS SN
 have g5_minitN:FnOk l.prog w K mg base _ _ f5 _ _ (spMInitN xC xNI):=ok_minitN F5 D4 g4_imageN
 have g7_winitN:FnOk l.prog w K mg base _ _ f7 _ _ (spWInitN xPL xNSh):=ok_winitN F7 ⟨mk_SC,a6,i6,kc_SC⟩ (mg_of X G n_SC) B6 g6_sinitN PC
 have g8_plinitI:FnOk l.prog w K mg base _ _ f8 _ _ (spPInitI xPL xNI):=ok_plinitI F8 ⟨mk_C,a5,i5,kc_C⟩ (mg_of X G n_C) B5 g5_minitN
 have g8_plinitS:FnOk l.prog w K mg base _ _ f8 _ _ (spPInitS xPL xNSh):=ok_plinitS F8 ⟨mk_C,a5,i5,kc_C⟩ (mg_of X G n_C) B5 g5_init ⟨sp_WC,rd_WC,a7,k7⟩ (mg_of X G n_WC) B7 g7_winitN PC
 have g9_bound:FnOk l.prog w K mg base _ _ f9 _ _ spBound:=ok_bound F9 T T2
 have g10_order:FnOk l.prog w K mg base _ _ f10 _ _ spOrder:=ok_order F10 D1 g1_below D9 g9_bound Z T T2
 have g11_chk:FnOk l.prog w K mg base _ _ f11 _ _ spChk:=ok_chk F11 D10 g10_order D1 g1_below T T2
 have g12_ninit:FnOk l.prog w K mg base _ _ f12 _ _ (spXI xNR 1 ffP):=ok_ninit F12 NPg
 have g11_chkN:FnOk l.prog w K mg base _ _ f11 _ _ (spChkN xNR):=ok_chkN F11 D10 g10_order D1 g1_below NPg g12_ninit B12 T T2
 have g13_fst:FnOk l.prog w K mg base _ _ f13 _ _ spFst:=ok_fst F13 T2
 have g14_arr0:FnOk l.prog w K mg base _ _ f14 _ _ (spArr0 xMC):=ok_arr0 F14 MM T
 have g15_minit:FnOk l.prog w K mg base _ _ f15 _ _ (spMInit xMC):=ok_minit F15 D11 g11_chk D13 g13_fst M14_MC g14_arr0 MM T
 have g15_minitB:FnOk l.prog w K mg base _ _ f15 _ _ (spMInitB xMC xNR):=ok_minitB F15 D11 g11_chkN
 have g16_mprg:FnOk l.prog w K mg base _ _ f16 _ _ (spMPrg xMC):=ok_mprg F16 MM T
 have g17_ment:FnOk l.prog w K mg base _ _ f17 _ _ (spMEnt xMC):=ok_ment F17 MM T
 have g18_bareI:FnOk l.prog w K mg base _ _ f18 _ _ (spBareI xNI):=ok_bareI F18 ⟨mk_PL,a8,i8,kc_PL⟩ (mg_of X G n_PL) B8 g8_plinitI ⟨mk_MC,a15,i15,kc_MC⟩ (mg_of X G n_MC) B15 g15_minit
 have g18_bareS:FnOk l.prog w K mg base _ _ f18 _ _ (spBareS xNSh):=ok_bareS F18 ⟨mk_PL,a8,i8,kc_PL⟩ (mg_of X G n_PL) B8 g8_plinitS ⟨mk_MC,a15,i15,kc_MC⟩ (mg_of X G n_MC) B15 g15_minit
 have g18_bareP:FnOk l.prog w K mg base _ _ f18 _ _ (spBareP xNR):=ok_bareP F18 ⟨mk_PL,a8,i8,kc_PL⟩ (mg_of X G n_PL) B8 g8_plinit ⟨mk_MC,a15,i15,kc_MC⟩ (mg_of X G n_MC) B15 g15_minitB
 have g18_o31:FnOk l.prog w K mg base _ _ f18 _ _ (spBareN xNI xNSh xNR):=FnOk.or g18_bareI (FnOk.or g18_bareS g18_bareP)
 have g19_cell:FnOk l.prog w K mg base _ _ f19 _ _ (spCell K):=ok_cell F19 T
 have g20_mix:FnOk l.prog w K mg base _ _ f20 _ _ spMix:=ok_mix F20
 have g21_rowl:FnOk l.prog w K mg base _ _ f21 _ _ spRowL:=ok_rowl F21 D20 g20_mix
 have g22_spo:FnOk l.prog w K mg base _ _ f22 _ _ (spSpoil K):=ok_spo F22 D19 g19_cell D20 g20_mix T
 have g23_refp:FnOk l.prog w K mg base _ _ f23 _ _ (spRefP xNR):=ok_refp F23 D11 g11_chkN D18 g18_o31 ⟨mk_MC,a15,i15,kc_MC⟩ (mg_of X G n_MC) B15 g15_minitB ⟨mk_PL,a8,i8,kc_PL⟩ (mg_of X G n_PL) B8 g8_plinit KD0
 have g23_refi:FnOk l.prog w K mg base _ _ f23 _ _ (spRefI xNI):=ok_refi F23 D11 g11_chkN D18 g18_o31 ⟨mk_MC,a15,i15,kc_MC⟩ (mg_of X G n_MC) B15 g15_minitB ⟨mk_PL,a8,i8,kc_PL⟩ (mg_of X G n_PL) B8 g8_plinit KD0
 have g23_refs:FnOk l.prog w K mg base _ _ f23 _ _ (spRefS xNSh):=ok_refs F23 D11 g11_chkN D18 g18_o31 ⟨mk_MC,a15,i15,kc_MC⟩ (mg_of X G n_MC) B15 g15_minitB ⟨mk_PL,a8,i8,kc_PL⟩ (mg_of X G n_PL) B8 g8_plinit KD0
 have g23_o39:FnOk l.prog w K mg base _ _ f23 _ _ (spRefd xNR xNI xNSh):=FnOk.or g23_refp (FnOk.or g23_refi g23_refs)
 have g24_nop:FnOk l.prog w K mg base _ _ f24 _ _ (spNop xNR):=ok_nop F24 KD0 NPg T
 exact ok_law F25 D21 g21_rowl D19 g19_cell D20 g20_mix D22 g22_spo D23 g23_o39 D24 g24_nop D11 g11_chk M16_MC g16_mprg M17_MC g17_ment ⟨mk_MC,a15,i15,kc_MC⟩ (mg_of X G n_MC) B15 g15_minit ⟨mk_PL,a8,i8,kc_PL⟩ (mg_of X G n_PL) B8 g8_plinit MM KD0 T T2
theorem walk {l:PySem.W.OpenLaw} {q:Program} {loose:List Str} {XP:(Str->Option Value)->Heap->Prop} {YP:World->Heap->Prop} {d:DefRec} {K:Params->PySem.W.Frag} (hn:l.most=some 63) (hdf:d.params.defaults=[])
  (hY:∀ (w:World) (h:Heap),YP w h->(K w.params).In h)
  (F:∀ (w:World) (mg:Str->Option Value) (fa:Addr) (h:Heap),(K w.params).In h->h.Ns mainGlobals mg->mg d.name=some (.ref fa) ->
   ∃ fd:FuncData,(∀ (s:Shared) (u:Value),BindsTo s fd ⟨[u],[]⟩ [("_law_script",u)])/\∀ base:Heap,(K w.params).In base->base.Ns mainGlobals mg->FnOk l.prog w (K w.params) mg base CX0 12 fa fd ["_law_script"] (spLaw (K w.params))) :
  PySem.W.WalkO q loose XP YP l.row.toRowW d [] (λf vs=>PySem.call f vs) :=
 L2.walk_of (n:=63) (k:=12) (x:="_law_script") (CX:=λ_=>CX0) (sp:=λw=>spLaw (K w.params)) hn (by decide) hdf ⟨rfl,by decide,by decide⟩ hY F (λ_ _ a ns hl _ hS=>⟨a,ns,rfl,hS,hl,λ_=>rfl⟩) λ_ _ _ _ _ z=>z
end K32
open PySem PySem.W PyProof.Rows
set_option maxRecDepth 100000 in
set_option maxHeartbeats 0 in
theorem PySem.Challenge.cw_shadowpages_k32_programs_refused_holds : PySem.Challenge.rw_shadowpages_k32_programs_refused.Holds := by
 w_on; o_law
 refine holds_open (q:=K32.vw) (loose:=["FORMS"]) (Xt:=λs=>xlAt K32.vw [] s && recOk [] s) (XP:=XL K32.vw []) (Yf:=Hook.obs (kHook K32.KF K32.asF K32.hF)) (Ya:=Hook.val (kHook K32.KF K32.asF K32.hF)) (YP:=Hook.says (kHook K32.KF K32.asF K32.hF)) (N:=14018) ?hl (Hook.of (kHook K32.KF K32.asF K32.hF)) (Hook.keeps (kHook K32.KF K32.asF K32.hF)) (λs e=>xl_of s (Bool.and_eq_true_iff.mp e).1) XL.keeps (by rfl) (by rfl) (by rfl) (λs e=>recFacts_of (Bool.and_eq_true_iff.mp e).2) (by rfl) (by first | assumption | decide +kernel) (by decide +kernel) ⟨rfl,rfl,rfl,rfl,rfl,by decide +kernel⟩ ?hw ?hc
 case hl=>exact K32.hl
 case hw=>w_witness2
 k_fill
 refine K32.walk (l:=PySem.Challenge.rw_shadowpages_k32_programs_refused) rfl rfl (λw h Y=>PySem.W.kIn_of Y) ?F
 case F =>
  intro w mg fa h KX G hmg
  refine' K32.all_mk KX G hmg ?n_C ?n_SC ?n_PL ?n_WC ?n_NP ?n_NL ?n_NW ?n_NI ?n_FA ?n_MC ?n_HE ?n_NB ?n_NR ?n_NSh ?n_NT ?a0 ?l0 ?c0 ?k0 ?a1 ?l1 ?c1 ?k1 ?a2 ?l2 ?c2 ?k2 ?a3 ?l3 ?c3 ?k3 ?a4 ?l4 ?c4 ?k4 ?a5 ?l5 ?c5 ?k5 ?a6 ?l6 ?c6 ?k6 ?a7 ?l7 ?c7 ?k7 ?a8 ?l8 ?c8 ?k8 ?a9 ?l9 ?c9 ?k9 ?a10 ?l10 ?c10 ?k10 ?a11 ?l11 ?c11 ?k11 ?a12 ?l12 ?c12 ?k12 ?a13 ?l13 ?c13 ?k13 ?a14 ?l14 ?c14 ?k14 ?a15 ?l15 ?c15 ?k15 ?ld15 ?a16 ?l16 ?c16 ?k16 ?a17 ?l17 ?c17 ?k17 ?a18 ?l18 ?c18 ?k18 ?a19 ?l19 ?c19 ?k19 ?a20 ?l20 ?c20 ?k20 ?a21 ?l21 ?c21 ?k21 ?a22 ?l22 ?c22 ?k22 ?a23 ?l23 ?c23 ?k23 ?a24 ?l24 ?c24 ?k24 ?a25 ?l25 ?c25 ?k25 ?v0 ?v1 ?v2 ?v3 ?v4 ?v5 ?v6 ?z_isinstance ?z_int ?z_bool ?z_list ?z_len ?z_all ?z_range ?z_str ?z_tuple ?z_zip ?z_enumerate ?z_ValueError ?xi_NP ?xi_NL ?xi_NW ?xi_NI ?xi_NSh ?nh ?nmo ?nse ?nme ?nba ?nra ?nan ?nwys ?nord ?ngat ?nreg ?nker ?nsav ?nhal ?nhap ?nctr ?npp ?psa ?pov ?phd ?pga ?pgh ?pmb ?pex ?kNR_e1 ?kNR_e2 ?kNR_e3 ?kNR_e4 ?kNR_e5 ?kNR_e6 ?kNR_e7 ?kNR_t1 ?kNR_t3 ?kNR_t4 ?kNR_ex ?kNI_e1 ?kNI_e2 ?kNI_e3 ?kNI_e4 ?kNI_e5 ?kNI_e6 ?kNI_e7 ?kNI_t1 ?kNI_t3 ?kNI_t4 ?kNI_ex ?kNSh_e1 ?kNSh_e2 ?kNSh_e3 ?kNSh_e4 ?kNSh_e5 ?kNSh_e6 ?kNSh_e7 ?kNSh_t1 ?kNSh_t3 ?kNSh_t4 ?kNSh_ex ?u_NT ?u_FA ?u_NB ?u_NI ?u_NSh ?nF ?lF ?qF0 ?qF1 ?qF2 ?qF3 ?qF4 ?qF5 ?qF6 ?qF7 ?qF8 ?qF9 ?qF10 ?qF11 ?qF12 ?qF13 ?qF14 ?qF15 ?qF16 ?qF17 ?qF18 ?qF19 ?qF20 ?loF ?i5 ?i6 ?i8 ?i12 ?i14 ?i15 ?i16 ?i17 ?pg_C ?hd_C ?po_C ?sa_C ?pg_MC ?hd_MC ?po_MC ?sa_MC ?pg_PL ?hd_PL ?po_PL ?sa_PL ?pg_SC ?hd_SC ?po_SC ?sa_SC ?mk_C ?kc_C ?mk_MC ?kc_MC ?mk_PL ?kc_PL ?mk_SC ?kc_SC ?sp_WC ?rd_WC
  case n_C | n_SC | n_PL | n_WC | n_NP | n_NL | n_NW | n_NI | n_FA | n_MC | n_HE | n_NB | n_NR | n_NSh | n_NT | a0 | l0 | c0 | k0 | a1 | l1 | c1 | k1 | a2 | l2 | c2 | k2 | a3 | l3 | c3 | k3 | a4 | l4 | c4 | k4 | a5 | l5 | c5 | k5 | a6 | l6 | c6 | k6 | a7 | l7 | c7 | k7 | a8 | l8 | c8 | k8 | a9 | l9 | c9 | k9 | a10 | l10 | c10 | k10 | a11 | l11 | c11 | k11 | a12 | l12 | c12 | k12 | a13 | l13 | c13 | k13 | a14 | l14 | c14 | k14 | a15 | l15 | c15 | k15 | ld15 | a16 | l16 | c16 | k16 | a17 | l17 | c17 | k17 | a18 | l18 | c18 | k18 | a19 | l19 | c19 | k19 | a20 | l20 | c20 | k20 | a21 | l21 | c21 | k21 | a22 | l22 | c22 | k22 | a23 | l23 | c23 | k23 | a24 | l24 | c24 | k24 | a25 | l25 | c25 | k25 | v0 | v1 | v2 | v3 | v4 | v5 | v6 | z_isinstance | z_int | z_bool | z_list | z_len | z_all | z_range | z_str | z_tuple | z_zip | z_enumerate | z_ValueError=>(try delta K32.LK); (try delta K32.NI); k_is
  case xi_NP | xi_NL | xi_NW | xi_NI | xi_NSh=>kernel_rfl
  case nh | nmo | nse | nme | nba | nra | nan | nwys | nord | ngat | nreg | nker | nsav | nhal | nhap | nctr | npp | psa=>k_is
  case pov=>kernel_rfl
  case phd | pga | pgh | pmb=>k_is
  case pex=>kernel_rfl
  case kNR_e1 | kNR_e2 | kNR_e3 | kNR_e4 | kNR_e5 | kNR_e6 | kNR_e7 | kNR_t1 | kNR_t3 | kNR_t4=>k_is
  case kNR_ex=>kernel_rfl
  case kNI_e1 | kNI_e2 | kNI_e3 | kNI_e4 | kNI_e5 | kNI_e6 | kNI_e7 | kNI_t1 | kNI_t3 | kNI_t4=>k_is
  case kNI_ex=>kernel_rfl
  case kNSh_e1 | kNSh_e2 | kNSh_e3 | kNSh_e4 | kNSh_e5 | kNSh_e6 | kNSh_e7 | kNSh_t1 | kNSh_t3 | kNSh_t4=>k_is
  case kNSh_ex=>kernel_rfl
  (case u_NT=>kin_no)
  (case u_FA=>kin_no)
  (case u_NB=>kin_no)
  (case u_NI=>kin_no)
  (case u_NSh=>kin_no)
  case nF | lF | qF0 | qF1 | qF2 | qF3 | qF4 | qF5 | qF6 | qF7 | qF8 | qF9 | qF10 | qF11 | qF12 | qF13 | qF14 | qF15 | qF16 | qF17 | qF18 | qF19 | qF20=>(try delta K32.NI); k_is
  (case loF=>decide)
  case i5 | i6 | i8 | i12 | i14 | i15 | i16 | i17 | pg_C | hd_C | po_C | sa_C | pg_MC | hd_MC | po_MC | sa_MC | pg_PL | hd_PL | po_PL | sa_PL | pg_SC | hd_SC | po_SC | sa_SC | mk_C | kc_C | mk_MC | kc_MC | mk_PL | kc_PL | mk_SC | kc_SC | sp_WC | rd_WC=>k_is
end
