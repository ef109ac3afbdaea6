import PyProof.Rows.All
import KE.KEqDict
import KE.KDictList
import KE.KIsAll
import KE.KDictOf
import KE.KItem
import PyProof.StationsW
import PyProof.RulesTry
import PyProof.InstStoreFacts
import OpenK.KOwn
import PyProof.ExcClass3
import PyProof.ExcInit
import PyProof.ExcBaseAll.ValueError
import PyProof.RulesDel
import PyProof.RulesAs
import PyProof.ExcAttrAll.ValueError
import Lean
import PySem.Challenge.RW_oncedone_k16_refusals_apart
open Array renaming getElem?_eq_some_iff->p9,length_toList->a2B,append_assoc->a3P
open Bool renaming false_ne_true->b6,eq_iff_iff->F2,and_eq_true_iff->a2A,not_eq_true'->a5h,and_eq_true->a5E,or_true->a8D
open Int renaming emod_lt_of_pos->o0,emod_nonneg->p5
open List renaming size_toArray->b9,mem_append_right->c4,getElem?_eq_some_iff->c5,lookup_cons->e8,mem_append_left->g6,mem_cons->j8,mem_cons_of_mem->m5,map_cons->m7,map_append->o6,length_map->o7,find?_cons->u6,append_nil->u7,range->u8,mem_singleton->u9,mem_cons_self->A2,getElem?_map->C2,all_eq_true->C8,getElem?_set_self->E9,nodup_cons->F1,replicate->G3,mem_of_getElem?->G4,lookup->G5,getElem?_set_ne->G6,filterMap_cons->K6,length_append->M7,length_take->S2,of_mem_zip->V4,mem_append->V5,any_cons->a0E,take_of_length_le->a1w,mem_filterMap->a3T,contains_cons->a3U,reverse_cons->a5f,append_assoc->a5g,not_mem_nil->a5A,getElem_mem->a5B,filter_cons->a5C,mem_filter->a7i,forIn_cons->a7j
open Nat renaming lt_of_lt_of_le->a9,ne_of_lt->d9,lt_irrefl->e6,le_refl->e7,le_trans->k6,ne_of_gt->A0,zero_le->J8,le_succ->J9,lt_succ_of_lt->S0,le_of_lt->S1,le_of_eq->a2v
open Option renaming isSome_iff_exists->B7,map_eq_some_iff->C7,bind_some->O1,getD_none->a3S,map_some->a5e
open PyProof.Rows renaming boot_isinstance->d6,callWith_type1->M5,AllBare->O6,envOfC->T9,subscriptTail_builtinR->a7l,IntsAre->a8H
open PySem renaming Shared->a5,wpAny_bind->a6,sizeLine->b5,starEach->b7,Program->b8,mainGlobals->d5,wpAny_pure->d7,Around->d8,mem_of_lookup->g5,compareOp->h9,wpAny_mono->j7,wpAny_holding->l7,binaryOp->o1,FuncData->o5,foldedSetIterable->v0,behindInMarks->v3,bootBuiltins->x6,wpAny_Call_Name_kw->y3,importedModules->y7,wpAny_newObj_type->z7,wpAny_standAt->C6,wpAny_passesOwn->C9,wpAny_field->D0,sliceBounds->D1,letOwnedTupleGo->D2,codeAny->D3,backTo->F3,NameKind->F4,wpAny_truthy_bool->G8,holding->K7,attributeBase->K8,IsRangeIter->K9,wpAny_execs_nil->O2,swapsWith->O3,codeAny_mono->O4,DictEntry->O5,call->Y7,Operator->Y9,wpAny_assign_Name->a0F,Result->a1c,compEnvC->a2w,subscripted->a2C,relabel->a2D,callerA->a2E,BindsTo->a2F,sizeLine_eq->a3Q,wpAny_comprehension_free->a5i,valueAt->a5F,getItem->a5G,Keyword->a5H,codeAny_compStart_list->a7m,seqIndex_neg->a7n,pyNext->a7o,wpAny_newFunctionEnv->a8s,lookup_relabel_local->a8t,setItem->a8E,seqIndex_of->a8F,keywordEach->a8G
open PySem.F renaming attr_ValueError->t8,excBase_ValueError->T8,entry_bexc_ga->a0D,args_bexc_ga->a1b
open PySem.Heap renaming get?_push_of_some->a7,lt_size->a8,get?_update_other->g7,get?_push_size->g9,get?_update_self->j4,size_push->G7,get?_update_ne->a3O,size_update->a5D
open PySem.W renaming findIn->c7,kia_one->h8,mg_of->j6,nsIn->l0,mg_none_of->l3,keepIn->l4,kitOne->p7,fnOf->p8,mroIn->w6,specialIn->A1,codeIn->F0,callWith_K->J7,methodObj->M3,hasDictIn->M4,plainGet->N2,takesIn->R8,instObj->R9,lookIn->T7,isFn->a0B,cellsFrom_some->a0C,plainOver->a2x,kitx_list->a2y,kitx_dict->a2z,makesIn->a3R
set_option Elab.async false
set_option linter.all false
set_option maxRecDepth 100000
set_option maxHeartbeats 0
abbrev Fg:=PySem.W.Frag
abbrev Nt:=List (List Nat)
theorem gI{α:Type}{l:List α}{i:Nat}{a:α}(h:l[i]?=some a):i<l.length:=(c5.mp h).1
theorem mI{α:Type}{l:List α}{i:Nat}{a:α}(h:l[i]?=some a):a∈l:=G4 h
theorem b1C{p:Prop}[Decidable p](h:¬p):decide p=false:=decide_eq_false h
theorem b1D{p:Prop}[Decidable p](h:p):decide p=true:=decide_eq_true h
namespace L2
open PySem
def z5(s:Stmt)(j:Nat):Stmt:=match s with
 | .ClassDef _ _ _ body _ _ _ _ _ _ _=>body.getD j (.Pass ⟨0,0,0,0⟩)
 | _=>.Pass ⟨0,0,0,0⟩
def B9(s:Stmt):Arguments:=match s with
 | .FunctionDef _ a _ _ _ _ _ _ _ _=>a
 | _=>{ posonlyargs:=[],args:=[],vararg:=none,kwonlyargs:=[],kw_defaults:=[],kwarg:=none,defaults:=[] }
def u4(s:Stmt):List Stmt:=match s with
 | .FunctionDef _ _ b _ _ _ _ _ _ _=>b
 | _=>[]
def d0(s:Stmt):Scope:=match s with
 | .FunctionDef _ _ _ _ _ _ sc _ _ _=>sc
 | _=>{ kind:=.function,names:=[],isGenerator:=false,isCoroutine:=false }
end L2
namespace HD
open PySem PySem.W L2
abbrev P:b8:=PySem.Challenge.pw_oncedone_k16_refusals_apart
def top(i:Nat):Stmt:=P.main.body.getD i (.Pass ⟨0,0,0,0⟩)
def kE(Q:Params)(n:Str)(t:Nat)(v:Value):O5:=⟨PyData.keyHash Q n,.str n t,v⟩
def kD(es:List O5)(n:Nat):Obj:=⟨.type "dict",none,.dict es.toArray n,#[]⟩
def kF(x qual:Str)(st:Stmt)(pm cd:Value):Obj:=⟨.type "function",none,.func (fnOf x qual (B9 st) (u4 st) (d0 st) .none .none .none pm none cd .none),#[]⟩
def kC(n q:Str)(a b c:Nat)(i3 i4 i5 i6 i7:Int)(r8:Nat)(i10:Int)(r11 r13 r14 r15:Nat)(i16 i17:Int)(d:Nat):Obj:=⟨.type "code",none,.fields ([.str n a,.str q b,.str "/claim/cut.py" c,.int i3 0,.int i4 0,.int i5 0,.int i6 0,.int i7 0,.ref r8,.bool true,.int i10 0,.ref r11,.none,.ref r13,.ref r14,.ref r15,.int i16 0,.int i17 0,.str "/claim/cut.py" d]:List Value).toArray,([]:List (Option Value)).toArray⟩
def kN(n q:Str)(a b c:Nat)(i3 i4 i5 i6 i7:Int)(r8:Nat)(i10:Int)(r11 r15:Nat)(i16 i17:Int)(d:Nat):Obj:=⟨.type "code",none,.fields ([.str n a,.str q b,.str "/claim/cut.py" c,.int i3 0,.int i4 0,.int i5 0,.int i6 0,.int i7 0,.ref r8,.bool true,.int i10 0,.ref r11,.none,.none,.none,.ref r15,.int i16 0,.int i17 0,.str "/claim/cut.py" d]:List Value).toArray,([]:List (Option Value)).toArray⟩
abbrev m0:Value:=(.str "oncedone.errors" 187)
abbrev m1:Value:=(.str "law_oncedone_k16_refusals_apart" 323)
def K1(Q:Params):Frag:=[
 (3,kD [kE Q "__name__" 165 (.str "law_oncedone_k16_refusals_apart" 323),kE Q "__doc__" 166 .none,kE Q "__package__" 167 .none,kE Q "__loader__" 168 (.builtin "__main__.__loader__#opaque"),kE Q "__spec__" 169 .none,kE Q "__annotations__" 170 (.ref 6),kE Q "__builtins__" 171 (.ref 4),kE Q "__file__" 173 (.str "/claim/cut.py" 172),kE Q "__cached__" 174 .none,kE Q "OnceError" 206 (.ref 24),kE Q "Wrong" 231 (.ref 44),kE Q "NoThing" 256 (.ref 63),kE Q "TooMany" 281 (.ref 82),kE Q "NoWay" 306 (.ref 101),kE Q "NoText" 322 (.ref 113),kE Q "_law_bag" 330 (.ref 120),kE Q "_law_take" 343 (.ref 127),kE Q "_law_whole" 350 (.ref 134),kE Q "_law_raised" 358 (.ref 141),kE Q "_law_caught" 364 (.ref 146),kE Q "law" 375 (.ref 153)] 21),
 (23,kD [kE Q "__module__" 196 (.str "oncedone.errors" 187),kE Q "__firstlineno__" 200 (.int (2) 199),kE Q "__static_attributes__" 201 (.ref 22),kE Q "__weakref__" 203 (.ref 25),kE Q "__doc__" 204 .none] 3),
 (24,⟨(.type "type"),none,.cls { name := "OnceError",bases:=[(.type "ValueError")],mro:=[(.ref 24),(.type "ValueError"),(.type "Exception"),(.type "BaseException"),(.type "object")],ns:=23,qualname := "OnceError",hasDict:=true,subclasses:=[(.ref 44),(.ref 63),(.ref 82),(.ref 101),(.ref 113)] },([some (.ref 15),none,some (.str "OnceError" 189),some (.str "OnceError" 197),some (.builtin "ValueError.__new__"),some (.bool true)]:List (Option Value)).toArray⟩),
 (40,kC "__init__" "Wrong.__init__" 219 220 221 6 2 0 0 3 35 181 36 37 38 39 224 6 225),
 (41,kF "__init__" "Wrong.__init__" (z5 (top 2) 0) m0 (.ref 40)),
 (43,kD [kE Q "__module__" 214 (.str "oncedone.errors" 187),kE Q "__firstlineno__" 218 (.int (4) 217),kE Q "__init__" 226 (.ref 41),kE Q "__static_attributes__" 228 (.ref 42),kE Q "__doc__" 229 .none] 2),
 (44,⟨(.type "type"),none,.cls { name := "Wrong",bases:=[(.ref 24)],mro:=[(.ref 44),(.ref 24),(.type "ValueError"),(.type "Exception"),(.type "BaseException"),(.type "object")],ns:=43,qualname := "Wrong",hasDict:=true,subclasses:=[] },([some (.ref 28),none,some (.str "Wrong" 207),some (.str "Wrong" 215),some (.builtin "ValueError.__new__"),some (.bool true)]:List (Option Value)).toArray⟩),
 (59,kC "__init__" "NoThing.__init__" 244 245 246 10 2 0 0 3 54 181 55 56 57 58 249 10 250),
 (60,kF "__init__" "NoThing.__init__" (z5 (top 3) 0) m0 (.ref 59))]
def a7e:List Addr:=[3,23,24,40,41,43,44,59,60]
def K2(Q:Params):Frag:=[
 (62,kD [kE Q "__module__" 239 (.str "oncedone.errors" 187),kE Q "__firstlineno__" 243 (.int (8) 242),kE Q "__init__" 251 (.ref 60),kE Q "__static_attributes__" 253 (.ref 61),kE Q "__doc__" 254 .none] 2),
 (63,⟨(.type "type"),none,.cls { name := "NoThing",bases:=[(.ref 24)],mro:=[(.ref 63),(.ref 24),(.type "ValueError"),(.type "Exception"),(.type "BaseException"),(.type "object")],ns:=62,qualname := "NoThing",hasDict:=true,subclasses:=[] },([some (.ref 47),none,some (.str "NoThing" 232),some (.str "NoThing" 240),some (.builtin "ValueError.__new__"),some (.bool true)]:List (Option Value)).toArray⟩),
 (78,kC "__init__" "TooMany.__init__" 269 270 271 14 2 0 0 3 73 181 74 75 76 77 274 14 275),
 (79,kF "__init__" "TooMany.__init__" (z5 (top 4) 0) m0 (.ref 78)),
 (81,kD [kE Q "__module__" 264 (.str "oncedone.errors" 187),kE Q "__firstlineno__" 268 (.int (12) 267),kE Q "__init__" 276 (.ref 79),kE Q "__static_attributes__" 278 (.ref 80),kE Q "__doc__" 279 .none] 2),
 (82,⟨(.type "type"),none,.cls { name := "TooMany",bases:=[(.ref 24)],mro:=[(.ref 82),(.ref 24),(.type "ValueError"),(.type "Exception"),(.type "BaseException"),(.type "object")],ns:=81,qualname := "TooMany",hasDict:=true,subclasses:=[] },([some (.ref 66),none,some (.str "TooMany" 257),some (.str "TooMany" 265),some (.builtin "ValueError.__new__"),some (.bool true)]:List (Option Value)).toArray⟩),
 (97,kC "__init__" "NoWay.__init__" 294 295 296 18 2 0 0 3 92 181 93 94 95 96 299 18 300),
 (98,kF "__init__" "NoWay.__init__" (z5 (top 5) 0) m0 (.ref 97)),
 (100,kD [kE Q "__module__" 289 (.str "oncedone.errors" 187),kE Q "__firstlineno__" 293 (.int (16) 292),kE Q "__init__" 301 (.ref 98),kE Q "__static_attributes__" 303 (.ref 99),kE Q "__doc__" 304 .none] 2)]
def a4Z:List Addr:=[62,63,78,79,81,82,97,98,100]
def K3(Q:Params):Frag:=[
 (101,⟨(.type "type"),none,.cls { name := "NoWay",bases:=[(.ref 24)],mro:=[(.ref 101),(.ref 24),(.type "ValueError"),(.type "Exception"),(.type "BaseException"),(.type "object")],ns:=100,qualname := "NoWay",hasDict:=true,subclasses:=[] },([some (.ref 85),none,some (.str "NoWay" 282),some (.str "NoWay" 290),some (.builtin "ValueError.__new__"),some (.bool true)]:List (Option Value)).toArray⟩),
 (112,kD [kE Q "__module__" 314 (.str "oncedone.errors" 187),kE Q "__firstlineno__" 318 (.int (20) 317),kE Q "__static_attributes__" 319 (.ref 111),kE Q "__doc__" 320 .none] 2),
 (113,⟨(.type "type"),none,.cls { name := "NoText",bases:=[(.ref 24)],mro:=[(.ref 113),(.ref 24),(.type "ValueError"),(.type "Exception"),(.type "BaseException"),(.type "object")],ns:=112,qualname := "NoText",hasDict:=true,subclasses:=[] },([some (.ref 104),none,some (.str "NoText" 307),some (.str "NoText" 315),some (.builtin "ValueError.__new__"),some (.bool true)]:List (Option Value)).toArray⟩),
 (119,kN "_law_bag" "_law_bag" 325 326 327 23 1 0 0 3 116 181 117 118 328 23 329),
 (120,kF "_law_bag" "_law_bag" (top 8) m1 (.ref 119)),
 (126,kC "_law_take" "_law_take" 331 332 333 25 2 0 0 3 121 181 122 123 124 125 341 25 342),
 (127,kF "_law_take" "_law_take" (top 9) m1 (.ref 126)),
 (133,kC "_law_whole" "_law_whole" 344 345 346 44 1 0 0 3 128 181 129 130 131 132 348 44 349),
 (134,kF "_law_whole" "_law_whole" (top 10) m1 (.ref 133))]
def a4Y:List Addr:=[101,112,113,119,120,126,127,133,134]
def K4(Q:Params):Frag:=[
 (140,kC "_law_raised" "_law_raised" 351 352 353 46 2 0 0 3 135 181 136 137 138 139 356 46 357),
 (141,kF "_law_raised" "_law_raised" (top 11) m1 (.ref 140)),
 (145,kN "_law_caught" "_law_caught" 359 360 361 56 2 0 0 3 142 181 143 144 362 56 363),
 (146,kF "_law_caught" "_law_caught" (top 12) m1 (.ref 145)),
 (152,kC "law" "law" 365 366 367 71 1 0 0 3 147 181 148 149 150 151 373 71 374),
 (153,kF "law" "law" (top 13) m1 (.ref 152))]
def a4X:List Addr:=[140,141,145,146,152,153]
def K(Q:Params):Frag:=K1 Q++(K2 Q++(K3 Q++K4 Q))
def adr:List Addr:=a7e++(a4Z++(a4Y++a4X))
def q:b8:=view P [13]
def loose:List Str:=(["OnceError","Wrong","NoThing","TooMany","NoWay","NoText","_law_bag","_law_take","_law_whole","_law_raised","_law_caught"]:List String).map Str.ofString
theorem a3v{p q:b8}{loose:List Str}{Xt:a5->Bool}{α:Type}{Yf:a5->α}{Ya:World->α}{N m₀:Nat}{ann:Option Value}(e:opening p=plainProg p.main.scope.names)(hN:Nat.ble 600 N=true)(f:∀s,fenceModules? p s=some s)
  (size:∀w:World,((boot_heap w.params).isNs d5,(boot_heap w.params).objs.size,(boot_heap w.params).nsMap d5 "__annotations__")=(true,m₀,ann))
  {r:World->OsState->Option a5} (hr:∀w os,topRun treeTable p w m₀ ann N ⟨boot_heap w.params,Array.mk [],boot_drawn,boot_toks,os⟩ (topStub p)=r w os)
  (ra:∀w os,(r w os).map (fun s₁=>staticsOk (y7 p.main.body) (boot_heap w.params) s₁.heap&&namesBound p s₁.heap&&gensDone s₁&&laidKept (boot_heap w.params) s₁.heap)=some true)
  (rb:∀w os,(r w os).map (openSeen q loose (y7 p.main.body) Xt true)=some (openGood q loose))
  (rc:∀w os,(r w os).map Yf=some (Ya w)) :
  LeftO p q loose Xt Yf Ya N:=fun w=>by
 obtain⟨⟨h,gs,d,k,os⟩,e1,e2⟩:=C7.mp (boot_open e hN f w)
 obtain⟨rfl,rfl,rfl,rfl⟩:h=boot_heap w.params/\gs=Array.mk []/\d=boot_drawn/\k=boot_toks:=by simpa using e2
 obtain⟨z1,z2,z3⟩:_/\_/\_:=by simpa only[Prod.mk.injEq]using size w
 obtain⟨s₁,r1,r3⟩:=C7.mp (ra w os)
 have rb:=rb w os
 have rc:=rc w os
 rw[r1]at rb rc
 have r4:(openSeen q loose (y7 p.main.body) Xt true s₁,Yf s₁)=(openGood q loose,Ya w):=Prod.ext (Option.some.inj rb) (Option.some.inj rc)
 have t:topFrom treeTable p w N ⟨boot_heap w.params,Array.mk [],boot_drawn,boot_toks,os⟩=some s₁:=by
  unfold topFrom
  dsimp only
  rw[z1,z2,z3,hr,r1]
  show(match staticsOk (y7 p.main.body) (boot_heap w.params) s₁.heap&&namesBound p s₁.heap&&gensDone s₁&&laidKept (boot_heap w.params) s₁.heap with | true=>some s₁ | false=>none)=_
  rw[r3]
 unfold openEnds
 rw[e1]
 show(topFrom treeTable p w N _).map _=_
 rw[t]
 exact congrArg some r4
abbrev S7:Hook:=kHook K adr (fun _=>by kernel_rfl)
abbrev row:OpenLaw:=PySem.Challenge.rw_oncedone_k16_refusals_apart
noncomputable section
abbrev rn(w:World)(os:OsState):Option a5:=PySem.W.Fast.tw14082659384304107361 PySem.W.Fast.tw14364793385576792824 P w 11 (some (.ref 6)) 3878 ⟨boot_heap w.params,Array.mk [],boot_drawn,boot_toks,os⟩ (topStub P)
end
theorem a6N(w:World)(os:OsState):(rn w os).map (fun s₁=>staticsOk (y7 P.main.body) (boot_heap w.params) s₁.heap&&namesBound P s₁.heap&&gensDone s₁&&laidKept (boot_heap w.params) s₁.heap)=some true:=by kernel_rfl
theorem a6M(w:World)(os:OsState):(rn w os).map (PySem.W.Fast.tw4187177175401517315 q loose (y7 P.main.body) (fun s=>xlAt q [] s&&recOk (RowW.records row.row.toRowW) s) true)=some (openGood q loose):=by kernel_rfl
theorem a4P(w:World)(os:OsState):(rn w os).map (fun s=>a7e.map s.heap.get?)=some ((K1 w.params).map fun p=>some p.2):=by kernel_rfl
theorem a4O(w:World)(os:OsState):(rn w os).map (fun s=>a4Z.map s.heap.get?)=some ((K2 w.params).map fun p=>some p.2):=by kernel_rfl
theorem a4N(w:World)(os:OsState):(rn w os).map (fun s=>a4Y.map s.heap.get?)=some ((K3 w.params).map fun p=>some p.2):=by kernel_rfl
theorem a4M(w:World)(os:OsState):(rn w os).map (fun s=>a4X.map s.heap.get?)=some ((K4 w.params).map fun p=>some p.2):=by kernel_rfl
theorem a6L(w:World)(os:OsState):(rn w os).map (Hook.obs S7)=some (Hook.val S7 w):=by
 obtain⟨s,h1,h2⟩:=C7.mp (a4P w os)
 have h3:=a4O w os
 have h4:=a4N w os
 have h5:=a4M w os
 rw[h1]at h3 h4 h5 ⊢
 have h3:a4Z.map s.heap.get? = _:=Option.some.inj h3
 have h4:a4Y.map s.heap.get? = _:=Option.some.inj h4
 have h5:a4X.map s.heap.get? = _:=Option.some.inj h5
 show some ((a7e++(a4Z++(a4Y++a4X))).map s.heap.get?)=some ((K1 w.params++(K2 w.params++(K3 w.params++K4 w.params))).map fun p=>some p.2)
 rw[o6,o6,o6,o6,o6,o6,h2,h3,h4,h5]
theorem left:LeftO P q loose (fun s=>xlAt q [] s&&recOk (RowW.records row.row.toRowW) s) (Hook.obs S7) (Hook.val S7) 3878:=
 a3v (m₀:=11) (ann:=(some (.ref 6))) (r:=rn) (by kernel_rfl) (by kernel_rfl) (fun s=>by kernel_rfl) (fun w=>by kernel_rfl) (by rw[PySem.W.Fast.te14082659384304107361,PySem.W.Fast.te14364793385576792824];exact fun _ _=>rfl) a6N (by rw[PySem.W.Fast.te4187177175401517315];exact a6M) a6L
theorem a7t:row.wellSaid=true:=by
 rw[PySem.W.Fast.te9446332074065402090]
 kernel_rfl
theorem fin(hc:∀d:DefRec,d.name = "law" -> d.params.defaults=[]->WalkO q loose (XL q []) (Hook.says S7) row.row.toRowW d [] (fun f vs=>Y7 f vs)):row.Holds:=by
 refine holds_law (l:=row) a7t fun said=>?_
 refine holds_open (q:=q) (loose:=loose) (Xt:=fun s=>xlAt q [] s&&recOk (RowW.records row.row.toRowW) s) (XP:=XL q []) (Yf:=Hook.obs S7) (Ya:=Hook.val S7) (YP:=Hook.says S7) (N:=3878) left (Hook.of S7) (Hook.keeps S7) (fun s e=>xl_of s (a2A.mp e).1) XL.keeps (by rfl) (by rfl) (by rfl) (fun s e=>recFacts_of (a2A.mp e).2) (by rfl) said (by decide +kernel) ⟨rfl,rfl,rfl,rfl,rfl,by decide +kernel⟩ ?hw (hc _ rfl rfl)
 case hw=>w_witness2
end HD
set_option Elab.async false
set_option linter.all false
set_option maxRecDepth 100000
namespace L2
open PySem PySem.Spec PyProof.Rows
variable{us:List Value}{i t':Nat}{x:Str}{u:Value}{C a b dx f:Addr}{w:World}{base h h':Heap}{pins:List (Addr×Obj)}{s:a5}{e tg:Expr}{p pos:Pos}{Q:Value->a5->Prop}{es:List Expr}{m mg:Str->Option Value}{fd:o5}{ps:List Str}
abbrev Key:=Sum Int Str
def a5w:Key->Value->Bool
 | .inl k,v=>Value.isInt k v
 | .inr x,v=>Value.isStrOf x v
def a9A(w:World):Key->Int
 | .inl k=>hashInt k
 | .inr x=>hashStr w x
theorem l5:∀ {k:Key} {v:Value},a5w k v=true->(∃i t,k=Sum.inl i/\v=Value.int i t)\/(∃x t,k=Sum.inr x/\v=Value.str x t)
 | .inl i,v,h=>by
  obtain⟨t,e⟩:=Value.isInt_shape (k:=i) (v:=v) h
  exact .inl ⟨i,t,rfl,e⟩
 | .inr x,v,h=>by
  obtain⟨t,e⟩:=Value.isStrOf_shape (x:=x) (v:=v) h
  exact .inr ⟨x,t,rfl,e⟩
theorem a6S(a b:Int):decide ((Sum.inl a:Key)=Sum.inl b)=(a == b):=by
 by_cases e:a=b
 ·subst e;simp
 ·have h:¬(Sum.inl a:Key)=Sum.inl b:=fun q=>e (Sum.inl.inj q)
  rw[b1C h]
  exact(beq_eq_false_iff_ne.mpr e).symm
theorem a6P(a b:Str):decide ((Sum.inr a:Key)=Sum.inr b)=decide (a=b):=by
 by_cases e:a=b
 ·subst e;simp
 ·have h:¬(Sum.inr a:Key)=Sum.inr b:=fun q=>e (Sum.inr.inj q)
  rw[b1C h,b1C e]
theorem a6R(a:Int)(b:Str):decide ((Sum.inl a:Key)=Sum.inr b)=false:=b1C (fun q=>nomatch q)
theorem a6Q(a:Str)(b:Int):decide ((Sum.inr a:Key)=Sum.inl b)=false:=b1C (fun q=>nomatch q)
def X2(prog:b8)(w:World):PySem.KeyKind prog w Key where
 is:=a5w
 hash:=a9A w
 inj:=fun v a b ha hb=>by
  rcases l5 ha with ⟨i,t,rfl,rfl⟩ | ⟨x,t,rfl,rfl⟩
  ·rcases l5 hb with ⟨j,u,rfl,e⟩ | ⟨y,u,rfl,e⟩
   ·injection e with e1 _;rw[e1]
   ·exact nomatch e
  ·rcases l5 hb with ⟨j,u,rfl,e⟩ | ⟨y,u,rfl,e⟩
   ·exact nomatch e
   ·injection e with e1 _;rw[e1]
 byValue:=fun k v h=>by
  rcases l5 h with ⟨i,t,rfl,rfl⟩ | ⟨x,t,rfl,rfl⟩ <;> rfl
 pyHash:=fun hv h=>by
  rcases l5 hv with ⟨i,t,rfl,rfl⟩ | ⟨x,t,rfl,rfl⟩
  ·exact wpAny_pyHash_int h
  ·exact wpAny_pyHash_str h
 eqBool:=fun hu hv h=>by
  rcases l5 hu with ⟨i,t,rfl,rfl⟩ | ⟨x,t,rfl,rfl⟩
  ·rcases l5 hv with ⟨j,u,rfl,rfl⟩ | ⟨y,u,rfl,rfl⟩
   ·rw[a6S]at h;exact wpAny_eqBool_int h
   ·rw[a6R]at h;exact SeqAt.EqAt.int_str i t y u _ _ _ _ h
  ·rcases l5 hv with ⟨j,u,rfl,rfl⟩ | ⟨y,u,rfl,rfl⟩
   ·rw[a6Q]at h;exact SeqAt.EqAt.str_int x t j u _ _ _ _ h
   ·rw[a6P]at h;exact wpAny_eqBool_str h
 «strs» := fun k x t v h=>by
  rcases l5 h with ⟨i,u,rfl,e⟩ | ⟨y,u,rfl,e⟩
  ·exact nomatch e
  ·injection e with e1 _
   subst e1
   cases v <;> rfl
inductive V where
 | non | bl (b:Bool) | int (i:Int) | str (x:Str) | byt (b:Array UInt8) | flt (b:UInt64) | ref (a:Addr) | ty (n:String)
 deriving DecidableEq
variable{v y:V}{xs:List V}{kvs:List (List Key×V)}
def f6:V->Value->Prop
 | .non,u=>u=Value.none
 | .bl b,u=>u=Value.bool b
 | .int i,u=>∃t,u=Value.int i t
 | .str x,u=>∃t,u=Value.str x t
 | .byt b,u=>∃t,u=Value.bytes b t
 | .flt b,u=>∃t,u=Value.float b t
 | .ref a,u=>u=Value.ref a
 | .ty n,u=>u=Value.type n
abbrev f9:List V->List Value->Prop:=Paired f6
theorem f9.length(r:f9 xs us):xs.length=us.length:=Paired.length r
theorem f9.get:∀ {xs:List V} {us:List Value} {i:Nat} {x:V},f9 xs us->xs[i]? = some x->∃u,us[i]? = some u/\f6 x u
 | _,_,_,_,.nil,e=>by simp at e
 | _,_,0,_,.cons r _,e=>by simp at e;subst e;exact⟨_,rfl,r⟩
 | _,_,i+1,x,.cons _ t,e=>by
  obtain⟨u,h1,h2⟩:=f9.get (i:=i) (x:=x) t (by simpa using e)
  exact⟨u,by simpa using h1,h2⟩
theorem f9.set{x:V}(r:f6 x u):∀ {xs:List V} {us:List Value} (i:Nat),f9 xs us->f9 (xs.set i x) (us.set i u)
 | _,_,_,.nil=>.nil
 | _,_,0,.cons _ t=>.cons r t
 | _,_,i+1,.cons q t=>.cons q (f9.set r i t)
theorem f9.append:∀ {xs ys:List V} {us ws:List Value},f9 xs us->f9 ys ws->f9 (xs++ys) (us++ws)
 | _,_,_,_,.nil,s=>s
 | _,_,_,_,.cons r t,s=>.cons r (f9.append t s)
theorem f9.take:∀ {xs:List V} {us:List Value} (n:Nat),f9 xs us->f9 (xs.take n) (us.take n)
 | _,_,0,_=>.nil
 | _,_,_+1,.nil=>.nil
 | _,_,n+1,.cons r t=>.cons r (f9.take n t)
theorem f9.drop:∀ {xs:List V} {us:List Value} (n:Nat),f9 xs us->f9 (xs.drop n) (us.drop n)
 | _,_,0,r=>r
 | _,_,_+1,.nil=>.nil
 | _,_,n+1,.cons _ t=>f9.drop n t
def M0:Option V->Option Value->Prop
 | some v,some u=>f6 v u
 | none,none=>True
 | _,_=>False
def KV{κ:Type}:List (κ×V)->List (κ×Value)->Prop:=Paired fun(p:κ×V) (q:κ×Value)=>p.1=q.1/\f6 p.2 q.2
def kV:Key->V
 | .inl i=>.int i
 | .inr x=>.str x
inductive HO where
 /-- a list -/
 | lst (xs:List V)
 /-- a tuple (never changes) -/
 | tup (xs:List V)
 /-- a dict whose keys are ints and texts;one whose keys are tuples of ints and texts (the empty one is both) -/
 | dK (kvs:List (Key×V)) | dT (kvs:List (List Key×V))
 /-- a set of ints: its members,its size -/
 | set (S:Int->Bool) (n:Nat)
 /-- an instance of the class at C,its dict at dx,its attributes -/
 | ins (C dx:Addr) (fs:List (Str×V))
 /-- the dict of the instance at x -/
 | own (x:Addr)
 /-- the dict of an exception -/
 | xd (fs:List (Str×V))
 /-- a bound method,f of x -/
 | met (f x:Addr)
 /-- a range object lo,lo+1,.. below hi -/
 | rng (lo hi:Int)
 /-- a thing that is known to the object (the script;a dict while a loop walks it): read,never written while it is so -/
 | frz (o:Obj) (u:HO)
 /-- a code object's table -/
 | tbl (ps:Array Value)
 /-- any other thing,by what is true of its one object (a def of one's own: SetO a S n:=HO.ext fun h=>..) -/
 | ext (φ:Heap->Prop)
variable{o:HO}
abbrev Hp:=Addr->Option HO
variable{H H':Hp}
def upd(H:Hp)(a:Addr)(o:HO):Hp:=fun b=>if b=a then some o else H b
theorem j3:upd H a o a=some o:=by unfold upd;rw[if_pos rfl]
theorem c8(h:b≠a):upd H a o b=H b:=by unfold upd;rw[if_neg h]
theorem a4b{u:HO}:upd (upd H a o) a u=upd H a u:=by
 funext b;unfold upd;split <;> rfl
theorem a1o{u:HO}(h:H a=some o)(h':H b=some u)(d:o≠u):a≠b:=by
 intro e;subst e;rw[h]at h';exact d (Option.some.inj h')
theorem c9(h:H a=some o)(h':H b=none):a≠b:=by
 intro e;subst e;rw[h]at h';cases h'
section
variable (P:b8)(w:World)
def n9(H:Hp)(h:Heap)(a:Addr):HO->Prop
 | .lst xs=>xs.length<=b5/\∃(its:List Value) (n:Nat),f9 xs its/\h.get? a=some { cls:=.type "list",data:=.seq its.toArray n }
 | .tup xs=>xs.length<=b5/\∃its:List Value,f9 xs its/\IsTup h a its.toArray
 | .dK kvs=>kvs.length<=b5/\(a == sysModules)=false/\∃vs,KV kvs vs/\h.DictOf (X2 P w) a vs
 | .dT kvs=>kvs.length<=b5/\(a == sysModules)=false/\∃xs:List (List Key×Addr×Value),
   Paired (fun(p:List Key×V) (q:List Key×Addr×Value)=>p.1=q.1/\H q.2.1=some (.tup (p.1.map kV))/\f6 p.2 q.2.2) kvs xs /\
   ∃o es ep,h.get? a=some o/\o.ExactDict/\o.data=.dict es ep/\es.toList=xs.map (entryOfKey (tupleKind (X2 P w)))/\(xs.map (·.1)).Nodup
 | .set S n=>h.SetOf (intKind P w) a S n
 | .ins C dx fs=>H dx=some (.own a)/\fs.length<=1000/\dx≠a/\h.get? a=some (R9 C dx) /\
   ∃mA,h.Ns1 dx mA/\(∀f,M0 (fs.lookup f) (mA f))/\PySem.Within mA (fs.map (·.1))
 | .own _=>∃o,h.get? a=some o
 | .xd fs=>∃mA,h.Ns1 a mA/\∀f,M0 (fs.lookup f) (mA f)
 | .rng lo hi=>∃t u v,h.get? a=some { cls:=.type "range",data:=.fields #[.int lo t,.int hi u,.int 1 v] }
 | .frz o u=>h.get? a=some o/\n9 H h a u
 | .tbl ps=>h.get? a=some { cls:=.none,data:=.fields ps }
 | .met f x=>h.get? a=some (M3 (.ref f) (.ref x))
 | .ext φ=>φ h/\(∃o,h.get? a=some o)/\∀h1 h2:Heap,φ h1->(∀o,h1.get? a=some o->h2.get? a=some o)->φ h2
def HOk(H:Hp)(h:Heap):Prop:=∀a o,H a=some o->n9 P w H h a o
end
section
variable {P:b8}
theorem n9.lt(x:n9 P w H h a o):a<h.objs.size:=by
 cases o with
 | lst xs=>obtain⟨_,_,_,_,e⟩:=x;exact a8 e
 | tup xs=>obtain⟨_,_,_,p⟩:=x;exact p.lt
 | dK kvs=>obtain⟨_,_,_,_,o,_,_,e,_⟩:=x;exact a8 e
 | dT kvs=>obtain⟨_,_,_,_,o,_,_,e,_⟩:=x;exact a8 e
 | set S n=>obtain⟨o,_,_,_,e,_⟩:=x;exact a8 e
 | ins C dx fs=>obtain⟨_,_,_,e,_⟩:=x;exact a8 e
 | own y=>obtain⟨_,e⟩:=x;exact a8 e
 | xd fs=>obtain⟨_,⟨_,_,_,e,_⟩,_⟩:=x;exact a8 e
 | rng lo hi=>obtain⟨_,_,_,e⟩:=x;exact a8 e
 | frz ob u=>obtain⟨e,_⟩:=x;exact a8 e
 | tbl ps=>exact a8 (show h.get? a=some _ from x)
 | met f y=>exact a8 (show h.get? a=some _ from x)
 | ext φ=>obtain⟨_,⟨_,e⟩,_⟩:=x;exact a8 e
theorem Paired.mapP{α β:Type}{F G:α->β->Prop}:∀ {l₁:List α} {l₂:List β},Paired F l₁ l₂->(∀a b,F a b->G a b)->Paired G l₁ l₂
 | _,_,.nil,_=>.nil
 | _,_,.cons r t,f=>.cons (f _ _ r) (Paired.mapP t f)
theorem n9.stay(x:n9 P w H h a o)(k:∀b u,(b=a\/H b=some (.own a))->h.get? b=some u->h'.get? b=some u)
  (ho:∀b,H b=some (.own a)->H' b=some (.own a)) (ht:∀b xs,H b=some (.tup xs)->H' b=some (.tup xs)):n9 P w H' h' a o:=by
 induction o with
 | lst xs=>obtain⟨z,its,n,r,e⟩:=x;exact⟨z,its,n,r,k _ _ (.inl rfl) e⟩
 | tup xs=>obtain⟨z,its,r,ob,e,c⟩:=x;exact⟨z,its,r,ob,k _ _ (.inl rfl) e,c⟩
 | dK kvs=>obtain⟨z,y,vs,r,ob,es,ep,e,c⟩:=x;exact⟨z,y,vs,r,ob,es,ep,k _ _ (.inl rfl) e,c⟩
 | dT kvs=>
  obtain⟨z,y,xs,r,ob,es,ep,e,c⟩:=x
  exact⟨z,y,xs,Paired.mapP r fun p q z=>⟨z.1,ht _ _ z.2.1,z.2.2⟩,ob,es,ep,k _ _ (.inl rfl) e,c⟩
 | set S n=>obtain⟨ob,es,ep,t,e,c⟩:=x;exact⟨ob,es,ep,t,k _ _ (.inl rfl) e,c⟩
 | ins C dx fs=>
  obtain⟨d,z,ne,e,mA,⟨od,es,ep,e2,c⟩,r⟩:=x
  exact⟨ho _ d,z,ne,k _ _ (.inl rfl) e,mA,⟨od,es,ep,k _ _ (.inr d) e2,c⟩,r⟩
 | own y=>obtain⟨ob,e⟩:=x;exact⟨ob,k _ _ (.inl rfl) e⟩
 | xd fs=>obtain⟨mA,⟨od,es,ep,e,c⟩,r⟩:=x;exact⟨mA,⟨od,es,ep,k _ _ (.inl rfl) e,c⟩,r⟩
 | rng lo hi=>obtain⟨t,u,v,e⟩:=x;exact⟨t,u,v,k _ _ (.inl rfl) e⟩
 | frz ob u ih=>obtain⟨e,q⟩:=x;exact⟨k _ _ (.inl rfl) e,ih q⟩
 | tbl ps=>
  have e:h.get? a=some { cls:=.none,data:=.fields ps }:=x
  show h'.get? a=some { cls:=.none,data:=.fields ps }
  exact k a _ (.inl rfl) e
 | met f y=>
  have e:h.get? a=some (M3 (.ref f) (.ref y)):=x
  show h'.get? a=some (M3 (.ref f) (.ref y))
  exact k a _ (.inl rfl) e
 | ext φ=>obtain⟨p,⟨o,e⟩,st⟩:=x;exact⟨st _ _ p fun o q=>k _ _ (.inl rfl) q,⟨o,k _ _ (.inl rfl) e⟩,st⟩
theorem HOk.lt(x:HOk P w H h)(e:H a=some o):a<h.objs.size:=(x a o e).lt
theorem HOk.fresh(x:HOk P w H h)(e:h.objs.size<=a):H a=none:=by
 cases q:H a with
 | none=>rfl
 | some u=>exact absurd (a9 (x.lt q) e) (e6 _)
theorem HOk.kept(x:HOk P w H h)(k:∀b u,h.get? b=some u->h'.get? b=some u):HOk P w H h':=fun a o e=>
 (x a o e).stay (fun b u _ q=>k b u q) (fun _ q=>q) fun _ _ q=>q
theorem HOk.laid(x:HOk P w H h)(k:∀b u,h.get? b=some u->h'.get? b=some u)(hp:h.objs.size<=a)(new:n9 P w (upd H a o) h' a o):HOk P w (upd H a o) h':=fun b u e=>by
 have hn:=x.fresh hp
 by_cases hb:b=a
 ·subst hb;rw[j3]at e;cases e;exact new
 ·rw[c8 hb]at e
  exact(x b u e).stay (fun c v _ q=>k c v q) (fun c q=>by rw[c8 (c9 q hn)];exact q) fun c xs q=>by rw[c8 (c9 q hn)];exact q
end
def Rd(H:Hp)(a:Addr)(u:HO):Prop:=H a=some u\/∃o,H a=some (.frz o u)
theorem Rd.of{u:HO}(h:H a=some u):Rd H a u:=.inl h
theorem Rd.ok{P:b8}{u:HO}(r:Rd H a u)(x:HOk P w H h):n9 P w H h a u:=by
 rcases r with r | ⟨o,r⟩
 ·exact x a u r
 ·obtain⟨_,q⟩:=x a _ r
  exact q
def Mut:Option HO->Prop
 | some (.lst _)=>True
 | some (.dK _)=>True
 | some (.dT _)=>True
 | some (.set _ _)=>True
 | some (.ins _ _ _)=>True
 | some (.ext _)=>True
 | _=>False
section
variable {P:b8}{x e:Addr}{o':HO}
theorem HOk.write(ok:HOk P w H h)(mu:Mut (H x))(he:e=x\/H e=some (.own x))(k:∀b u,b≠e->h.get? b=some u->h'.get? b=some u)(heo:∃u,h'.get? e=some u)
  (new:n9 P w (upd H x o') h' x o'):HOk P w (upd H x o') h':=fun b u q=>by
 have nown:∀c y,H c=some (.own y)->c≠x:=fun c y r z=>by subst z;rw[r]at mu;exact mu
 have ntup:∀c xs,H c=some (.tup xs)->c≠x:=fun c xs r z=>by subst z;rw[r]at mu;exact mu
 by_cases hb:b=x
 ·subst hb;rw[j3]at q;cases q;exact new
 ·rw[c8 hb]at q
  by_cases hbe:b=e
  ·have q':H b=some (.own x):=by
    rcases he with z | z
    ·exact absurd (hbe.trans z) hb
    ·rw[hbe];exact z
   rw[q]at q';cases q'
   obtain⟨v,hv⟩:=heo
   exact⟨v,by rw[hbe];exact hv⟩
  ·refine(ok b u q).stay (fun c v hc r=>k c v ?_ r) (fun c r=>by rw[c8 (nown c b r)];exact r) fun c xs r=>by rw[c8 (ntup c xs r)];exact r
   rcases hc with rfl | hc
   ·exact hbe
   ·rintro rfl
    rcases he with z | z
    ·exact nown c b hc z
    ·rw[hc]at z;cases z;exact hb rfl
end
structure Un(fs ex:List Addr)(H H':Hp)(h h':Heap):Prop where
 keep:∀b o,h.get? b=some o->H b=none->b∉fs->b∉ex->h'.get? b=some o
 slot:∀b o,h.get? b=some o->H b=none->b∈fs->b∉ex->∃sl,h'.get? b=some { o with slots:=sl }
 free:∀b o,h.get? b=some o->H b=none->b∉ex->H' b=none
 there:∀b o,h.get? b=some o->b∉ex->∃o',h'.get? b=some o'
 tups:∀b xs,H b=some (.tup xs)->H' b=some (.tup xs)
 frzs:∀b o u,H b=some (.frz o u)->H' b=some (.frz o u)
 tbls:∀b ps,H b=some (.tbl ps)->∃more,H' b=some (.tbl (ps++more))
section
variable {fs fs' ex ex':List Addr}{H1 H2:Hp}{h1 h2:Heap}{x e:Addr}
theorem Un.any(u:Un fs ex H H1 h h1){ob:Obj}(q:h.get? b=some ob)(n:H b=none)(hx:b∉ex):∃sl,h1.get? b=some { ob with slots:=sl }:=by
 by_cases hb:b∈fs
 ·exact u.slot b ob q n hb hx
 ·exact⟨ob.slots,u.keep b ob q n hb hx⟩
theorem Un.trans(a:Un fs ex H H1 h h1)(b:Un fs ex H1 H2 h1 h2):Un fs ex H H2 h h2 where
 keep:=fun c ob q n hc hx=>b.keep c ob (a.keep c ob q n hc hx) (a.free c ob q n hx) hc hx
 slot:=fun c ob q n hc hx=>by
  obtain⟨sl,e1⟩:=a.slot c ob q n hc hx
  obtain⟨sl',e2⟩:=b.slot c _ e1 (a.free c ob q n hx) hc hx
  exact⟨sl',e2⟩
 free:=fun c ob q n hx=>by
  obtain⟨o',e1⟩:=a.there c ob q hx
  exact b.free c o' e1 (a.free c ob q n hx) hx
 there:=fun c ob q hx=>by
  obtain⟨o',e1⟩:=a.there c ob q hx
  exact b.there c o' e1 hx
 tups:=fun c xs q=>b.tups c xs (a.tups c xs q)
 frzs:=fun c ob xs q=>b.frzs c ob xs (a.frzs c ob xs q)
 tbls:=fun c ps q=>by
  obtain⟨m1,e1⟩:=a.tbls c ps q
  obtain⟨m2,e2⟩:=b.tbls c _ e1
  exact⟨m1++m2,by rw[e2,a3P]⟩
theorem Un.kept(k:∀b u,h.get? b=some u->h'.get? b=some u):Un fs ex H H h h':=
 ⟨fun b ob q _ _ _=>k b ob q,fun b ob q _ _ _=>⟨ob.slots,k b ob q⟩,fun _ _ _ n _=>n,fun b ob q _=>⟨ob,k b ob q⟩,fun _ _ q=>q,fun _ _ _ q=>q,fun _ ps q=>⟨#[],by rw[q];simp⟩⟩
theorem Un.refl:Un fs ex H H h h:=Un.kept fun _ _ q=>q
theorem Un.laid(k:∀b u,h.get? b=some u->h'.get? b=some u)(hp:h.objs.size<=a)(hn:H a=none):Un fs ex H (upd H a o) h h' where
 keep:=fun b u q _ _ _=>k b u q
 slot:=fun b u q _ _ _=>⟨u.slots,k b u q⟩
 free:=fun b u q n _=>by rw[c8 (d9 (a9 (a8 q) hp))];exact n
 there:=fun b u q _=>⟨u,k b u q⟩
 tups:=fun b xs q=>by rw[c8 (c9 q hn)];exact q
 frzs:=fun b u xs q=>by rw[c8 (c9 q hn)];exact q
 tbls:=fun b ps q=>⟨#[],by rw[c8 (c9 q hn),q];simp⟩
theorem Un.write(mu:Mut (H x))(he:e=x\/H e=some (.own x))(k:∀b u,b≠e->h.get? b=some u->h'.get? b=some u)(heo:∃u,h'.get? e=some u):Un fs ex H (upd H x o) h h':=by
 have hx:∀b,H b=none->b≠x:=fun b n z=>by subst z;rw[n]at mu;exact mu
 have hb:∀b,H b=none->b≠e:=fun b n z=>by
  subst z
  rcases he with r | r
  ·exact hx b n r
  ·rw[n]at r;cases r
 have hm:∀b u,H b=some u->¬Mut (some u)->b≠x:=fun b u q nm z=>by subst z;rw[q]at mu;exact nm mu
 refine⟨fun b u q n _ _=>k b u (hb b n) q,fun b u q n _ _=>⟨u.slots,k b u (hb b n) q⟩,fun b u q n _=>by rw[c8 (hx b n)];exact n,fun b u q _=>?_,
  fun b xs q=>by rw[c8 (hm b _ q fun z=>z)];exact q,fun b u xs q=>by rw[c8 (hm b _ q fun z=>z)];exact q,fun b ps q=>⟨#[],by rw[c8 (hm b _ q fun z=>z),q];simp⟩⟩
 by_cases hbe:b=e
 ·subst hbe;exact heo
 ·exact⟨u,k b u hbe q⟩
theorem Un.mono(u:Un fs ex H H1 h h1)(hs:∀b∈fs,b∈fs')(hx:∀b∈ex,b∈ex'):Un fs' ex' H H1 h h1:=
 ⟨fun b ob q n hb he=>u.keep b ob q n (fun z=>hb (hs b z)) fun z=>he (hx b z),fun _ _ q n _ he=>u.any q n fun z=>he (hx _ z),fun b ob q n he=>u.free b ob q n fun z=>he (hx b z),fun b ob q he=>u.there b ob q fun z=>he (hx b z),u.tups,u.frzs,u.tbls⟩
end
def trk(h:Heap)(H:Hp):List Addr:=(u8 h.objs.size).filter fun a=>(H a).isSome
def X4(h:Heap)(H:Hp):Heap:=PySem.W.hideAll h (trk h H)
theorem a2k(h:Heap)(H:Hp):(X4 h H).objs.size=h.objs.size:=PySem.W.hideAll_size _ _
theorem a3z{o:Obj}(e:h.get? b=some o)(n:H b=none):(X4 h H).get? b=some o:=
 PySem.W.hideAll_get _ e fun hm=>by
  have q:(H b).isSome=true:=(a7i.mp hm).2
  rw[n]at q;simp at q
theorem a4K{o:Obj}(e:(X4 h H).get? b=some o):h.get? b=some o/\H b=none:=by
 have e':h.get? b=some o:=PySem.W.of_hideAll (trk h H) e
 refine⟨e',?_⟩
 cases q:H b with
 | none=>rfl
 | some x=>
  have hm:b∈trk h H:=a7i.mpr ⟨List.mem_range.mpr (a8 e'),by simp[q]⟩
  have z:(X4 h H).get? b=none:=PySem.W.hideAll_none (trk h H) hm
  rw[z]at e;cases e
def a4W(g h:Heap)(L:Addr):List (Addr×Obj):=(u8 h.objs.size).filterMap fun a=>if a=L\/(g.get? a).isSome=true then none else (h.get? a).map fun o=>(a,o)
def rest(g h:Heap)(L d:Addr):List (Addr×Obj):=(a4W g h L).filter fun p=>decide (p.1≠d)
structure Mod(K:Fg)(mg:Str->Option Value)(base:Heap):Prop where
 kin:K.In base
 glob:base.Ns d5 mg
 blt:∃mb,base.Ns builtinsNs mb/\∀x:Str,x ≠ "__name__" -> mb x=x6 x
 nolimit:base.NoLimit
structure Cx where
 prog:b8
 w:World
 K:Fg
 mg:Str->Option Value
 base:Heap
 A:d8
 N:List Str
 s₀:a5
 H₀:Hp
 env:Env
 outer:List Env
 stack:List Env
 ex:List Addr
 fn:Str->Bool
 calm:Bool
 pn:List (Addr×Obj)
 xe:Value->a5->Prop
variable{X:Cx}
def frs(l:List Env):List Addr:=l.filterMap (·.frame)
abbrev Cx.fs(X:Cx):List Addr:=frs X.outer
def Vis(sc:Scope)(x:Str):Prop:=sc.names.lookup x=some .local\/sc.names.lookup x=some .cell\/sc.names.lookup x=some .free
def Loc(sc:Scope)(x:Str):Prop:=sc.names.lookup x=some .local\/sc.names.lookup x=some .cell
def a9F(env:Env)(h:Heap)(m:Str->Option Value)(x:Str)(u:Value):Prop:=
 (env.kindOf x=some .local/\m x=some u)\/((env.kindOf x=some .cell\/env.kindOf x=some .free)/\∃c,env.cells.lookup x=some c/\h.IsCell c (some u))
structure Cx.Ok(X:Cx):Prop where
 mod:Mod X.K X.mg X.base
 kind:X.env.scope.kind=.function
 glob:X.env.globals=d5
 blt:X.env.builtins=builtinsNs
 above:X.s₀.heap.objs.size<=X.env.locals
 inj:∀x y c,X.env.cells.lookup x=some c->X.env.cells.lookup y=some c->x=y
 has:∀x,(X.env.kindOf x=some .cell\/X.env.kindOf x=some .free)->∃c,X.env.cells.lookup x=some c
 cab:∀x c,X.fn x=true->X.env.cells.lookup x=some c->X.s₀.heap.objs.size<=c
 hd:X.calm=true->X.A.handled=none
 frames:X.A.frames=some X.stack
 stk:X.stack=X.outer\/(X.stack=X.env::X.outer/\X.env.frame=some X.env.locals)
 exf:∀b∈X.ex,b≠X.env.locals/\∀x c,X.env.cells.lookup x=some c->c≠b
 bs:∀b o,X.base.get? b=some o->X.s₀.heap.get? b=some o/\X.H₀ b=none
 bsz:X.base.objs.size<=X.s₀.heap.objs.size
 noex:∀b o,X.base.get? b=some o->b∉X.ex
 exfs:∀b∈X.ex,b∉X.fs
 funs:X.s₀.heap.FunFrames X.base X.outer
 frf:∀b∈X.fs,X.H₀ b=none
structure Inv(X:Cx)(pins:List (Addr×Obj))(σ:List (Option V))(H:Hp)(s:a5):Prop where
 ok:X.Ok
 os:s.os=X.s₀.os
 bare:O6 s.gens
 base:Un X.fs X.ex X.H₀ H X.s₀.heap s.heap
 loc:∃m,s.heap.Ns X.env.locals m/\∀(i:Nat) (x:Str) (v:V),X.N[i]? = some x->σ[i]? = some (some v)->Vis X.env.scope x->∃u,f6 v u/\a9F X.env s.heap m x u
 cell:∀x c,X.env.cells.lookup x=some c->∃v,s.heap.IsCell c v
 free:H X.env.locals=none
 freeC:∀x c,X.env.cells.lookup x=some c->H c=none
 pin:∀p∈X.pn++pins,s.heap.get? p.1=some p.2/\H p.1=none/\p.1≠X.env.locals/\p.1∉X.fs/\∀v,p.2.data≠.cell v
 hok:HOk X.prog X.w H s.heap
 len:σ.length=X.N.length
section
variable {σ:List (Option V)}
theorem Cx.Ok.nofr(ok:X.Ok){o:Obj}(e:X.base.get? b=some o):b∉X.fs:=fun hb=>by
 have:=(ok.funs.mem hb).1
 rw[e]at this;cases this
theorem Inv.bs(I:Inv X pins σ H s):∀b o,X.base.get? b=some o->s.heap.get? b=some o/\H b=none:=fun b o e=>
 ⟨I.base.keep b o (I.ok.bs b o e).1 (I.ok.bs b o e).2 (I.ok.nofr e) (I.ok.noex b o e),I.base.free b o (I.ok.bs b o e).1 (I.ok.bs b o e).2 (I.ok.noex b o e)⟩
theorem Inv.bk(I:Inv X pins σ H s):∀b o,X.base.get? b=some o->s.heap.get? b=some o:=fun b o e=>(I.bs b o e).1
theorem Inv.mod(I:Inv X pins σ H s):Mod X.K X.mg X.base:=I.ok.mod
theorem Inv.kIn(I:Inv X pins σ H s):X.K.In s.heap:=I.ok.mod.kin.keeps I.bk
theorem Inv.nolimit(I:Inv X pins σ H s):s.heap.NoLimit:=I.ok.mod.nolimit.keeps I.bk
theorem Inv.fr(I:Inv X pins σ H s):∃m,Fr X.base X.env.locals s.heap m:=
 let⟨m,hn,_⟩:=I.loc
 ⟨m,hn,I.bk,k6 I.ok.bsz I.ok.above⟩
theorem Inv.lt(I:Inv X pins σ H s):X.env.locals<s.heap.objs.size:=let⟨_,hn,_⟩:=I.loc;hn.lt
theorem Inv.sz(I:Inv X pins σ H s):X.s₀.heap.objs.size<=s.heap.objs.size:=k6 I.ok.above (S1 I.lt)
theorem Inv.nofs(I:Inv X pins σ H s)(h:s.heap.objs.size<=a):a∉X.fs:=fun hb=>by
 obtain⟨_,o,ho,_⟩:=I.ok.funs.mem hb
 exact absurd (a9 (a8 ho) (k6 I.sz h)) (e6 _)
theorem Inv.cne(I:Inv X pins σ H s):∀x c,X.env.cells.lookup x=some c->c≠X.env.locals:=fun x c e z=>by
 obtain⟨v,o,ho,hd⟩:=I.cell x c e
 obtain⟨m,⟨o',es,ep,ho',hd',_⟩,_⟩:=I.loc
 rw[z,ho']at ho;cases ho;rw[hd']at hd;cases hd
theorem Inv.funs(I:Inv X pins σ H s):s.heap.FunFrames X.base X.outer:=by
 have all:∀(l:List Env),(∀b∈frs l,b∈X.fs)->X.s₀.heap.FunFrames X.base l->s.heap.FunFrames X.base l:=by
  intro l
  induction l with
  | nil=>intro _ _;trivial
  | cons env r ih=>
   intro hs hl
   obtain⟨hk,⟨L,o,hf,hn,ho,hd⟩,hr⟩:=hl
   have hL:L∈X.fs:=hs L (by unfold frs;rw[K6,hf];exact A2)
   obtain⟨sl,e⟩:=I.base.slot L o ho (I.ok.frf L hL) hL fun z=>I.ok.exfs L z hL
   exact⟨hk,⟨L,_,hf,hn,e,hd⟩,ih (fun b hb=>hs b (by unfold frs;rw[K6,hf];exact m5 _ hb)) hr⟩
 exact all X.outer (fun _ hb=>hb) I.ok.funs
theorem Inv.stack(I:Inv X pins σ H s):s.heap.FunFrames X.base X.stack:=by
 rcases I.ok.stk with e | ⟨e,hf⟩
 ·rw[e];exact I.funs
 ·rw[e]
  obtain⟨m,hn,_⟩:=I.loc
  refine .cons (by rw[I.ok.kind];decide) hf hn ?_ I.funs
  exact Heap.get?_none_of_le (k6 I.ok.bsz I.ok.above)
theorem Inv.stkSub(I:Inv X pins σ H s):∀b∈frs X.stack,b∈X.env.locals::X.fs:=fun b hb=>by
 rcases I.ok.stk with e | ⟨e,hf⟩
 ·rw[e]at hb;exact m5 _ hb
 ·rw[e]at hb
  unfold frs at hb
  rw[K6,hf]at hb
  exact hb
theorem Inv.stkFree(I:Inv X pins σ H s):∀b∈frs X.stack,H b=none:=fun b hb=>by
 rcases j8.mp (I.stkSub b hb)with e | hb
 ·rw[e];exact I.free
 ·obtain⟨_,o,ho,_⟩:=I.ok.funs.mem hb
  exact I.base.free b o ho (I.ok.frf b hb) fun z=>I.ok.exfs b z hb
theorem Inv.step{g':Array GenState}{t':Nat}{d':Drawn}{ch:List Addr}(I:Inv X pins σ H s)
  (hch:∀b∈ch,(b∈X.ex\/X.s₀.heap.objs.size<=b)/\b≠X.env.locals/\(∀x c,X.env.cells.lookup x=some c->c≠b)/\∀p∈X.pn++pins,p.1≠b)
  (keep:∀b o,b≠X.env.locals->b∉X.fs->b∉ch->s.heap.get? b=some o->H b=none->h'.get? b=some o)
  (slot:∀b o,b≠X.env.locals->b∈X.fs->b∉ch->s.heap.get? b=some o->H b=none->∃sl,h'.get? b=some { o with slots:=sl }) (free:∀b o,b∉ch->s.heap.get? b=some o->H b=none->H' b=none)
  (there:∀b o,b∉ch->s.heap.get? b=some o->∃o',h'.get? b=some o')
  (tups:∀b xs,H b=some (.tup xs)->H' b=some (.tup xs)) (frzs:∀b o u,H b=some (.frz o u)->H' b=some (.frz o u)) (tbls:∀b ps,H b=some (.tbl ps)->∃more,H' b=some (.tbl (ps++more)))
  (ns:∀m,s.heap.Ns X.env.locals m->h'.Ns X.env.locals m) (hok:HOk X.prog X.w H' h') (hg:O6 g') :
  Inv X pins σ H' { s with heap:=h',gens:=g',drawn:=d',toks:=t' }:=by
 have neL:∀b o,X.s₀.heap.get? b=some o->b≠X.env.locals:=fun b o e=>d9 (a9 (a8 e) I.ok.above)
 have neC:∀b o,X.s₀.heap.get? b=some o->b∉X.ex->b∉ch:=fun b o e hx hb=>by
  rcases(hch b hb).1 with z | z
  ·exact hx z
  ·exact absurd (a9 (a8 e) z) (e6 _)
 have cellK:∀x c,X.env.cells.lookup x=some c->∀v,s.heap.IsCell c v->h'.IsCell c v:=fun x c e v ⟨o,ho,hd⟩=>by
  have nch:c∉ch:=fun z=>(hch c z).2.2.1 x c e rfl
  by_cases hc:c∈X.fs
  ·obtain⟨sl,q⟩:=slot c o (I.cne x c e) hc nch ho (I.freeC x c e)
   exact⟨_,q,hd⟩
  ·exact⟨o,keep c o (I.cne x c e) hc nch ho (I.freeC x c e),hd⟩
 refine⟨I.ok,I.os,hg,⟨fun b o e n hb hx=>?_,fun b o e n hb hx=>?_,fun b o e n hx=>?_,fun b o e hx=>?_,fun b xs e=>tups b xs (I.base.tups b xs e),fun b o xs e=>frzs b o xs (I.base.frzs b o xs e),fun b ps e=>?_⟩,?_,fun x c e=>?_,?_,fun x c e=>?_,fun p hp=>?_,hok,I.len⟩
 ·exact keep b o (neL b o e) hb (neC b o e hx) (I.base.keep b o e n hb hx) (I.base.free b o e n hx)
 ·obtain⟨sl,e1⟩:=I.base.slot b o e n hb hx
  obtain⟨sl',e2⟩:=slot b _ (neL b o e) hb (neC b o e hx) e1 (I.base.free b o e n hx)
  exact⟨sl',e2⟩
 ·obtain⟨o',e1⟩:=I.base.there b o e hx
  exact free b o' (neC b o e hx) e1 (I.base.free b o e n hx)
 ·obtain⟨o',e1⟩:=I.base.there b o e hx
  exact there b o' (neC b o e hx) e1
 ·obtain⟨m1,e1⟩:=I.base.tbls b ps e
  obtain⟨m2,e2⟩:=tbls b _ e1
  exact⟨m1++m2,by rw[e2,a3P]⟩
 ·obtain⟨m,hn,hl⟩:=I.loc
  refine⟨m,ns m hn,fun i x v e1 e2 e3=>?_⟩
  obtain⟨u,r,l⟩:=hl i x v e1 e2 e3
  refine⟨u,r,?_⟩
  rcases l with l | ⟨k,c,e,z⟩
  ·exact .inl l
  ·exact .inr ⟨k,c,e,cellK x c e _ z⟩
 ·obtain⟨v,z⟩:=I.cell x c e
  exact⟨v,cellK x c e v z⟩
 ·obtain⟨m,⟨o,_,_,ho,_⟩,_⟩:=I.loc
  exact free _ o (fun z=>(hch _ z).2.1 rfl) ho I.free
 ·obtain⟨v,o,ho,hd⟩:=I.cell x c e
  exact free c o (fun z=>(hch c z).2.2.1 x c e rfl) ho (I.freeC x c e)
 ·obtain⟨e,n,ne,nf,d⟩:=I.pin p hp
  have nch:p.1∉ch:=fun z=>(hch p.1 z).2.2.2 p hp rfl
  exact⟨keep p.1 p.2 ne nf nch e n,free p.1 p.2 nch e n,ne,nf,d⟩
theorem Inv.un(I:Inv X pins σ H s)(u:Un X.fs [] H H' s.heap h')(hok:HOk X.prog X.w H' h'):Inv X pins σ H' { s with heap:=h',toks:=t' }:=by
 obtain⟨m,⟨o,es,ep,ho,r⟩,_⟩:=id I.loc
 obtain⟨sl,hL⟩:=u.any ho I.free (by simp)
 exact I.step (g':=s.gens) (d':=s.drawn) (ch:=[]) (fun _ z=>nomatch z) (fun b o _ hb _ e n=>u.keep b o e n hb (by simp)) (fun b o _ hb _ e n=>u.slot b o e n hb (by simp)) (fun b o _ e n=>u.free b o e n (by simp)) (fun b o _ e=>u.there b o e (by simp)) u.tups u.frzs u.tbls (fun m' hm=>by
  obtain⟨o',es',ep',ho',r'⟩:=hm
  rw[ho]at ho';cases ho'
  exact⟨_,es',ep',hL,r'⟩) hok I.bare
theorem Inv.call{g':Array GenState}{d':Drawn}{ch:List Addr}(I:Inv X pins σ H s)(u:Un (frs X.stack) ch H H' s.heap h')(hok:HOk X.prog X.w H' h')(hg:O6 g')
  (hch:∀b∈ch,(b∈X.ex\/X.s₀.heap.objs.size<=b)/\b≠X.env.locals/\(∀x c,X.env.cells.lookup x=some c->c≠b)/\∀p∈X.pn++pins,p.1≠b) :
  Inv X pins σ H' { s with heap:=h',gens:=g',drawn:=d',toks:=t' }:=by
 obtain⟨m,⟨o,es,ep,ho,r⟩,_⟩:=id I.loc
 obtain⟨sl,hL⟩:=u.any ho I.free fun z=>(hch _ z).2.1 rfl
 exact I.step (ch:=ch) hch (fun b o hL hb hc e n=>u.keep b o e n (fun z=>(j8.mp (I.stkSub b z)).elim hL hb) hc) (fun b o _ _ hc e n=>u.any e n hc) (fun b o hc e n=>u.free b o e n hc) (fun b o hc e=>u.there b o e hc) u.tups u.frzs u.tbls (fun m' hm=>by
  obtain⟨o',es',ep',ho',r'⟩:=hm
  rw[ho]at ho';cases ho'
  exact⟨_,es',ep',hL,r'⟩) hok hg
theorem Inv.turned{it:Addr}(I:Inv X pins σ H s)(k:∀b o,b≠it->s.heap.get? b=some o->h'.get? b=some o)(hn:H it=none)(hL:it≠X.env.locals)
  (h1:it∈X.ex\/X.s₀.heap.objs.size<=it) (h2:∀x c,X.env.cells.lookup x=some c->c≠it) (h3:∀p∈X.pn++pins,p.1≠it):Inv X pins σ H { s with heap:=h',toks:=t' }:=by
 have nit:∀b u,H b=some u->b≠it:=fun b u e z=>by rw[z,hn]at e;cases e
 refine I.step (g':=s.gens) (d':=s.drawn) (ch:=[it]) (fun b hb=>?_) (fun b o _ _ hc e _=>k b o (fun z=>hc (by simp[z])) e) (fun b o _ _ hc e _=>⟨o.slots,k b o (fun z=>hc (by simp[z])) e⟩) (fun _ _ _ _ n=>n)
  (fun b o hc e=>⟨o,k b o (fun z=>hc (by simp[z])) e⟩) (fun _ _ e=>e) (fun _ _ _ e=>e) (fun b ps e=>⟨#[],by rw[e];simp⟩) (fun m hm=>?_) (fun b u e=>?_) I.bare
 ·have e:b=it:=by simpa using hb
  subst e
  exact⟨h1,hL,h2,h3⟩
 ·obtain⟨o,es,ep,ho,r⟩:=hm
  exact⟨o,es,ep,k _ o (Ne.symm hL) ho,r⟩
 ·refine(I.hok b u e).stay (fun c v hc q=>k c v ?_ q) (fun _ q=>q) fun _ _ q=>q
  rcases hc with z | z
  ·rw[z];exact nit b u e
  ·exact nit c _ z
theorem Inv.tok(I:Inv X pins σ H s)(t:Nat):Inv X pins σ H { s with toks:=t }:=I.un (h':=s.heap) (t':=t) Un.refl I.hok
theorem Inv.kept(I:Inv X pins σ H s)(k:∀b u,s.heap.get? b=some u->h'.get? b=some u):Inv X pins σ H { s with heap:=h',toks:=t' }:=I.un (Un.kept k) (I.hok.kept k)
theorem Inv.laid(I:Inv X pins σ H s)(k:∀b u,s.heap.get? b=some u->h'.get? b=some u)(hp:s.heap.objs.size<=a)(new:n9 X.prog X.w (upd H a o) h' a o) :
  Inv X pins σ (upd H a o) { s with heap:=h',toks:=t' }:=I.un (Un.laid k hp (I.hok.fresh hp)) (I.hok.laid k hp new)
theorem Inv.write{x e:Addr}(I:Inv X pins σ H s)(mu:Mut (H x))(he:e=x\/H e=some (.own x))(k:∀b u,b≠e->s.heap.get? b=some u->h'.get? b=some u)(heo:∃u,h'.get? e=some u)
  (new:n9 X.prog X.w (upd H x o) h' x o):Inv X pins σ (upd H x o) { s with heap:=h',toks:=t' }:=I.un (Un.write mu he k heo) (I.hok.write mu he k heo new)
theorem Inv.weak{σ':List (Option V)}(I:Inv X pins σ H s)(hl:σ'.length=σ.length)(w:∀(i:Nat) v,σ'[i]? = some (some v)->σ[i]? = some (some v)):Inv X pins σ' H s:=
 ⟨I.ok,I.os,I.bare,I.base,let⟨m,hn,hl'⟩:=I.loc; ⟨m,hn,fun i x v e1 e2 e3=>hl' i x v e1 (w i v e2) e3⟩,I.cell,I.free,I.freeC,I.pin,I.hok,hl.trans I.len⟩
theorem Inv.pins_of{pins':List (Addr×Obj)}(I:Inv X pins σ H s)(h:∀p∈pins',s.heap.get? p.1=some p.2/\H p.1=none/\p.1≠X.env.locals/\p.1∉X.fs/\∀v,p.2.data≠.cell v):Inv X pins' σ H s:=
 ⟨I.ok,I.os,I.bare,I.base,I.loc,I.cell,I.free,I.freeC,fun p hp=>(V5.mp hp).elim (fun z=>I.pin p (g6 _ z)) (h p),I.hok,I.len⟩
theorem Q8{N:List Str}(hN:N.Nodup){j:Nat}(a:N[i]? = some x)(b:N[j]? = some x):i=j:=by
 obtain⟨h1,e1⟩:=c5.mp a
 obtain⟨h2,e2⟩:=c5.mp b
 exact(List.getElem_inj hN).mp (e1.trans e2.symm)
theorem a1Q{M:Model}{A:d8}{E:Value->a5->Prop}{Q:Unit->a5->Prop}(I:Inv X pins σ H s)(hN:X.N.Nodup)(hi:X.N[i]? = some x)(hx:Loc X.env.scope x)(r:f6 v u)
  (h:∀s',Inv X pins (σ.set i (some v)) H s'->(∃a,Heap.SameBut a s.heap s'.heap/\(a=X.env.locals\/X.env.cells.lookup x=some a))->Q () s') (hf:X.fn x=true\/X.env.scope.names.lookup x=some .local:=by first | exact .inl rfl | exact .inr rfl | assumption):wpAny M A (storeName X.env x u) Q E s:=by
 obtain⟨m,hn,hl⟩:=id I.loc
 have hcls:(X.env.scope.kind == .class||(X.env.scope.kind == .module&&X.env.locals != X.env.globals))=false:=by rw[I.ok.kind];rfl
 have hiσ:i<σ.length:=by rw[I.len];exact(c5.mp hi).1
 have cne:=I.cne
 have tracked:∀ {a:Addr} {h':Heap},(∃o,s.heap.get? a=some o/\H a=none)->Heap.SameBut a s.heap h'->HOk X.prog X.w H h':=fun {a h'} ha hs b ob e=>by
  obtain⟨_,_,hfree⟩:=ha
  refine(I.hok b ob e).stay (fun c w' hc q=>(hs.2 c ?_).trans q) (fun _ q=>q) fun _ _ q=>q
  rintro rfl
  rcases hc with rfl | hc
  ·rw[hfree]at e;cases e
  ·rw[hfree]at hc;cases hc
 rcases hx with hk | hk
 ·refine wpAny_storeName_local hk hn (fun h' hn' hs=>?_) hcls
  obtain⟨oL,_,_,hoL,_⟩:=id hn
  refine h _ ⟨I.ok,I.os,I.bare,⟨fun b o e n hb hx=>?_,fun b o e n hb hx=>?_,I.base.free,fun b o e hx=>?_,I.base.tups,I.base.frzs,I.base.tbls⟩,⟨_,hn',fun j y v' e1 e2 e3=>?_⟩,fun y c e=>?_,I.free,I.freeC,fun p hp=>?_,tracked ⟨oL,hoL,I.free⟩ hs,by simpa using I.len⟩ ⟨_,hs,.inl rfl⟩
  ·exact(hs.2 b (d9 (a9 (a8 e) I.ok.above))).trans (I.base.keep b o e n hb hx)
  ·obtain⟨sl,e1⟩:=I.base.slot b o e n hb hx
   exact⟨sl,(hs.2 b (d9 (a9 (a8 e) I.ok.above))).trans e1⟩
  ·obtain⟨o',e1⟩:=I.base.there b o e hx
   exact⟨o',(hs.2 b (d9 (a9 (a8 e) I.ok.above))).trans e1⟩
  ·by_cases hj:j=i
   ·subst hj
    rw[hi]at e1;cases e1
    rw[E9 hiσ]at e2
    cases e2
    exact⟨u,r,.inl ⟨hk,by simp⟩⟩
   ·rw[G6 (Ne.symm hj)]at e2
    obtain⟨u',r',q⟩:=hl j y v' e1 e2 e3
    refine⟨u',r',?_⟩
    rcases q with ⟨k,e⟩ | ⟨k,c,e,z⟩
    ·refine .inl ⟨k,?_⟩
     have:y≠x:=fun e=>hj (Q8 hN e1 (e ▸ hi))
     simp[this,e]
    ·exact .inr ⟨k,c,e,z.sameBut hs (cne y c e)⟩
  ·obtain⟨w',z⟩:=I.cell y c e
   exact⟨w',z.sameBut hs (cne y c e)⟩
  ·obtain⟨e,n,ne,nf,d⟩:=I.pin p hp
   exact⟨(hs.2 p.1 ne).trans e,n,ne,nf,d⟩
 ·have hfn:X.fn x=true:=by
   rcases hf with z | z
   ·exact z
   ·rw[z]at hk;cases hk
  obtain⟨c,hc⟩:=I.ok.has x (.inl hk)
  obtain⟨w',z⟩:=I.cell x c hc
  refine wpAny_storeName_cell I.ok.kind hk hc z (fun h' hc' hs=>?_)
  obtain⟨oc,hoc,hocd⟩:=id z
  refine h { s with heap:=h' } ⟨I.ok,I.os,I.bare,⟨fun b o e n hb hx=>?_,fun b o e n hb hx=>?_,I.base.free,fun b o e hx=>?_,I.base.tups,I.base.frzs,I.base.tbls⟩,⟨m,hn.sameBut hs (Ne.symm (cne x c hc)),fun j y v' e1 e2 e3=>?_⟩,fun y c' e=>?_,I.free,I.freeC,fun p hp=>?_,tracked ⟨oc,hoc,I.freeC x c hc⟩ hs,by simpa using I.len⟩ ⟨c,hs,.inr hc⟩
  ·exact(hs.2 b (d9 (a9 (a8 e) (I.ok.cab x c hfn hc)))).trans (I.base.keep b o e n hb hx)
  ·obtain⟨sl,e1⟩:=I.base.slot b o e n hb hx
   exact⟨sl,(hs.2 b (d9 (a9 (a8 e) (I.ok.cab x c hfn hc)))).trans e1⟩
  ·obtain⟨o',e1⟩:=I.base.there b o e hx
   exact⟨o',(hs.2 b (d9 (a9 (a8 e) (I.ok.cab x c hfn hc)))).trans e1⟩
  ·by_cases hj:j=i
   ·subst hj
    rw[hi]at e1;cases e1
    rw[E9 hiσ]at e2
    cases e2
    exact⟨u,r,.inr ⟨.inl hk,c,hc,hc'⟩⟩
   ·rw[G6 (Ne.symm hj)]at e2
    obtain⟨u',r',q⟩:=hl j y v' e1 e2 e3
    refine⟨u',r',?_⟩
    rcases q with q | ⟨k,c',e,z'⟩
    ·exact .inl q
    ·refine .inr ⟨k,c',e,z'.sameBut hs ?_⟩
     rintro rfl
     exact hj (Q8 hN e1 (I.ok.inj _ _ _ e hc ▸ hi))
  ·by_cases hcc:c'=c
   ·subst hcc;exact⟨_,hc'⟩
   ·obtain⟨w2,z2⟩:=I.cell y c' e
    exact⟨w2,z2.sameBut hs hcc⟩
  ·obtain⟨e,n,ne,nf,d⟩:=I.pin p hp
   refine⟨(hs.2 p.1 ?_).trans e,n,ne,nf,d⟩
   intro q
   rw[q,hoc]at e
   have q':oc=p.2:=Option.some.inj e
   exact d w' (by rw[<-q'];exact hocd)
theorem A6{M:Model}{A:d8}{E:Value->a5->Prop}{Q:Unit->a5->Prop}(I:Inv X pins σ H s)(hN:X.N.Nodup)(hi:X.N[i]? = some x)(hx:Loc X.env.scope x)(r:f6 v u)
  (h:∀s',Inv X pins (σ.set i (some v)) H s'->Q () s') (hf:X.fn x=true\/X.env.scope.names.lookup x=some .local:=by first | exact .inl rfl | exact .inr rfl | assumption):wpAny M A (storeName X.env x u) Q E s:=
 a1Q I hN hi hx r (fun s' I' _=>h s' I') hf
theorem Inv.call'{s':a5}{ch:List Addr}(I:Inv X pins σ H s)(ho:s'.os=s.os)(u:Un (frs X.stack) ch H H' s.heap s'.heap)(hok:HOk X.prog X.w H' s'.heap)(hg:O6 s'.gens)
  (hch:∀b∈ch,(b∈X.ex\/X.s₀.heap.objs.size<=b)/\b≠X.env.locals/\(∀x c,X.env.cells.lookup x=some c->c≠b)/\∀p∈X.pn++pins,p.1≠b):Inv X pins σ H' s':=by
 obtain⟨h',g',d',t',o'⟩:=s'
 have e:o'=s.os:=ho
 subst e
 exact I.call (g':=g') (t':=t') (d':=d') u hok hg hch
end
abbrev XK:=Value->Option Addr->Hp->Prop
abbrev St:=List (Option V)
variable{σ:St}
abbrev VK:=V->Hp->Prop
abbrev TE:=St->Hp->VK->Prop
variable{ta te:TE}
abbrev TT:=St->Hp->(Bool->Hp->Prop)->Prop
abbrev TA:=St->Hp->(List V->Hp->Prop)->Prop
structure R6 where
 nx:St->Hp->Prop
 rt:VK
 bk:St->Hp->Prop:=fun _ _=>False
 ct:St->Hp->Prop:=fun _ _=>False
abbrev TS:=R6->St->Hp->Prop
def EP(X:Cx)(pins:List (Addr×Obj))(σ:St)(Q:VK)(u:Value)(s':a5):Prop:=∃v H',Inv X pins σ H' s'/\f6 v u/\Q v H'
def TP(X:Cx)(pins:List (Addr×Obj))(σ:St)(Q:Bool->Hp->Prop)(b:Bool)(s':a5):Prop:=∃H',Inv X pins σ H' s'/\Q b H'
def AP(X:Cx)(pins:List (Addr×Obj))(σ:St)(Q:List V->Hp->Prop)(us:List Value)(s':a5):Prop:=∃vs H',Inv X pins σ H' s'/\f9 vs us/\Q vs H'
def SP(X:Cx)(pins:List (Addr×Obj))(D:R6)(f:Flow)(s':a5):Prop:=
 match f with
 | .next=>∃σ' H',Inv X pins σ' H' s'/\D.nx σ' H'
 | .brk=>∃σ' H',Inv X pins σ' H' s'/\D.bk σ' H'
 | .cont=>∃σ' H',Inv X pins σ' H' s'/\D.ct σ' H'
 | .ret u=>∃v σ' H',Inv X pins σ' H' s'/\f6 v u/\D.rt v H'
def PE(X:Cx)(e:Expr)(t:TE):Prop:=
 ∀(pins:List (Addr×Obj)) (s:a5) (σ:St) (H:Hp) (Q:VK),Inv X pins σ H s->t σ H Q->wpAny (model X.prog X.w) X.A (eval e X.env) (EP X pins σ Q) X.xe s
def PT(X:Cx)(e:Expr)(t:TT):Prop:=
 ∀(pins:List (Addr×Obj)) (s:a5) (σ:St) (H:Hp) (Q:Bool->Hp->Prop),Inv X pins σ H s->t σ H Q->wpAny (model X.prog X.w) X.A (isTrue e X.env (eval e X.env)) (TP X pins σ Q) X.xe s
def PW(X:Cx)(e:Expr)(t:TT):Prop:=
 ∀(whole:Sem Value) (pins:List (Addr×Obj)) (s:a5) (σ:St) (H:Hp) (Q:Bool->Hp->Prop),Inv X pins σ H s->t σ H Q->wpAny (model X.prog X.w) X.A (isTrue e X.env whole) (TP X pins σ Q) X.xe s
theorem PW.pt{t:TT}(h:PW X e t):PT X e t:=h _
def PA(X:Cx)(es:List Expr)(t:TA):Prop:=
 ∀(pos:Pos) (pins:List (Addr×Obj)) (s:a5) (σ:St) (H:Hp) (Q:List V->Hp->Prop),Inv X pins σ H s->t σ H Q->wpAny (model X.prog X.w) X.A (spliced (F3 pos (b7 es X.env))) (AP X pins σ Q) X.xe s
def PS(X:Cx)(st:Stmt)(t:TS):Prop:=
 ∀(pins:List (Addr×Obj)) (s:a5) (σ:St) (H:Hp) (D:R6),Inv X pins σ H s->t D σ H->wpAny (model X.prog X.w) X.A (exec st X.env) (SP X pins D) X.xe s
def PSs(X:Cx)(st:List Stmt)(t:TS):Prop:=
 ∀(pins:List (Addr×Obj)) (s:a5) (σ:St) (H:Hp) (D:R6),Inv X pins σ H s->t D σ H->wpAny (model X.prog X.w) X.A (execs st X.env) (SP X pins D) X.xe s
theorem thn{α:Type}{t:Sem α}{Q Q':α->a5->Prop}{M:Model}{A:d8}{E:Value->a5->Prop}(h:wpAny M A t Q E s)(hQ:∀a s,Q a s->Q' a s):wpAny M A t Q' E s:=j7 h hQ fun _ _ x=>x
section
def f7(i:Nat):TE:=fun σ H Q=>∃v,σ[i]? = some (some v)/\Q v H
def tC(v:V):TE:=fun _ H Q=>Q v H
theorem a3k(hN:X.N[i]? = some x)(hv:Vis X.env.scope x)(hd:(x == ("__debug__" : Str))=false:=by decide)(hcd:(x == ("__classdict__" : Str))=false:=by decide):PE X (.Name x pos) (f7 i):=by
 intro pins s σ H Q I h
 obtain⟨v,e,h⟩:=h
 obtain⟨m,hn,hl⟩:=I.loc
 obtain⟨u,r,l⟩:=hl i x v hN e hv
 have fin:EP X pins σ Q u s:=⟨v,H,I,r,h⟩
 rcases l with ⟨hk,hm⟩ | ⟨hk,c,hc,hcell⟩
 ·exact wpAny_Name (wpAny_loadName_local I.ok.kind hk hn hm fin) hd
 ·rcases hk with hk | hk
  ·exact wpAny_Name (wpAny_loadName_cell I.ok.kind hk hc hcell fin) hd
  ·exact wpAny_Name (wpAny_loadName_free I.ok.kind hk hc hcell fin hcd) hd
theorem a6w{i j pos}:PE X (.Constant (.int i) j pos) (tC (.int i)):=fun _ _ _ H _ I h=>wpAny_Constant_int ⟨.int i,H,I.tok _,⟨_,rfl⟩,h⟩
theorem a7W{b j pos}:PE X (.Constant (.bool b) j pos) (tC (.bl b)):=fun _ _ _ H _ I h=>Constant_bool ⟨.bl b,H,I,rfl,h⟩
theorem a6u{j pos}:PE X (.Constant .none j pos) (tC .non):=fun _ _ _ H _ I h=>Constant_none ⟨.non,H,I,rfl,h⟩
def Gl(X:Cx)(x:Str):Prop:=X.env.kindOf x=some .globalImplicit
theorem E7{E:Value->a5->Prop}(I:Inv X pins σ H s)(hg:Gl X x)(hm:X.mg x=some u)(h:Q u s)
  (hd:(x == ("__debug__" : Str))=false:=by decide):wpAny (model X.prog X.w) X.A (eval (.Name x pos) X.env) Q E s:=
 Calls.Name_function_global I.ok.kind hg (Calls.loadGlobal_global (by rw[I.ok.glob];exact I.mod.glob.keeps I.bk) hm h) hd
theorem X3{E:Value->a5->Prop}(I:Inv X pins σ H s)(hg:Gl X x)(hm:X.mg x=none)(hv:x6 x=some u)(h:Q u s)
  (hn:x ≠ "__name__" := by decide) (hd:(x == ("__debug__" : Str))=false:=by decide):wpAny (model X.prog X.w) X.A (eval (.Name x pos) X.env) Q E s:=by
 obtain⟨mb,h1,h2⟩:=I.mod.blt
 exact Calls.Name_function_global I.ok.kind hg (Calls.loadGlobal_builtin (by rw[I.ok.glob];exact I.mod.glob.keeps I.bk) hm (by rw[I.ok.blt];exact h1.keeps I.bk) ((h2 x hn).trans hv) h) hd
theorem a4x(hg:Gl X x)(hm:X.mg x=some u)(r:f6 v u)(hd:(x == ("__debug__" : Str))=false:=by decide):PE X (.Name x pos) (tC v):=
 fun _ _ _ H _ I h=>E7 I hg hm ⟨v,H,I,r,h⟩ hd
theorem a4B(hg:Gl X x)(hm:X.mg x=none)(hv:x6 x=some u)(r:f6 v u)(hn:x ≠ "__name__" := by decide)(hd:(x == ("__debug__" : Str))=false:=by decide):PE X (.Name x pos) (tC v):=
 fun _ _ _ H _ I h=>X3 I hg hm hv ⟨v,H,I,r,h⟩ hn hd
def t2I(ta tb:TE)(k:Int->Int->Hp->Prop):St->Hp->Prop:=fun σ H=>ta σ H fun x H1=>tb σ H1 fun y H2=>∃i j,x=.int i/\y=.int j/\k i j H2
def b0C(ta tb:TE):TE:=fun σ H Q=>t2I ta tb (fun i j H2=>Q (.int (i+j)) H2) σ H
def b0r(ta tb:TE):TE:=fun σ H Q=>t2I ta tb (fun i j H2=>Q (.int (i - j)) H2) σ H
def b0u(ta tb:TE):TE:=fun σ H Q=>t2I ta tb (fun i j H2=>(-(2 ^ 64)<i/\i<2 ^ 64)/\Q (.int (i * j)) H2) σ H
variable {a b:Expr}{tb:TE}
def PC(X:Cx)(op:CmpOp)(a b:Expr)(t:TE):Prop:=
 ∀(pins:List (Addr×Obj)) (s:a5) (σ:St) (H:Hp) (Q:VK),Inv X pins σ H s->t σ H Q ->
  wpAny (model X.prog X.w) X.A (eval a X.env) (fun v s₁=>wpAny (model X.prog X.w) X.A (eval b X.env) (fun u s₂=>wpAny (model X.prog X.w) X.A (h9 op v u) (EP X pins σ Q) X.xe s₂) X.xe s₁) X.xe s
def a1O(p:Int->Int->Bool)(ta tb:TE):TE:=fun σ H Q=>t2I ta tb (fun i j H2=>Q (.bl (p i j)) H2) σ H
abbrev tLt:TE->TE->TE:=a1O fun i j=>decide (i<j)
abbrev tLe:TE->TE->TE:=a1O fun i j=>decide (i<=j)
abbrev tGt:TE->TE->TE:=a1O fun i j=>decide (j<i)
abbrev tGe:TE->TE->TE:=a1O fun i j=>decide (j<=i)
abbrev b0x:TE->TE->TE:=a1O fun i j=>decide (i=j)
abbrev b0t:TE->TE->TE:=a1O fun i j => !decide (i=j)
def b0v(ta:TE):TE:=fun σ H Q=>ta σ H fun x H1=>Q (.bl (decide (x=.non))) H1
def a9K(ta:TE):TE:=fun σ H Q=>ta σ H fun x H1=>Q (.bl (!decide (x=.non))) H1
def tB(t:TE):TT:=fun σ H Q=>t σ H fun x H1=>∃c,x=.bl c/\Q c H1
theorem a6k{t:TE}(h:PE X e t)(he:∀whole,isTrue e X.env whole=(do let v <-whole;standAt e.pos;K7 [v] (truthy v)):=by intro _;rfl):PT X e (tB t):=by
 intro pins s σ H Q I hw
 refine isTrue_plain (thn (h pins s σ H _ I hw) fun v s1 ⟨x,H1,I1,r1,q1⟩=>?_) (he _)
 obtain⟨d,rfl,q⟩:=q1
 cases r1
 exact G8 ⟨H1,I1,q⟩
variable {tA tB':TT}{rest:List Expr}
def a8X(t u:TT):TT:=fun σ H Q=>t σ H fun c H1=>if c=true then u σ H1 Q else Q false H1
def tOr(t u:TT):TT:=fun σ H Q=>t σ H fun c H1=>if c=true then Q true H1 else u σ H1 Q
def a2W(t:TT):TT:=fun σ H Q=>t σ H fun c H1=>Q (!c) H1
theorem a6i(ha:PT X a tA):PW X (.BoolOp .Or [a] pos) tA:=by
 intro wh pins s σ H Q I h
 refine isTrue_or (thn (ha pins s σ H Q I h) fun c s1 e=>?_)
 cases c with
 | false=>exact isTrue_or_nil e
 | true=>exact e
theorem a7S(ha:PT X a tA)(hb:PW X (.BoolOp .Or (b::rest) pos) tB'):PW X (.BoolOp .Or (a::b::rest) pos) (tOr tA tB'):=by
 intro wh pins s σ H Q I h
 refine isTrue_or (thn (ha pins s σ H _ I h) fun c s1 ⟨H1,I1,q1⟩=>?_)
 cases c with
 | true=>exact⟨H1,I1,q1⟩
 | false=>exact hb wh pins s1 σ H1 Q I1 q1
theorem a6l(ha:PT X a tA):PT X (.UnaryOp .Not a pos) (a2W tA):=by
 intro pins s σ H Q I h
 exact isTrue_not (ha pins s σ H (fun c H1=>Q (!c) H1) I h)
def a0d(ta tb:TE):TE:=fun σ H Q=>ta σ H fun x H1=>∃c,x=.bl c/\if c=true then tb σ H1 Q else Q (.bl false) H1
def a8L(ta tb:TE):TE:=fun σ H Q=>ta σ H fun x H1=>∃c,x=.bl c/\if c=true then Q (.bl true) H1 else tb σ H1 Q
def a1j(ta:TE):TE:=fun σ H Q=>ta σ H fun x H1=>∃c,x=.bl c/\Q (.bl (!c)) H1
theorem a6s{op}{t:TE}(h:PE X a t):PE X (.BoolOp op [a] pos) t:=fun pins s σ H Q I hw=>BoolOp_one (h pins s σ H Q I hw)
theorem a6x(ha:PE X a ta)(hb:PE X (.BoolOp .And (b::rest) pos) tb):PE X (.BoolOp .And (a::b::rest) pos) (a0d ta tb):=by
 intro pins s σ H Q I h
 refine BoolOp_and (thn (ha pins s σ H _ I h) fun v s1 ⟨x,H1,I1,r1,q1⟩=>?_)
 obtain⟨c,rfl,q1⟩:=q1
 cases r1
 refine G8 ?_
 cases c with
 | true=>exact hb pins s1 σ H1 Q I1 q1
 | false=>exact⟨.bl false,H1,I1,rfl,q1⟩
theorem a6t(ha:PE X a ta):PE X (.UnaryOp .Not a pos) (a1j ta):=by
 intro pins s σ H Q I h
 refine UnaryOp_ (thn (ha pins s σ H _ I h) fun v s1 ⟨x,H1,I1,r1,q1⟩=>?_)
 obtain⟨c,rfl,q1⟩:=q1
 cases r1
 exact not_of (G8 ⟨.bl (!c),H1,I1,rfl,q1⟩)
def tIf(t:TT)(ta tb:TE):TE:=fun σ H Q=>t σ H fun c H1=>if c=true then ta σ H1 Q else tb σ H1 Q
end
def SqL(K:Fg)(H:Hp)(a:Addr)(xs:List V):Prop:=
 Rd H a (.lst xs) \/
  ∃(o:Obj) (its:Array Value) (n:Nat),K.lookup a=some o/\o.cls=.type "list" /\ o.dict=none/\o.data=.seq its n/\its.size<=b5/\f9 xs its.toList
def SqT(K:Fg)(H:Hp)(a:Addr)(xs:List V):Prop:=
 Rd H a (.tup xs) \/
  ∃(o:Obj) (its:Array Value) (n:Nat),K.lookup a=some o/\o.cls=.type "tuple" /\ o.data=.seq its n/\its.size<=b5/\f9 xs its.toList
def a9D:Value->Option V
 | .none=>some .non
 | .bool b=>some (.bl b)
 | .int i _=>some (.int i)
 | .str x _=>some (.str x)
 | .bytes b _=>some (.byt b)
 | .float b _=>some (.flt b)
 | .ref a=>some (.ref a)
 | .type n=>some (.ty n)
 | _=>none
theorem f6.abs{x:V}(r:f6 x u):a9D u=some x:=by
 cases x with
 | non=>cases r;rfl
 | bl _=>cases r;rfl
 | int _=>obtain⟨t,rfl⟩:=r;rfl
 | str _=>obtain⟨t,rfl⟩:=r;rfl
 | byt _=>obtain⟨t,rfl⟩:=r;rfl
 | flt _=>obtain⟨t,rfl⟩:=r;rfl
 | ref _=>cases r;rfl
 | ty _=>cases r;rfl
theorem f6.inj{x:V}(r:f6 x u)(q:f6 y u):x=y:=Option.some.inj (r.abs.symm.trans q.abs)
theorem f9.inj:∀ {xs ys:List V} {us:List Value},f9 xs us->f9 ys us->xs=ys
 | _,_,_,.nil,.nil=>rfl
 | _,_,_,.cons r t,.cons r' t'=>by rw[r.inj r',f9.inj t t']
section
variable {ys:List V}
theorem SqL.of{K:Fg}(h:H a=some (.lst xs)):SqL K H a xs:=.inl (.inl h)
theorem SqT.of{K:Fg}(h:H a=some (.tup xs)):SqT K H a xs:=.inl (.inl h)
theorem Inv.list(I:Inv X pins σ H s)(h:SqL X.K H a xs):∃its:List Value,f9 xs its/\PlainL s.heap a its.toArray/\xs.length<=b5:=by
 rcases h with h | ⟨o,its,n,hk,hc,hd,hs,hz,r⟩
 ·obtain⟨z,its,n,r,e⟩:=h.ok I.hok
  exact⟨its,r,⟨_,n,e,rfl,rfl,rfl⟩,z⟩
 ·refine⟨its.toList,r,⟨o,n,I.kIn a o hk,hc,hd,by simpa using hs⟩,?_⟩
  have e:=r.length
  simp only[a2B]at e
  omega
theorem Inv.tuple(I:Inv X pins σ H s)(h:SqT X.K H a xs):∃its:List Value,f9 xs its/\IsTup s.heap a its.toArray/\xs.length<=b5:=by
 rcases h with h | ⟨o,its,n,hk,hc,hs,hz,r⟩
 ·obtain⟨z,its,r,p⟩:=h.ok I.hok
  exact⟨its,r,p,z⟩
 ·refine⟨its.toList,r,⟨o,I.kIn a o hk,hc,n,by simpa using hs⟩,?_⟩
  have e:=r.length
  simp only[a2B]at e
  omega
theorem Inv.list_inj(I:Inv X pins σ H s)(h:SqL X.K H a xs)(h':SqL X.K H a ys):xs=ys:=by
 obtain⟨its,r,⟨o,n,e,_,_,d⟩,_⟩:=I.list h
 obtain⟨its',r',⟨o',n',e',_,_,d'⟩,_⟩:=I.list h'
 rw[e]at e';cases e'
 rw[d]at d'
 injection d' with d1 _
 have:its=its':=by simpa using congrArg Array.toList d1
 subst this
 exact r.inj r'
end
abbrev Cx.wish(X:Cx)(E:Value->a5->Prop):Cx:={ X with xe:=E }
abbrev Cx.nox(X:Cx):Cx:=X.wish fun _ _=>False
theorem Cx.Ok.wish(ok:X.Ok)(E:Value->a5->Prop):(X.wish E).Ok:=
 ⟨ok.mod,ok.kind,ok.glob,ok.blt,ok.above,ok.inj,ok.has,ok.cab,ok.hd,ok.frames,ok.stk,ok.exf,ok.bs,ok.bsz,ok.noex,ok.exfs,ok.funs,ok.frf⟩
theorem Cx.Ok.unwish{E:Value->a5->Prop}(ok:(X.wish E).Ok):X.Ok:=
 ⟨ok.mod,ok.kind,ok.glob,ok.blt,ok.above,ok.inj,ok.has,ok.cab,ok.hd,ok.frames,ok.stk,ok.exf,ok.bs,ok.bsz,ok.noex,ok.exfs,ok.funs,ok.frf⟩
section
variable {E:Value->a5->Prop}
theorem Inv.wish(I:Inv X pins σ H s)(E:Value->a5->Prop):Inv (X.wish E) pins σ H s:=⟨I.ok.wish E,I.os,I.bare,I.base,I.loc,I.cell,I.free,I.freeC,I.pin,I.hok,I.len⟩
theorem Inv.unwish(I:Inv (X.wish E) pins σ H s):Inv X pins σ H s:=⟨I.ok.unwish,I.os,I.bare,I.base,I.loc,I.cell,I.free,I.freeC,I.pin,I.hok,I.len⟩
theorem SP.unwish{D:R6}{f:Flow}{s':a5}(h:SP (X.wish E) pins D f s'):SP X pins D f s':=by
 cases f with
 | next=>obtain⟨σ',H',I,q⟩:=h;exact⟨σ',H',I.unwish,q⟩
 | brk=>obtain⟨σ',H',I,q⟩:=h;exact⟨σ',H',I.unwish,q⟩
 | cont=>obtain⟨σ',H',I,q⟩:=h;exact⟨σ',H',I.unwish,q⟩
 | ret u=>obtain⟨v,σ',H',I,r,q⟩:=h;exact⟨v,σ',H',I.unwish,r,q⟩
theorem PE.nox{t:TE}(h:PE X.nox e t):PE X e t:=fun pins s σ H Q I hw=>
 j7 (h pins s σ H Q (I.wish _) hw) (fun _ _ ⟨v,H',I',r,q⟩=>⟨v,H',I'.unwish,r,q⟩) fun _ _ z=>False.elim z
theorem PT.nox{t:TT}(h:PT X.nox e t):PT X e t:=fun pins s σ H Q I hw=>
 j7 (h pins s σ H Q (I.wish _) hw) (fun _ _ ⟨H',I',q⟩=>⟨H',I'.unwish,q⟩) fun _ _ z=>False.elim z
theorem PSs.nox{st:List Stmt}{t:TS}(h:PSs X.nox st t):PSs X st t:=fun pins s σ H D I hw=>
 j7 (h pins s σ H D (I.wish _) hw) (fun _ _ q=>q.unwish) fun _ _ z=>False.elim z
end
section
variable {st:Stmt}{rest:List Stmt}{t u:TS}
def A5:TS:=fun D σ H=>D.nx σ H
def r0(t u:TS):TS:=fun D σ H=>t { D with nx:=u D } σ H
theorem a4n:PSs X [] A5:=fun _ _ σ H _ I h=>O2 ⟨σ,H,I,h⟩
theorem a3j(h1:PS X st t)(h2:PSs X rest u):PSs X (st::rest) (r0 t u):=by
 intro pins s σ H D I h
 refine wpAny_execs_cons (thn (h1 pins s σ H { D with nx:=u D } I h) fun f s1 q=>?_)
 cases f with
 | next=>
  obtain⟨σ',H',I',q⟩:=q
  exact h2 pins s1 σ' H' D I' q
 | ret v=>exact q
 | brk=>exact q
 | cont=>exact q
theorem a4m(h1:PS X st t):PSs X [st] t:=by
 intro pins s σ H D I h
 refine wpAny_execs_cons (thn (h1 pins s σ H D I h) fun f s1 q=>?_)
 cases f with
 | next=>exact O2 q
 | ret v=>exact q
 | brk=>exact q
 | cont=>exact q
def a8W:TS:=fun D σ H=>D.bk σ H
def a9Q:TS:=fun D σ H=>D.ct σ H
theorem Inv.quiet(I:Inv X pins σ H s):interactive X.env=false:=by simp[interactive,I.ok.kind]
def a0c(te:TE):TS:=fun D σ H=>te σ H fun _ H1=>D.nx σ H1
theorem a4q(he:PE X e te)(hs:O3 e none pos.line X.env=pure false:=by rfl):PS X (.Expr e pos) (a0c te):=by
 intro pins s σ H D I h
 exact wpAny_Expr_any (thn (he pins s σ H _ I h) fun v s1 ⟨x,H1,I1,r1,q1⟩=>⟨σ,H1,I1,q1⟩) I.quiet hs
def M9(te:TE):TS:=fun D σ H=>te σ H D.rt
theorem a6n(he:PE X e te):PS X (.Return (some e) pos) (M9 te):=by
 intro pins s σ H D I h
 exact wpAny_Return_some (thn (he pins s σ H _ I h) fun v s1 ⟨x,H1,I1,r1,q1⟩=>⟨x,σ,H1,I1,r1,q1⟩)
def a9J:TS:=fun D _ H=>D.rt .non H
def L5(c:TT)(t u:TS):TS:=fun D σ H=>c σ H fun b H1=>if b=true then t D σ H1 else u D σ H1
theorem a7T{c:Expr}{a b:List Stmt}{tc:TT}(hc:PT X c tc)(ha:PSs X a t)(hb:PSs X b u):PS X (.If c a b pos) (L5 tc t u):=by
 intro pins s σ H D I h
 refine wpAny_If (thn (hc pins s σ H _ I h) fun d s1 ⟨H1,I1,q1⟩=>?_)
 cases d with
 | true=>exact ha pins s1 σ H1 D I1 q1
 | false=>exact hb pins s1 σ H1 D I1 q1
def a8M:TS:=fun _ _ _=>False
end
abbrev TG:=V->St->Hp->(St->Hp->Prop)->Prop
abbrev TGs:=List V->St->Hp->(St->Hp->Prop)->Prop
def PG(X:Cx)(target:Expr)(t:TG):Prop:=
 ∀(pins:List (Addr×Obj)) (s:a5) (σ:St) (H:Hp) (v:V) (u:Value) (Q:St->Hp->Prop),Inv X pins σ H s->f6 v u->t v σ H Q ->
  wpAny (model X.prog X.w) X.A (assign target X.env u) (fun _ s'=>∃σ' H',Inv X pins σ' H' s'/\Q σ' H') X.xe s
def PGs(X:Cx)(ts:List Expr)(t:TGs):Prop:=
 ∀(pins:List (Addr×Obj)) (s:a5) (σ:St) (H:Hp) (vs:List V) (us:List Value) (Q:St->Hp->Prop),Inv X pins σ H s->f9 vs us->t vs σ H Q ->
  wpAny (model X.prog X.w) X.A (assignInOrder ((assignEach ts X.env).map (·.2)) us) (fun _ s'=>∃σ' H',Inv X pins σ' H' s'/\Q σ' H') X.xe s
abbrev T0:=V->V->V->Hp->(Hp->Prop)->Prop
def a3L(X:Cx)(t:T0):Prop:=
 ∀(pins:List (Addr×Obj)) (s:a5) (σ:St) (H:Hp) (o i v:V) (ov iv u:Value) (Q:Hp->Prop),Inv X pins σ H s->f6 o ov->f6 i iv->f6 v u->t o i v H Q ->
  wpAny (model X.prog X.w) X.A (a8E ov iv u) (fun _ s'=>∃H',Inv X pins σ H' s'/\Q H') X.xe s
abbrev TIp:=V->V->Hp->VK->Prop
def PIp(X:Cx)(op:Y9)(t:TIp):Prop:=
 ∀(pins:List (Addr×Obj)) (s:a5) (σ:St) (H:Hp) (x y:V) (v u:Value) (Q:VK),Inv X pins σ H s->f6 x v->f6 y u->t x y H Q ->
  wpAny (model X.prog X.w) X.A (inplaceOp op v u) (EP X pins σ Q) X.xe s
section
def o9(i:Nat):TG:=fun v σ H Q=>Q (σ.set i (some v)) H
theorem a4v(hN:X.N.Nodup)(hi:X.N[i]? = some x)(hx:Loc X.env.scope x)(hf:X.fn x=true\/X.env.scope.names.lookup x=some .local:=by first | exact .inl rfl | exact .inr rfl | assumption):PG X (.Name x pos) (o9 i):=by
 intro pins s σ H v u Q I r h
 exact a0F (A6 I hN hi hx r (fun s' I'=>⟨_,H,I',h⟩) hf)
def b1i:TGs:=fun vs σ H Q=>vs=[]/\Q σ H
def b0j(t:TG)(u:TGs):TGs:=fun vs σ H Q=>∃v r,vs=v::r/\t v σ H fun σ' H'=>u r σ' H' Q
def b1h(K:Fg)(n:Nat)(t:TGs):TG:=fun v σ H Q=>∃a xs,v=.ref a/\SqT K H a xs/\xs.length=n/\t xs σ H Q
def a2m(to ti:TE)(t:T0):TG:=fun v σ H Q=>to σ H fun o H1=>ti σ H1 fun i H2=>t o i v H2 fun H3=>Q σ H3
theorem a6q{o i:Expr}{to ti:TE}{t:T0}(ho:PE X o to)(hi:PE X i ti)(hs:a3L X t)
  (ha:∀v,assign (.Subscript o i pos) X.env v=(do
   let ov <-K7 [v] (eval o X.env)
   let iv <-K7 [v,ov] (eval i X.env)
   standAt pos
   K7 [v,ov,iv] (a8E ov iv v)
   release [v,ov,iv] []):=by intro _;rfl):PG X (.Subscript o i pos) (a2m to ti t):=by
 intro pins s σ H v u Q I r h
 rw[ha]
 refine a6 (l7 (thn (ho pins s σ H _ I h) fun ov s1 ⟨x,H1,I1,r1,q1⟩=>?_))
 refine a6 (l7 (thn (hi pins s1 σ H1 _ I1 q1) fun iv s2 ⟨y,H2,I2,r2,q2⟩=>?_))
 refine a6 (C6 (a6 (l7 (thn (hs pins s2 σ H2 x y v ov iv u _ I2 r1 r2 r q2) fun _ s3 ⟨H3,I3,q3⟩=>?_))))
 exact wpAny_release ⟨σ,H3,I3,q3⟩
def y0(te:TE)(g:TG):TS:=fun D σ H=>te σ H fun x H1=>g x σ H1 D.nx
theorem a6p{g:TG}(he:PE X e te)(hg:PG X tg g)(hs:swapsWithSole [tg] e pos.line X.env=pure false:=by rfl)(hw:swappedStores [tg] e X.env=pure none:=by rfl)
  (h1:(assignEach [tg] X.env).map (·.2)=[assign tg X.env]:=by rfl):PS X (.Assign [tg] e pos) (y0 te g):=by
 intro pins s σ H D I h
 refine wpAny_Assign_stores (thn (he pins s σ H _ I h) fun v s1 ⟨x,H1,I1,r1,q1⟩=>?_) hs hw
 rw[h1]
 exact thn (hg pins s1 σ H1 x v _ I1 r1 q1) fun _ s2 q=>q
theorem a6m{pos':Pos}(hN:X.N.Nodup)(hi:X.N[i]? = some x)(hx:Loc X.env.scope x)(he:PE X e te)(hs:O3 e (some (.Name x pos')) pos.line X.env=pure false:=by rfl)(hf:X.fn x=true\/X.env.scope.names.lookup x=some .local:=by first | exact .inl rfl | exact .inr rfl | assumption) :
  PS X (.Assign [.Name x pos'] e pos) (y0 te (o9 i)):=by
 intro pins s σ H D I h
 refine wpAny_Assign_Name (thn (he pins s σ H _ I h) fun v s1 ⟨y,H1,I1,r1,q1⟩=>?_) hs
 exact A6 I1 hN hi hx r1 (fun s2 I2=>⟨_,H1,I2,q1⟩) hf
def b0s(i j:Nat)(ta:TA):TS:=fun D σ H=>ta σ H fun vs H1=>∃v w,vs=[v,w]/\D.nx ((σ.set i (some v)).set j (some w)) H1
def b0B(i:Nat)(te:TE)(ti:TIp):TS:=fun D σ H=>∃x,σ[i]? = some (some x)/\te σ H fun y H1=>ti x y H1 fun z H2=>D.nx (σ.set i (some z)) H2
def a1k(to ti te:TE)(tget:V->V->Hp->VK->Prop)(tip:TIp)(tset:T0):TS:=fun D σ H=>to σ H fun o H1=>ti σ H1 fun i H2=>tget o i H2 fun x H3=>te σ H3 fun y H4=>tip x y H4 fun z H5=>tset o i z H5 fun H6=>D.nx σ H6
def a7f(X:Cx)(t:V->V->Hp->VK->Prop):Prop:=
 ∀(pins:List (Addr×Obj)) (s:a5) (σ:St) (H:Hp) (o i:V) (ov iv:Value) (Q:VK),Inv X pins σ H s->f6 o ov->f6 i iv->t o i H Q ->
  wpAny (model X.prog X.w) X.A (a5G ov iv) (EP X pins σ Q) X.xe s
theorem a4r{o i:Expr}{to ti:TE}{tget:V->V->Hp->VK->Prop}{tip:TIp}{tset:T0}{op:Y9}{tpos:Pos}(ho:PE X o to)(hi:PE X i ti)(hg:a7f X tget)(he:PE X e te)(hp:PIp X op tip)(hs:a3L X tset)
  (ha:∀ov iv new,augStore i ov iv new=(do K7 [new,ov,iv] (a8E ov iv new);release [new,ov,iv] [];pure .next):=by intros;rfl):PS X (.AugAssign (.Subscript o i tpos) op e pos) (a1k to ti te tget tip tset):=by
 intro pins s σ H D I h
 refine wpAny_AugAssign_SubscriptAny (thn (ho pins s σ H _ I h) fun ov s1 ⟨x1,H1,I1,r1,q1⟩=>?_) ha
 refine thn (hi pins s1 σ H1 _ I1 q1) fun iv s2 ⟨x2,H2,I2,r2,q2⟩=>?_
 refine thn (hg pins s2 σ H2 x1 x2 ov iv _ I2 r1 r2 q2) fun old s3 ⟨x3,H3,I3,r3,q3⟩=>?_
 refine thn (he pins s3 σ H3 _ I3 q3) fun v s4 ⟨x4,H4,I4,r4,q4⟩=>?_
 refine thn (hp pins s4 σ H4 x3 x4 old v _ I4 r3 r4 q4) fun new s5 ⟨x5,H5,I5,r5,q5⟩=>?_
 exact thn (hs pins s5 σ H5 x1 x2 x5 ov iv new _ I5 r1 r2 r5 q5) fun _ s6 ⟨H6,I6,q6⟩=>⟨σ,H6,I6,q6⟩
def ipI(f:Int->Int->Int):TIp:=fun x y H Q=>∃i j,x=.int i/\y=.int j/\Q (.int (f i j)) H
theorem a6W:PIp X .Add (ipI fun i j=>i+j):=by
 intro pins s σ H x y v u Q I r1 r2 h
 obtain⟨i,j,e1,e2,q⟩:=h
 subst e1;subst e2
 obtain⟨t,rfl⟩:=r1
 obtain⟨t',rfl⟩:=r2
 exact iadd_int ⟨.int _,H,I.tok _,⟨_,rfl⟩,q⟩
end
section
def a8I(c:TT)(tb:TS):TS:=fun D σ H=>∃W:Nat->St->Hp->Prop,(∃m,W m σ H)/\∀m σ H,W m σ H ->
 c σ H fun b H1=>if b=true then ∃N:St->Hp->Prop,(∀σ' H',N σ' H'->∃m',m'<m/\W m' σ' H')/\tb { D with nx:=N,ct:=N,bk:=D.nx } σ H1 else D.nx σ H1
end
structure It where
 go:Nat->Hp->Prop
 yld:Nat->Hp->V->Hp->Prop
 stop:Nat->Hp->Prop
def u5(X:Cx)(pins:List (Addr×Obj))(H:Hp)(b:Addr):Prop:=
 H b=none/\b≠X.env.locals/\b∉X.fs/\(b∈X.ex\/X.s₀.heap.objs.size<=b)/\(∀x c,X.env.cells.lookup x=some c->c≠b)/\∀p∈X.pn++pins,p.1≠b
theorem Inv.fpOk(I:Inv X pins σ H s)(hb:s.heap.objs.size<=b)(hn:H' b=none):u5 X pins H' b:=by
 refine⟨hn,A0 (a9 I.lt hb),I.nofs hb,.inr (k6 I.sz hb),fun x c e z=>?_,fun p hp z=>?_⟩
 ·obtain⟨v,q⟩:=I.cell x c e
  exact absurd (a9 q.lt (by rw[z];exact hb)) (e6 _)
 ·exact absurd (a9 (a8 (I.pin p hp).1) (by rw[z];exact hb)) (e6 _)
structure a5b(P:b8)(w:World)(K:Fg)(tg:Expr)(J:It)(fp:List Addr)(it:Addr)(tn:Nat->Heap->Prop):Prop where
 mem:it∈fp
 obj:∀i h,tn i h->∀b∈fp,∃o,h.get? b=some o/\∀v,o.data≠.cell v
 keep:∀i h h',tn i h->(∀b∈fp,∀o,h.get? b=some o->h'.get? b=some o)->tn i h'
 item:∀(X:Cx),X.prog=P->X.w=w->X.K=K->X.calm=true->∀(i:Nat) (pins:List (Addr×Obj)) (s:a5) (σ:St) (H:Hp) (E:Value->a5->Prop),Inv X pins σ H s->(∀b∈fp,u5 X pins H b)->tn i s.heap->J.go i H ->
  wpAny (model P w) X.A (a7o (.ref it)) (fun r s1=>∃u,r=some u /\
   wpAny (model P w) X.A (D2 tg (.ref it) u) (fun _ s2=>∃x H',Inv X pins σ H' s2/\f6 x u/\J.yld i H x H'/\tn (i+1) s2.heap/\∀b∈fp,H' b=none) E s1) E s
 done:∀(X:Cx),X.prog=P->X.w=w->X.K=K->X.calm=true->∀(i:Nat) (pins:List (Addr×Obj)) (s:a5) (σ:St) (H:Hp) (E:Value->a5->Prop),Inv X pins σ H s->(∀b∈fp,u5 X pins H b)->tn i s.heap->J.stop i H ->
  wpAny (model P w) X.A (a7o (.ref it)) (fun r s1=>r=none/\Inv X pins σ H s1) E s
 self:∀(A:d8) (i:Nat) (s:a5) (Q:Value->a5->Prop) (E:Value->a5->Prop),tn i s.heap->Q (.ref it) s->wpAny (model P w) A (pyIter (.ref it)) Q E s
abbrev TI:=St->Hp->(It->Hp->Prop)->Prop
def PIE(X:Cx)(pins:List (Addr×Obj))(σ:St)(tg:Expr)(R:It->Hp->Prop)(itv:Value)(s2:a5):Prop:=
 ∃(it:Addr) (fp:List Addr) (tn:Nat->Heap->Prop) (J:It) (H':Hp),itv=.ref it/\Inv X pins σ H' s2/\a5b X.prog X.w X.K tg J fp it tn/\tn 0 s2.heap/\(∀b∈fp,u5 X pins H' b)/\R J H'
def PI(X:Cx)(tg iter:Expr)(wi:TI):Prop:=
 ∀(pins:List (Addr×Obj)) (s:a5) (σ:St) (H:Hp) (R:It->Hp->Prop),Inv X pins σ H s->wi σ H R ->
  wpAny (model X.prog X.w) X.A (eval iter X.env) (fun v s1=>wpAny (model X.prog X.w) X.A (pyIter v) (PIE X pins σ tg R) X.xe s1) X.xe s
theorem a3A{M:Model}{A:d8}{E:Value->a5->Prop}{it:Addr}{o:Obj}{n:String}{vs:Array Value}{Q:Unit->a5->Prop}(ho:s.heap.get? it=some o)(hc:o.cls=.type n)(hd:o.data=.fields vs)
  (hn:["enumerate","zip","dict_itemiterator","dict_reverseitemiterator","odict_iterator","itertools.zip_longest","itertools.pairwise"].contains n=false) (hQ:Q () s):wpAny M A (D2 tg (.ref it) u) Q E s:=by
 unfold D2
 cases tg <;> first
  | exact d7 hQ
  | (cases u <;> first
    | exact d7 hQ
    | (refine a6 (wpAny_load ho ?_)
       rw[hc,hd]
       show wpAny M A (if(["enumerate","zip","dict_itemiterator","dict_reverseitemiterator","odict_iterator","itertools.zip_longest","itertools.pairwise"].contains n&&vs[0]? == some (rawInt _))=true then _ else _) Q E s
       rw[if_neg (by intro h;rw[hn,Bool.false_and]at h;cases h)]
       exact d7 hQ))
def Itl(K:Fg)(a:Addr):It:=
 ⟨fun i H=>∃xs x,SqL K H a xs/\xs[i]? = some x,fun i H x H'=>H'=H/\∀xs,SqL K H a xs->xs[i]? = some x,fun i H=>∃xs,SqL K H a xs/\xs.length<=i⟩
def Itt(K:Fg)(a:Addr):It:=
 ⟨fun i H=>∃xs x,SqT K H a xs/\xs[i]? = some x,fun i H x H'=>H'=H/\∀xs,SqT K H a xs->xs[i]? = some x,fun i H=>∃xs,SqT K H a xs/\xs.length<=i⟩
def Itr(lo:Int)(n:Nat):It:=⟨fun i _=>i<n,fun i H x H'=>H'=H/\x=.int (lo+i),fun i _=>n<=i⟩
theorem a1N{P:b8}{K:Fg}(a it:Addr):a5b P w K tg (Itl K a) [it] it (fun i h=>h.IsListIter it a i) where
 mem:=by simp
 obj:=fun i h st b hb=>by
  have e:b=it:=by simpa using hb
  subst e
  obtain⟨o,e,c,d⟩:=st
  exact⟨o,e,fun v z=>by rw[d]at z;cases z⟩
 keep:=fun i h h' st k=>st.at fun o e=>k it (by simp) o e
 item:=by
  intro X hP hw hK hc i pins s σ H E I hf st hg
  subst hP hw hK
  obtain⟨xs,x,hq,hx⟩:=hg
  obtain⟨its,rv,p,hz⟩:=I.list hq
  obtain⟨u,hu,ru⟩:=rv.get hx
  obtain⟨f0,f1,f2,f3,f4,f5⟩:=hf it (by simp)
  refine wpAny_pyNext_list_item st p.isList (x:=u) (by simpa using hu) fun h' st' sb=>?_
  have I1:Inv X pins σ H { s with heap:=h' }:=I.turned (t':=s.toks) (fun b o hb e=>(sb.2 b hb).trans e) f0 f1 f3 f4 f5
  obtain⟨o,e,c,d⟩:=id st'
  exact⟨u,rfl,a3A (s:={ s with heap:=h' }) e c d (by decide) ⟨x,H,I1,ru,⟨rfl,fun ys hy=>by rw[I.list_inj hy hq];exact hx⟩,st',fun b hb=>(hf b hb).1⟩⟩
 done:=by
  intro X hP hw hK hc i pins s σ H E I hf st hg
  subst hP hw hK
  obtain⟨xs,hq,hx⟩:=hg
  obtain⟨its,rv,p,hz⟩:=I.list hq
  obtain⟨f0,f1,f2,f3,f4,f5⟩:=hf it (by simp)
  have hl:=rv.length
  exact wpAny_pyNext_list_end (I.ok.hd hc) st p.isList (by simp;omega) fun h' eb=>⟨rfl,I.turned (t':=s.toks) (fun b o hb e=>eb b o hb e) f0 f1 f3 f4 f5⟩
 self:=fun _ _ _ _ _ st h=>wpAny_pyIter_listiter st h
theorem P3{P:b8}{K:Fg}(it:Addr)(lo:Int)(n:Nat):a5b P w K tg (Itr lo n) [it] it (fun i h=>K9 h it (lo+(i:Nat) * 1) ((n:Int) - (i:Nat)) 1) where
 mem:=by simp
 obj:=fun i h st b hb=>by
  have e:b=it:=by simpa using hb
  subst e
  exact⟨_,st,fun v z=>by
   have z':Data.fields _=Data.cell v:=z
   cases z'⟩
 keep:=fun i h h' st k=>k it (by simp) _ st
 item:=by
  intro X hP hw hK hc i pins s σ H E I hf st hg
  subst hP hw hK
  obtain⟨f0,f1,f2,f3,f4,f5⟩:=hf it (by simp)
  have W:=Walks.range (prog:=X.prog) (w:=X.w) (I.ok.hd hc) it lo 1 n
  refine W.item i s _ _ hg st fun v h' tk hv st' kk=>?_
  obtain⟨t,rfl⟩:=hv
  have I1:Inv X pins σ H { s with heap:=h',toks:=tk }:=I.turned (fun b o hb e=>kk b o (by simpa using hb) e) f0 f1 f3 f4 f5
  refine⟨_,rfl,a3A (s:={ s with heap:=h',toks:=tk }) (n := "range_iterator") st' rfl rfl (by decide) ⟨.int (lo+i),H,I1,⟨t,?_⟩,⟨rfl,rfl⟩,st',fun b hb=>(hf b hb).1⟩⟩
  rw[Int.mul_one]
 done:=by
  intro X hP hw hK hc i pins s σ H E I hf st hg
  subst hP hw hK
  obtain⟨f0,f1,f2,f3,f4,f5⟩:=hf it (by simp)
  exact wpAny_pyNext_range_end (I.ok.hd hc) st (by have:n<=i:=hg;omega) fun h' eb=>⟨rfl,I.turned (t':=s.toks) (fun b o hb e=>eb b o hb e) f0 f1 f3 f4 f5⟩
 self:=fun _ _ _ _ _ st h=>wpAny_pyIter_rangeiter st h
section
def a1q(K:Fg)(tl:TE):TI:=fun σ H R=>tl σ H fun x H1=>∃a,x=.ref a/\(∃xs,SqL K H1 a xs)/\R (Itl K a) H1
def b1f(K:Fg)(tl:TE):TI:=fun σ H R=>tl σ H fun x H1=>∃a,x=.ref a/\(∃xs,SqT K H1 a xs)/\R (Itt K a) H1
theorem a4u{l:Expr}{tl:TE}(hl:PE X l tl):PI X tg l (a1q X.K tl):=by
 intro pins s σ H R I h
 refine thn (hl pins s σ H _ I h) fun v s1 ⟨x,H1,I1,r1,q1⟩=>?_
 obtain⟨a,e,⟨xs,hq⟩,q⟩:=q1
 subst e
 cases r1
 obtain⟨its,rv,p,hz⟩:=I1.list hq
 refine wpAny_pyIter_list p.isList ?_
 refine⟨s1.heap.objs.size,[s1.heap.objs.size],_,_,H1,rfl,I1.kept (t':=s1.toks) fun b o e=>a7 _ e,a1N a _,⟨_,g9 _ rfl,rfl,rfl⟩,fun b hb=>?_,q⟩
 have e:b=s1.heap.objs.size:=by simpa using hb
 subst e
 exact I1.fpOk (e7 _) (I1.hok.fresh (e7 _))
theorem a3g{R:It->Hp->Prop}{E:Value->a5->Prop}{lo hi:Int}{t u v:Tok}{tk:Nat}(I:Inv X pins σ H s)(h1 : -(2 ^ 62)<=lo)(h2:lo<2 ^ 62)(h3 : -(2 ^ 62)<=hi)(h4:hi<2 ^ 62)
  (q:R (Itr lo (hi - lo).toNat) H):wpAny (model X.prog X.w) X.A (pyIter (.ref s.heap.objs.size)) (PIE X pins σ tg R) E { s with heap:=s.heap.push { cls:=.type "range",data:=.fields #[.int lo t,.int hi u,.int 1 v] },toks:=tk }:=by
 refine wpAny_pyIter_range (IsRange.new ..) (small_one h1 h2 h3 h4) ?_
 have I1:Inv X pins σ H { s with heap:=s.heap.push { cls:=.type "range",data:=.fields #[.int lo t,.int hi u,.int 1 v] },toks:=tk }:=I.kept fun b o e=>a7 _ e
 refine⟨(s.heap.push { cls:=.type "range",data:=.fields #[.int lo t,.int hi u,.int 1 v] }).objs.size,[(s.heap.push { cls:=.type "range",data:=.fields #[.int lo t,.int hi u,.int 1 v] }).objs.size],_,_,H,rfl,
  I1.kept (t':=tk) fun b o e=>a7 _ e,P3 _ lo (hi - lo).toNat,?_,fun b hb=>?_,q⟩
 ·have e1:lo+((0:Nat):Int) * 1=lo:=by simp
  have e2:(((hi - lo).toNat:Nat):Int) - ((0:Nat):Int)=Builtin.Range.rangeSize lo hi 1:=by rw[rangeSize_one];split <;> omega
  show K9 _ _ (lo+((0:Nat):Int) * 1) ((((hi - lo).toNat:Nat):Int) - ((0:Nat):Int)) 1
  rw[e1,e2]
  exact g9 _ rfl
 ·have e:b=(s.heap.push { cls:=.type "range",data:=.fields #[.int lo t,.int hi u,.int 1 v] }).objs.size:=by simpa using hb
  subst e
  exact I1.fpOk (e7 _) (I1.hok.fresh (e7 _))
def R1(ta:TA):TI:=fun σ H R=>ta σ H fun vs H1=>∃j:Int,vs=[.int j] /\ -(2 ^ 62)<=j/\j<2 ^ 62/\R (Itr 0 j.toNat) H1
def b0h(ta:TA):TI:=fun σ H R=>ta σ H fun vs H1=>∃i j:Int,vs=[.int i,.int j]/\(-(2 ^ 62)<=i/\i<2 ^ 62 /\ -(2 ^ 62)<=j/\j<2 ^ 62)/\R (Itr i (j - i).toNat) H1
theorem a2c{a:Expr}{ta:TA}(hg:Gl X "range")(hm:X.mg "range" = none)(ha:PA X [a] ta)(hs:b7 [a] X.env=[(false,eval a X.env)]:=by rfl):PI X tg (.Call (.Name "range" p) [a] [] pos) (R1 ta):=by
 intro pins s σ H R I h
 refine Call_ (X3 I hg hm boot_range (M5 (thn (ha pos pins s σ H _ I h) fun us s1 ⟨vs,H1,I1,r1,q1⟩=>?_) hs rfl))
 obtain⟨j,e,q1,q2,q⟩:=q1
 subst e
 cases r1 with
 | cons r rr=>
  cases rr
  obtain⟨t,rfl⟩:=r
  exact call_range_1 (a3g I1 (by omega) (by omega) q1 q2 (by simpa using q))
def a2X(wi:TI)(g:TG)(tb:TS):TS:=fun D σ H=>wi σ H fun J H1=>∃W:Nat->Nat->St->Hp->Prop,(∃m,W 0 m σ H1)/\∀i m σ H,W i m σ H ->
 (J.stop i H/\D.nx σ H)\/(J.go i H/\∃N:St->Hp->Prop,(∀σ' H',N σ' H'->∃m',m'<m/\W (i+1) m' σ' H')/\∀x H',J.yld i H x H'->g x σ H' fun σ2 H2=>tb { D with nx:=N,ct:=N,bk:=D.nx } σ2 H2)
def D8(fp:List Addr)(h:Heap):List (Addr×Obj):=fp.filterMap fun b=>(h.get? b).map fun o=>(b,o)
theorem v8{fp:List Addr}{o:Obj}(hb:b∈fp)(e:h.get? b=some o):(b,o)∈D8 fp h:=a3T.mpr ⟨b,hb,by rw[e];rfl⟩
theorem a2h{fp:List Addr}{p:Addr×Obj}(hp:p∈D8 fp h):p.1∈fp/\h.get? p.1=some p.2:=by
 obtain⟨b,hb,e⟩:=a3T.mp hp
 cases q:h.get? b with
 | none=>rw[q]at e;cases e
 | some o=>
  rw[q]at e
  have e':(b,o)=p:=Option.some.inj e
  subst e'
  exact⟨hb,q⟩
theorem Inv.pinned{fp:List Addr}(I:Inv X pins σ H s)(hf:∀b∈fp,u5 X pins H b)(ho:∀b∈fp,∃o,s.heap.get? b=some o/\∀v,o.data≠.cell v):Inv X (pins++D8 fp s.heap) σ H s:=
 I.pins_of fun p hp=>(V5.mp hp).elim (fun z=>I.pin p (c4 _ z)) fun z=>by
  obtain⟨hb,e⟩:=a2h z
  obtain⟨f0,f1,f2,_⟩:=hf p.1 hb
  obtain⟨o,e',d⟩:=ho p.1 hb
  rw[e]at e';cases e'
  exact⟨e,f0,f1,f2,d⟩
theorem Inv.unpinned{pl:List (Addr×Obj)}(I:Inv X (pins++pl) σ H s):Inv X pins σ H s:=I.pins_of fun p hp=>I.pin p (c4 _ (g6 _ hp))
theorem a6o{iter:Expr}{body:List Stmt}{wi:TI}{g:TG}{tb:TS}(hp:PassesOwn (model X.prog X.w) X.A X.env X.xe)(hc:X.calm=true)(hi:PI X tg iter wi)(hg:PG X tg g)(hb:PSs X body tb)
  (hs:∀x,v0 iter X.env x=pure x:=by intro _;rfl):PS X (.For tg iter body [] pos) (a2X wi g tb):=by
 intro pins s σ H D I h
 refine wpAny_For (thn (hi pins s σ H _ I h) fun v s1 h1=>thn h1 fun itv s2 h2=>?_) hs
 obtain⟨it,fp,tn,J,H2,e,I2,T,st2,f2,W,⟨m0,w0⟩,turn⟩:=h2
 subst e
 have stat:∀ {H':Hp},(∀b∈fp,H' b=none)->∀b∈fp,u5 X pins H' b:=fun hn b hb=>⟨hn b hb,(f2 b hb).2⟩
 refine codeAny_forLoop_any (fun n s'=>∃i σ' H',Inv X pins σ' H' s'/\tn i s'.heap/\(∀b∈fp,H' b=none)/\W i n σ' H') ?_ m0 ⟨0,σ,H2,I2,st2,fun b hb=>(f2 b hb).1,w0⟩
 rintro n s3 ⟨i,σ3,H3,I3,st3,fr3,w3⟩
 rcases turn i n σ3 H3 w3 with ⟨stop,qn⟩ | ⟨go,N,hN,step⟩
 ·refine C9 hp (thn (T.done X rfl rfl rfl hc i pins s3 σ3 H3 X.xe I3 (stat fr3) st3 stop) fun r s4 ⟨hr,I4⟩=>?_)
  subst hr
  exact O2 ⟨σ3,H3,I4,qn⟩
 ·refine C9 hp (thn (T.item X rfl rfl rfl hc i pins s3 σ3 H3 X.xe I3 (stat fr3) st3 go) fun r s4 ⟨u,hr,h4⟩=>?_)
  subst hr
  refine C9 hp (thn h4 fun _ s5 ⟨x,H5,I5,r5,y5,st5,fr5⟩=>?_)
  have I5':=I5.pinned (stat fr5) (T.obj _ _ st5)
  refine C9 hp (thn (hg _ s5 σ3 H5 x u _ I5' r5 (step x H5 y5)) fun _ s6 ⟨σ6,H6,I6,q6⟩=>?_)
  refine C9 hp (thn (hb _ s6 σ6 H6 _ I6 q6) fun f s7 q7=>?_)
  have again:∀ {σ7:St} {H7:Hp},Inv X (pins++D8 fp s5.heap) σ7 H7 s7->N σ7 H7->∃m,m<n/\∃i σ' H',Inv X pins σ' H' s7/\tn i s7.heap/\(∀b∈fp,H' b=none)/\W i m σ' H':=fun {σ7 H7} I7 n7=>by
   obtain⟨m',hm,w7⟩:=hN σ7 H7 n7
   refine⟨m',hm,i+1,σ7,H7,I7.unpinned,T.keep _ _ _ st5 fun b hb o e=>(I7.pin (b,o) (c4 _ (c4 _ (v8 hb e)))).1,fun b hb=>?_,w7⟩
   obtain⟨o,e,d⟩:=T.obj _ _ st5 b hb
   exact(I7.pin (b,o) (c4 _ (c4 _ (v8 hb e)))).2.1
  cases f with
  | next=>obtain⟨σ7,H7,I7,n7⟩:=q7;exact again I7 n7
  | cont=>obtain⟨σ7,H7,I7,n7⟩:=q7;exact again I7 n7
  | brk=>obtain⟨σ7,H7,I7,q7⟩:=q7;exact⟨σ7,H7,I7.unpinned,q7⟩
  | ret v=>obtain⟨x7,σ7,H7,I7,r7,q7⟩:=q7;exact⟨x7,σ7,H7,I7.unpinned,r7,q7⟩
end
theorem a2n{lo:Int}{n:Nat}{g:TG}{tb:TS}{D:R6}(Pv:Nat->St->Hp->Prop)(h0:Pv 0 σ H)
  (hs:∀i σ H,i<n->Pv i σ H->g (.int (lo+i)) σ H fun σ2 H2=>tb { D with nx:=Pv (i+1),ct:=Pv (i+1),bk:=D.nx } σ2 H2) (hd:∀σ H,Pv n σ H->D.nx σ H) :
  ∃W:Nat->Nat->St->Hp->Prop,(∃m,W 0 m σ H)/\∀i m σ H,W i m σ H ->
   ((Itr lo n).stop i H/\D.nx σ H)\/((Itr lo n).go i H/\∃N:St->Hp->Prop,(∀σ' H',N σ' H'->∃m',m'<m/\W (i+1) m' σ' H')/\∀x H',(Itr lo n).yld i H x H'->g x σ H' fun σ2 H2=>tb { D with nx:=N,ct:=N,bk:=D.nx } σ2 H2):=by
 refine⟨fun i m σ H=>m=n - i/\i<=n/\Pv i σ H,⟨n,by simp,J8 _,h0⟩,?_⟩
 rintro i m σ H ⟨rfl,hi,p⟩
 by_cases hlt:i<n
 ·refine .inr ⟨hlt,Pv (i+1),fun σ' H' p'=>⟨n - (i+1),by omega,rfl,hlt,p'⟩,fun x H' y=>?_⟩
  obtain⟨e,y⟩:=y
  subst e y
  exact hs i σ _ hlt p
 ·have e:i=n:=by omega
  subst e
  exact .inl ⟨e7 _,hd σ H p⟩
abbrev R2:=V->V->Hp->VK->Prop
variable{r:R2}
def OpR(X:Cx)(f:Value->Value->Sem Value)(r:R2):Prop:=
 ∀(pins:List (Addr×Obj)) (s:a5) (σ:St) (H:Hp) (x y:V) (v u:Value) (Q:VK),Inv X pins σ H s->f6 x v->f6 y u->r x y H Q ->
  wpAny (model X.prog X.w) X.A (f v u) (EP X pins σ Q) X.xe s
def UnR(X:Cx)(f:Value->Sem Value)(r:V->Hp->VK->Prop):Prop:=
 ∀(pins:List (Addr×Obj)) (s:a5) (σ:St) (H:Hp) (x:V) (v:Value) (Q:VK),Inv X pins σ H s->f6 x v->r x H Q ->
  wpAny (model X.prog X.w) X.A (f v) (EP X pins σ Q) X.xe s
def x9(X:Cx)(f:Value)(r:List V->Hp->VK->Prop):Prop:=
 ∀(pins:List (Addr×Obj)) (s:a5) (σ:St) (H:Hp) (xs:List V) (us:List Value) (Q:VK),Inv X pins σ H s->f9 xs us->r xs H Q ->
  wpAny (model X.prog X.w) X.A (call f us) (EP X pins σ Q) X.xe s
def b1k(X:Cx)(r:V->Hp->(Bool->Hp->Prop)->Prop):Prop:=
 ∀(pins:List (Addr×Obj)) (s:a5) (σ:St) (H:Hp) (x:V) (v:Value) (Q:Bool->Hp->Prop),Inv X pins σ H s->f6 x v->r x H Q ->
  wpAny (model X.prog X.w) X.A (truthy v) (TP X pins σ Q) X.xe s
def tOp(r:R2)(ta tb:TE):TE:=fun σ H Q=>ta σ H fun x H1=>tb σ H1 fun y H2=>r x y H2 Q
def tUn(r:V->Hp->VK->Prop)(ta:TE):TE:=fun σ H Q=>ta σ H fun x H1=>r x H1 Q
def rI(C:Int->Int->Prop)(g:Int->Int->V):R2:=fun x y H Q=>∃i j,x=.int i/\y=.int j/\C i j/\Q (g i j) H
def rI0(g:Int->Int->V):R2:=fun x y H Q=>∃i j,x=.int i/\y=.int j/\Q (g i j) H
def rU(g:Int->V):V->Hp->VK->Prop:=fun x H Q=>∃i,x=.int i/\Q (g i) H
section
variable {a b c:Expr}{tb tc:TE}
theorem a7a(ha:PE X a ta)(hb:PE X b tb){R:V->V->Hp->Prop}(I:Inv X pins σ H s)
  (h:ta σ H fun x H1=>tb σ H1 fun y H2=>R x y H2) {Q:Value->a5->Prop} {f:Value->Value->Sem Value}
  (hf:∀v u s2 x y H2,Inv X pins σ H2 s2->f6 x v->f6 y u->R x y H2->wpAny (model X.prog X.w) X.A (f v u) Q X.xe s2) :
  wpAny (model X.prog X.w) X.A (eval a X.env) (fun v s₁=>wpAny (model X.prog X.w) X.A (eval b X.env) (fun u s₂=>wpAny (model X.prog X.w) X.A (f v u) Q X.xe s₂) X.xe s₁) X.xe s:=by
 refine thn (ha pins s σ H _ I h) fun v s1 ⟨x,H1,I1,r1,q1⟩=>?_
 refine thn (hb pins s1 σ H1 _ I1 q1) fun u s2 ⟨y,H2,I2,r2,q2⟩=>?_
 exact hf v u s2 x y H2 I2 r1 r2 q2
theorem a7U{op:Y9}(ho:OpR X (o1 op) r)(ha:PE X a ta)(hb:PE X b tb):PE X (.BinOp a op b pos) (tOp r ta tb):=by
 intro pins s σ H Q I h
 exact wpAny_BinOp (a7a ha hb I h fun v u s2 x y H2 I2 rx ry q=>ho pins s2 σ H2 x y v u Q I2 rx ry q)
theorem opI{f:Value->Value->Sem Value}{C:Int->Int->Prop}{g:Int->Int->Int}
  (rule:∀(i j:Int) (t u:Tok) (s:a5) (Q:Value->a5->Prop) (E:Value->a5->Prop),C i j->Q (.int (g i j) s.toks) { s with toks:=s.toks+1 }->wpAny (model X.prog X.w) X.A (f (.int i t) (.int j u)) Q E s) :
  OpR X f (rI C fun i j=>.int (g i j)):=by
 intro pins s σ H x y v u Q I rx ry h
 obtain⟨i,j,rfl,rfl,hc,q⟩:=h
 obtain⟨t,rfl⟩:=rx
 obtain⟨t',rfl⟩:=ry
 exact rule i j t t' s _ _ hc ⟨.int (g i j),H,I.tok _,⟨_,rfl⟩,q⟩
theorem a9w{f:Value->Value->Sem Value}{g:Int->Int->Int}
  (rule:∀(i j:Int) (t u:Tok) (s:a5) (Q:Value->a5->Prop) (E:Value->a5->Prop),Q (.int (g i j) s.toks) { s with toks:=s.toks+1 }->wpAny (model X.prog X.w) X.A (f (.int i t) (.int j u)) Q E s) :
  OpR X f (rI0 fun i j=>.int (g i j)):=by
 intro pins s σ H x y v u Q I rx ry h
 obtain⟨i,j,rfl,rfl,q⟩:=h
 obtain⟨t,rfl⟩:=rx
 obtain⟨t',rfl⟩:=ry
 exact rule i j t t' s _ _ ⟨.int (g i j),H,I.tok _,⟨_,rfl⟩,q⟩
theorem a6H{f:Value->Value->Sem Value}{g:Int->Int->Bool}
  (rule:∀(i j:Int) (t u:Tok) (s:a5) (Q:Value->a5->Prop) (E:Value->a5->Prop),Q (.bool (g i j)) s->wpAny (model X.prog X.w) X.A (f (.int i t) (.int j u)) Q E s) :
  OpR X f (rI0 fun i j=>.bl (g i j)):=by
 intro pins s σ H x y v u Q I rx ry h
 obtain⟨i,j,rfl,rfl,q⟩:=h
 obtain⟨t,rfl⟩:=rx
 obtain⟨t',rfl⟩:=ry
 exact rule i j t t' s _ _ ⟨.bl (g i j),H,I,rfl,q⟩
def b1o(i j:Int):Prop:=0<j/\j<1073741824
def b0n(i j:Int):Prop:=j≠0/\j.natAbs<1073741824
def a8o(i j:Int):Prop:=0<=j/\j<=1000000/\i.natAbs<2 ^ 64
def a5d(i j:Int):Prop:=(-(2 ^ 64)<i/\i<2 ^ 64)\/(-(2 ^ 64)<j/\j<2 ^ 64)
theorem a5d.ok{i j:Int}(h:a5d i j):IntMulOk i j:=by
 rcases h with ⟨h1,h2⟩ | ⟨h1,h2⟩
 ·exact .of_left (intBits_le_64 h1 h2)
 ·exact .of_right (intBits_le_64 h1 h2)
theorem a6G:OpR X (o1 .Add) (rI0 fun i j=>.int (i+j)):=a9w fun _ _ _ _ _ _ _ q=>add_int q
theorem a6D:OpR X (o1 .Mult) (rI a5d fun i j=>.int (i * j)):=opI fun _ _ _ _ _ _ _ hc q=>mul_int q hc.ok
theorem a6E:OpR X (o1 .Mod) (rI (fun _ j=>0<j) fun i j=>.int (i % j)):=opI fun i j _ _ _ _ _ hc q=>by
 have h1:(0:Int)<j:=hc
 exact mod_int' (by omega) (by rw[Int.fmod_eq_emod_of_nonneg i (by omega)];exact q)
theorem a6C:OpR X (o1 .Pow) (rI a8o fun i j=>.int (i ^ j.toNat)):=opI fun _ _ _ _ _ _ _ hc q=>pow_int_small hc.1 hc.2.1 hc.2.2 q
end
def a0e:V->V->Bool
 | .non,.non=>true | .non,.int _=>true | .int _,.non=>true | .non,.bl _=>true | .bl _,.non=>true | .non,.str _=>true | .str _,.non=>true
 | .int _,.int _=>true | .bl _,.bl _=>true | .str _,.str _=>true | .byt _,.byt _=>true
 | .int _,.str _=>true | .str _,.int _=>true | .bl _,.str _=>true | .str _,.bl _=>true
 | _,_=>false
def rEq:R2:=fun x y H Q=>a0e x y=true/\Q (.bl (decide (x=y))) H
def rNe:R2:=fun x y H Q=>a0e x y=true/\Q (.bl (!decide (x=y))) H
theorem a1t{i j:Int}:decide (V.int i=V.int j)=(i == j):=by
 rw[F2]
 simp
theorem a3D{i j:Bool}:decide (V.bl i=V.bl j)=(i == j):=by
 rw[F2]
 simp
theorem a1s{i j:Str}:decide (V.str i=V.str j)=(i == j):=by
 rw[F2]
 simp
theorem a1u{i j:Array UInt8}:decide (V.byt i=V.byt j)=(i.toList == j.toList):=by
 rw[F2]
 cases i
 cases j
 simp
section
variable {a b c:Expr}{tb tc:TE}
theorem i8{Q:VK}{k k':Bool}(I:Inv X pins σ H s)(q:Q (.bl k) H)(e:k=k'):EP X pins σ Q (.bool k') s:=by
 subst e
 exact⟨.bl k,H,I,rfl,q⟩
theorem a8c:OpR X (h9 .Eq) rEq:=by
 intro pins s σ H x y v u Q I rx ry h
 obtain⟨hs,q⟩:=h
 cases x with
 | non=>
  cases rx
  cases y with
  | non=>cases ry;exact PySem.EqNone.eq_none_none (i8 I q (by simp))
  | bl j=>cases ry;exact PySem.EqNone.eq_none_bool (i8 I q (by simp))
  | int j=>obtain⟨t',rfl⟩:=ry;exact PySem.EqNone.eq_none_int (i8 I q (by simp))
  | str j=>obtain⟨t',rfl⟩:=ry;exact PySem.EqNone.eq_none_str (i8 I q (by simp))
  | _=>exact absurd (show false=true from hs) b6
 | bl i=>
  cases rx
  cases y with
  | non=>cases ry;exact PySem.EqNone.eq_bool_none (i8 I q (by simp))
  | bl j=>cases ry;exact eq_bool (i8 I q a3D)
  | str j=>obtain⟨t',rfl⟩:=ry;exact PySem.EqMixed.eq_bool_str (i8 I q (by simp))
  | _=>exact absurd (show false=true from hs) b6
 | int i=>
  obtain⟨t,rfl⟩:=rx
  cases y with
  | non=>cases ry;exact PySem.EqNone.eq_int_none (i8 I q (by simp))
  | int j=>obtain⟨t',rfl⟩:=ry;exact eq_int (i8 I q a1t)
  | str j=>obtain⟨t',rfl⟩:=ry;exact PySem.EqMixed.eq_int_str (i8 I q (by simp))
  | _=>exact absurd (show false=true from hs) b6
 | str i=>
  obtain⟨t,rfl⟩:=rx
  cases y with
  | non=>cases ry;exact PySem.EqNone.eq_str_none (i8 I q (by simp))
  | bl j=>cases ry;exact PySem.EqMixed.eq_str_bool (i8 I q (by simp))
  | int j=>obtain⟨t',rfl⟩:=ry;exact PySem.EqMixed.eq_str_int (i8 I q (by simp))
  | str j=>obtain⟨t',rfl⟩:=ry;exact eq_str (i8 I q a1s)
  | _=>exact absurd (show false=true from hs) b6
 | byt i=>
  obtain⟨t,rfl⟩:=rx
  cases y with
  | byt j=>obtain⟨t',rfl⟩:=ry;exact PySem.W.eq_bytes (i8 I q a1u)
  | _=>exact absurd (show false=true from hs) b6
 | _=>cases y <;> exact absurd (show false=true from hs) b6
theorem a7Y:OpR X (h9 .NotEq) rNe:=by
 intro pins s σ H x y v u Q I rx ry h
 obtain⟨hs,q⟩:=h
 cases x with
 | non=>
  cases rx
  cases y with
  | non=>cases ry;exact PySem.EqNone.ne_none_none (i8 I q (by simp))
  | bl j=>cases ry;exact PySem.EqNone.ne_none_bool (i8 I q (by simp))
  | int j=>obtain⟨t',rfl⟩:=ry;exact PySem.EqNone.ne_none_int (i8 I q (by simp))
  | str j=>obtain⟨t',rfl⟩:=ry;exact PySem.EqNone.ne_none_str (i8 I q (by simp))
  | _=>exact absurd (show false=true from hs) b6
 | bl i=>
  cases rx
  cases y with
  | non=>cases ry;exact PySem.EqNone.ne_bool_none (i8 I q (by simp))
  | bl j=>cases ry;exact ne_bool (i8 I q (congrArg not a3D))
  | str j=>obtain⟨t',rfl⟩:=ry;exact PySem.EqMixed.ne_bool_str (i8 I q (by simp))
  | _=>exact absurd (show false=true from hs) b6
 | int i=>
  obtain⟨t,rfl⟩:=rx
  cases y with
  | non=>cases ry;exact PySem.EqNone.ne_int_none (i8 I q (by simp))
  | int j=>obtain⟨t',rfl⟩:=ry;exact ne_int (i8 I q (congrArg not a1t))
  | str j=>obtain⟨t',rfl⟩:=ry;exact PySem.EqMixed.ne_int_str (i8 I q (by simp))
  | _=>exact absurd (show false=true from hs) b6
 | str i=>
  obtain⟨t,rfl⟩:=rx
  cases y with
  | non=>cases ry;exact PySem.EqNone.ne_str_none (i8 I q (by simp))
  | bl j=>cases ry;exact PySem.EqMixed.ne_str_bool (i8 I q (by simp))
  | int j=>obtain⟨t',rfl⟩:=ry;exact PySem.EqMixed.ne_str_int (i8 I q (by simp))
  | str j=>obtain⟨t',rfl⟩:=ry;exact ne_str (i8 I q (congrArg not a1s))
  | _=>exact absurd (show false=true from hs) b6
 | byt i=>
  obtain⟨t,rfl⟩:=rx
  cases y with
  | byt j=>obtain⟨t',rfl⟩:=ry;exact PySem.W.ne_bytes (i8 I q (congrArg not a1u))
  | _=>exact absurd (show false=true from hs) b6
 | _=>cases y <;> exact absurd (show false=true from hs) b6
theorem a7Z:OpR X (h9 .Lt) (rI0 fun i j=>.bl (decide (i<j))):=a6H fun _ _ _ _ _ _ _ q=>lt_int q
theorem a8a:OpR X (h9 .Gt) (rI0 fun i j=>.bl (decide (j<i))):=a6H fun _ _ _ _ _ _ _ q=>gt_int q
theorem a8b:OpR X (h9 .GtE) (rI0 fun i j=>.bl (decide (j<=i))):=a6H fun _ _ _ _ _ _ _ q=>ge_int q
def b0f:HO->Bool
 | .lst _=>true
 | .ins _ _ _=>true
 | _=>false
theorem OpR.or{f:Value->Value->Sem Value}{r':R2}(h:OpR X f r)(h':OpR X f r'):OpR X f (fun x y H Q=>r x y H Q\/r' x y H Q):=by
 intro pins s σ H x y v u Q I rx ry q
 rcases q with q | q
 ·exact h pins s σ H x y v u Q I rx ry q
 ·exact h' pins s σ H x y v u Q I rx ry q
theorem a3u(b:Expr){op:CmpOp}(h:op≠.In:=by decide)(h2:op≠.NotIn:=by decide):v3 op b=false:=by
 have e1:(op == CmpOp.In)=false:=by cases op <;> first | rfl | exact absurd rfl h
 have e2:(op == CmpOp.NotIn)=false:=by cases op <;> first | rfl | exact absurd rfl h2
 cases b <;> simp[v3,e1,e2]
theorem a4z{op:CmpOp}(ho:OpR X (h9 op) r)(ha:PE X a ta)(hb:PE X b tb)(hm:v3 op b=false):PE X (.Compare a [op] [b] pos) (tOp r ta tb):=by
 intro pins s σ H Q I h
 exact wpAny_Compare1 (a7a ha hb I h fun v u s2 x y H2 I2 rx ry q=>ho pins s2 σ H2 x y v u Q I2 rx ry q) hm
def z0(t:TE):TT:=fun σ H Q=>t σ H fun x H'=>∃k,x=.bl k/\Q k H'
theorem a4l{op:CmpOp}(ho:OpR X (h9 op) r)(ha:PE X a ta)(hb:PE X b tb)(hm:v3 op b=false):PT X (.Compare a [op] [b] pos) (z0 (tOp r ta tb)):=by
 intro pins s σ H Q I h
 refine wpAny_isTrue_Compare1 (thn (ha pins s σ H _ I h) fun v s1 ⟨x,H1,I1,r1,q1⟩=>thn (hb pins s1 σ H1 _ I1 q1) fun u s2 ⟨y,H2,I2,r2,q2⟩=>
  thn (ho pins s2 σ H2 x y v u _ I2 r1 r2 q2) fun c s3 ⟨z,H3,I3,r3,k,e,q3⟩=>?_) hm
 subst e
 cases r3
 exact G8 ⟨H3,I3,q3⟩
def a5L(r r':R2)(ta tb tc:TE):TE:=fun σ H Q=>ta σ H fun x H1=>tb σ H1 fun y H2=>r x y H2 fun z H3=>∃k,z=.bl k /\
 (if k=true then tc σ H3 fun w' H4=>r' y w' H4 Q else Q (.bl false) H3)
def b1j(K:Fg)(x:V)(H:Hp)(k:Bool):Prop:=
 match x with
 | .non=>k=false
 | .bl b=>k=b
 | .int i=>k=(i != 0)
 | .str y=>y.length<=b5/\k=((y.length:Int) != 0)
 | .byt y=>y.size<=b5/\k=((y.size:Int) != 0)
 | .ref p=>(∃xs,SqL K H p xs/\k = !xs.isEmpty)\/(∃xs,SqT K H p xs/\k = !xs.isEmpty)\/∃kvs,H p=some (.dK kvs)/\k = !kvs.isEmpty
 | _=>False
theorem G0:(b5:Nat)<2 ^ 63:=by rw[sizeLine_eq];decide
theorem a0Q:OpR X (o1 .Add) (fun x y H Q=>∃i j,x=.str i/\y=.str j/\i.length+j.length<=b5/\Q (.str (i++j)) H):=by
 intro pins s σ H x y v u Q I rx ry h
 obtain⟨i,j,rfl,rfl,hz,q⟩:=h
 obtain⟨t,rfl⟩:=rx
 obtain⟨t',rfl⟩:=ry
 exact add_str (fun t' tk=>⟨.str (i++j),H,I.tok _,⟨_,rfl⟩,q⟩) hz
def a8l(b:Expr):Prop:=∀o i,a2C b false o i=operate [o,i] (a5G o i)
theorem a2U{x:V}(r:f9 [x] us):∃u,us=[u]/\f6 x u:=by
 cases r with
 | cons r1 r2=>cases r2;exact⟨_,rfl,r1⟩
theorem a5o{x:V}(r:f9 [x,y] us):∃u w',us=[u,w']/\f6 x u/\f6 y w':=by
 cases r with
 | cons r1 r2=>
  cases r2 with
  | cons r3 r4=>cases r4;exact⟨_,_,rfl,r1,r3⟩
theorem a3I:x9 X (.builtin "abs") (fun xs H Q=>∃i,xs=[.int i]/\Q (.int (if i<0 then -i else i)) H):=by
 intro pins s σ H xs us Q I r h
 obtain⟨i,rfl,q⟩:=h
 obtain⟨u,rfl,t,rfl⟩:=a2U r
 exact call_abs_int fun u tk=>⟨.int (if i<0 then -i else i),H,I.tok _,⟨_,rfl⟩,q⟩
def b1m(K:Fg)(x:V)(H:Hp)(n:Nat):Prop:=
 match x with
 | .str y=>y.length<=b5/\n=y.length
 | .byt y=>y.size<=b5/\n=y.size
 | .ref p=>(∃xs,SqL K H p xs/\n=xs.length)\/∃xs,SqT K H p xs/\n=xs.length
 | _=>False
end
structure a7g(h:Heap)(x dx C:Addr)(mA:Str->Option Value):Prop where
 obj:h.get? x=some (R9 C dx)
 ns:h.Ns1 dx mA
 ne:dx≠x
theorem U8{mA:Str->Option Value}(n:h.Ns1 dx mA):∃od,h.get? dx=some od/\∀name,T7 name od=some (mA name):=by
 obtain⟨o,es,ep,ho,hd,hk,_,hm⟩:=n
 refine⟨o,ho,fun name=>?_⟩
 have e:=hm name
 unfold nsFind findBy at e
 rw[<-Array.find?_toList]at e
 unfold T7
 rw[hd]
 dsimp only
 split
 ·rename_i y q
  rw[q]at e
  exact congrArg some e
 ·rename_i q
  rw[q]at e
  have a:es.toList.any (·.refKey)=false:=by
   rw[List.any_eq_false]
   intro y hy
   obtain⟨z,t,hkey⟩:=hk y (Array.mem_toList_iff.mp hy)
   simp[DictEntry.refKey,hkey]
  have a':¬es.toList.any (·.refKey)=true:=by rw[a];exact b6
  rw[if_neg a']
  exact congrArg some e
theorem a7g.look{x:Addr}{mA:Str->Option Value}(I:a7g h x dx C mA):∃od,PySem.W.InstAt h x (R9 C dx) C (some od)/\∀name,T7 name od=some (mA name):=
 let⟨od,ho,hl⟩:=U8 I.ns
 ⟨od,⟨I.obj,rfl,rfl,ho⟩,hl⟩
section
variable {prog:b8}{A:d8}{E:Value->a5->Prop}{K:Fg}{x:Addr}{mA:Str->Option Value}{name:Str}{v:Value}
end
def a6j(f:Str)(v:V):List (Str×V)->List (Str×V)
 | []=>[(f,v)]
 | (g,x)::r=>if g=f then (g,v)::r else (g,x)::a6j f v r
theorem a2l(r:f6 v u):PySem.W.handedIn u=true:=by
 cases v with
 | non=>cases (show u=Value.none from r);rfl
 | bl b=>cases (show u=Value.bool b from r);rfl
 | int i=>obtain⟨t,e⟩:=(show ∃t,u=Value.int i t from r);cases e;rfl
 | str x=>obtain⟨t,e⟩:=(show ∃t,u=Value.str x t from r);cases e;rfl
 | byt b=>obtain⟨t,e⟩:=(show ∃t,u=Value.bytes b t from r);cases e;rfl
 | flt b=>obtain⟨t,e⟩:=(show ∃t,u=Value.float b t from r);cases e;rfl
 | ref a=>cases (show u=Value.ref a from r);rfl
 | ty n=>cases (show u=Value.type n from r);rfl
section
variable {P:b8}{fs fs':List (Str×V)}
theorem a4R(hok:HOk P w H h)(e:H a=some (.ins C dx fs)):∃mA,a7g h a dx C mA/\(∀f,M0 (fs.lookup f) (mA f))/\PySem.Within mA (fs.map (·.1))/\fs.length<=1000/\H dx=some (.own a):=by
 obtain⟨d,z,ne,ob,mA,n,r,q⟩:=(show n9 P w H h a (.ins C dx fs)from hok a _ e)
 exact⟨mA,⟨ob,n,ne⟩,r,q,z,d⟩
end
structure Cls(K:Fg)(C:Addr):Prop where
 pg:N2 K C Str.empty=true
 hd:M4 K C=true
 po:a2x K C=true
 sa:c7 K (.ref C) "__setattr__" = some (some (.builtin "object.__setattr__"))
theorem Cls.get{K:Fg}(c:Cls K C)(f:Str):N2 K C f=true:=c.pg
def a0Z(K:Fg)(C:Addr)(f:Str):Prop:=c7 K (.ref C) f=some none
structure Con(K:Fg)(C:Addr)(f:Str)(v:V)(u:Value):Prop where
 at_:c7 K (.ref C) f=some (some u)
 rel:f6 v u
 get:A1 K u "__get__" = some none
 cp:PySem.W.copiedNames.contains f=false
structure a9E(K:Fg)(C:Addr)(m:Str)(f:Addr):Prop where
 at_:c7 K (.ref C) m=some (some (.ref f))
 fn:a0B K (.ref f)=true
 kp:l4 K (.ref f)=true
section
variable {fs:List (Str×V)}{f:Str}{A:d8}{E:Value->a5->Prop}
theorem a4V{prog:b8}{env:Env}(hb:K8 e f env (eval e env)=eval e env)
  (h:wpAny (model prog w) A (eval e env) (fun o s₁=>wpAny (model prog w) A (getAttr o f true) Q E s₁) E s):wpAny (model prog w) A (eval (.Attribute e f pos) env) Q E s:=
 Attribute_any_ h (by rw[arm_eval_Attribute,hb])
end
def b0w(K:Fg)(ta:TE)(f:Str):TE:=fun σ H Q=>ta σ H fun x H1=>∃a C dx fs v,x=.ref a/\H1 a=some (.ins C dx fs)/\Cls K C/\a0Z K C f/\fs.lookup f=some v/\Q v H1
def b0z(K:Fg)(ta:TE)(f:Str):TE:=fun σ H Q=>ta σ H fun x H1=>∃a C dx fs v u,x=.ref a/\H1 a=some (.ins C dx fs)/\Cls K C/\Con K C f v u/\fs.lookup f=none/\Q v H1
def b0E(K:Fg)(ta tv:TE)(f:Str):TS:=fun D σ H=>tv σ H fun y H1=>ta σ H1 fun x H2=>∃a C dx fs,x=.ref a/\H2 a=some (.ins C dx fs)/\Cls K C/\a0Z K C f/\fs.length<1000 /\
 D.nx σ (upd H2 a (.ins C dx (a6j f y fs)))
def b1n(X:Cx)(op:Y9)(rd:V->V->Hp->VK->Prop):Prop:=
 ∀(pins:List (Addr×Obj)) (s:a5) (σ:St) (H:Hp) (x y:V) (u v:Value) (Q:VK),Inv X pins σ H s->f6 x u->f6 y v->rd x y H Q->wpAny (model X.prog X.w) X.A (inplaceOp op u v) (EP X pins σ Q) X.xe s
def a8v(K:Fg)(ta tv:TE)(rd:V->V->Hp->VK->Prop)(f:Str):TS:=fun D σ H=>ta σ H fun x H1=>∃a C dx fs v,x=.ref a/\H1 a=some (.ins C dx fs)/\Cls K C/\a0Z K C f/\fs.lookup f=some v /\
 tv σ H1 fun y H2=>rd v y H2 fun z H3=>∃dx' fs',H3 a=some (.ins C dx' fs')/\fs'.length<1000/\D.nx σ (upd H3 a (.ins C dx' (a6j f z fs')))
section
variable {o value:Expr}{f:Str}{pos' tpos:Pos}{tv:TE}
def b0L:V->V->Hp->VK->Prop:=fun x y H Q=>∃i j,x=.int i/\y=.int j/\Q (.int (i+j)) H
def b0F:V->V->Hp->VK->Prop:=fun x y H Q=>∃i j,x=.int i/\y=.int j/\Q (.int (i - j)) H
end
section
variable {A:d8}{E:Value->a5->Prop}{c:Value}{b:Bool}
inductive L9(K:Fg)(H:Hp):V->Value->Prop where
 | non:L9 K H .non (.type "NoneType")
 | bl (x:Bool):L9 K H (.bl x) (.type "bool")
 | int (i:Int):L9 K H (.int i) (.type "int")
 | str (x:Str):L9 K H (.str x) (.type "str")
 | flt (x:UInt64):L9 K H (.flt x) (.type "float")
 | lst {a:Addr} {xs:List V} (e:H a=some (.lst xs)):L9 K H (.ref a) (.type "list")
 | frz {a:Addr} {o:Obj} {xs:List V} (e:H a=some (.frz o (.lst xs))):L9 K H (.ref a) (.type "list")
 | tup {a:Addr} {xs:List V} (e:H a=some (.tup xs)):L9 K H (.ref a) (.type "tuple")
 | dK {a:Addr} {kvs:List (Key×V)} (e:H a=some (.dK kvs)):L9 K H (.ref a) (.type "dict")
 | dT {a:Addr} {kvs:List (List Key×V)} (e:H a=some (.dT kvs)):L9 K H (.ref a) (.type "dict")
 | ins {a C dx:Addr} {fs:List (Str×V)} (e:H a=some (.ins C dx fs)) (cl:Cls K C) (ha:c7 K (.ref C) "__class__" = some (some (.builtin "object.__class__")))
   (hn:A1 K (.builtin "object.__class__") "__get__" = some (some (.builtin "getset_descriptor.__get__"))) (htk:R8 K (.builtin "object.__class__")=some true)
   (hm:w6 K C (.type "object")=some true):L9 K H (.ref a) (.ref C)
theorem a2i{x:V}{t:Value}(I:Inv X pins σ H s)(rx:f6 x u)(ty:L9 X.K H x t)(e:p7 X.K t c=some b)(h:∀tk,Q (.bool b) { s with toks:=tk }) :
  wpAny (model X.prog X.w) A (call (.builtin "isinstance") [u,c]) Q E s:=by
 cases ty with
 | non=>cases (show u=Value.none from rx);exact h8 PySem.W.kitx_none I.kIn True.intro e (fun z=>nomatch z) h
 | bl y=>cases (show u=Value.bool y from rx);exact h8 PySem.W.kitx_bool I.kIn True.intro e (fun z=>nomatch z) h
 | int i=>obtain⟨t,q⟩:=(show ∃t,u=Value.int i t from rx);cases q;exact h8 PySem.W.kitx_int I.kIn True.intro e (fun z=>nomatch z) h
 | str y=>obtain⟨t,q⟩:=(show ∃t,u=Value.str y t from rx);cases q;exact h8 PySem.W.kitx_str I.kIn True.intro e (fun z=>nomatch z) h
 | flt y=>obtain⟨t,q⟩:=(show ∃t,u=Value.float y t from rx);cases q;exact h8 PySem.W.kitx_float I.kIn True.intro e (fun z=>nomatch z) h
 | @lst a xs ea=>
  cases (show u=Value.ref a from rx)
  obtain⟨_,_,n,_,h1⟩:=(show n9 X.prog X.w H s.heap a (.lst xs)from I.hok a _ ea)
  exact h8 a2y I.kIn ⟨_,h1,rfl⟩ e (fun z=>nomatch z) h
 | @frz a ob xs ea=>
  cases (show u=Value.ref a from rx)
  obtain⟨_,_,_,n,_,h1⟩:=(show n9 X.prog X.w H s.heap a (.frz ob (.lst xs))from I.hok a _ ea)
  exact h8 a2y I.kIn ⟨_,h1,rfl⟩ e (fun z=>nomatch z) h
 | @tup a xs ea=>
  cases (show u=Value.ref a from rx)
  obtain⟨_,_,_,p⟩:=(show n9 X.prog X.w H s.heap a (.tup xs)from I.hok a _ ea)
  obtain⟨o,h1,h2,_⟩:=p
  exact h8 PySem.W.kitx_tuple I.kIn ⟨o,h1,h2⟩ e (fun z=>nomatch z) h
 | @dK a kvs ea=>
  cases (show u=Value.ref a from rx)
  obtain⟨_,_,vs,_,p⟩:=(show n9 X.prog X.w H s.heap a (.dK kvs)from I.hok a _ ea)
  obtain⟨o,es,ep,h1,h2,_⟩:=p
  exact h8 a2z I.kIn ⟨o,h1,h2.1⟩ e (fun z=>nomatch z) h
 | @dT a kvs ea=>
  cases (show u=Value.ref a from rx)
  obtain⟨_,_,xs,_,o,es,ep,h1,h2,_⟩:=(show n9 X.prog X.w H s.heap a (.dT kvs)from I.hok a _ ea)
  exact h8 a2z I.kIn ⟨o,h1,h2.1⟩ e (fun z=>nomatch z) h
 | @ins a C dx fs ea cl ha hn htk hm=>
  cases (show u=Value.ref a from rx)
  obtain⟨mA,O,_⟩:=a4R I.hok ea
  obtain⟨od,J,_⟩:=O.look
  exact h8 (PySem.W.kitx_own (cl.get _) cl.hd ha hn htk hm) I.kIn J e (fun z=>nomatch z) h
end
structure n0(k:Nat)(A:d8):Prop where
 hd:A.handled=none
 dp:A.depth+3 * k+5<recursionLimit
 un:A.units+16 * k+200<cLine
 gd:A.guards=some []
theorem n0.mono{j k:Nat}{A:d8}(r:n0 k A)(h:j<=k):n0 j A:=⟨r.hd,by have:=r.dp;omega,by have:=r.un;omega,r.gd⟩
theorem n0.deeper{k:Nat}{A:d8}(r:n0 (k+1) A)(env:Env):n0 k (A.deeper env):=
 ⟨r.hd,by have:=r.dp;show A.depth+1+3 * k+5<_;omega,by have:=r.un;show A.units+3+16 * k+200<_;omega,r.gd⟩
theorem n0.in1{k:Nat}{A:d8}(r:n0 (k+1) A):n0 k A.in1:=
 ⟨r.hd,by have:=r.dp;show A.depth+3 * k+5<_;omega,by have:=r.un;show A.units+1+16 * k+200<_;omega,r.gd⟩
theorem a0V{A:d8}{kw:List (Str×Value)}:(A.under (.builtin "type.__call__" ⟨.ref C::us,kw⟩)).depth=A.depth+1:=by
 first | rfl | simp[Around.under,Code.weight,Code.isCreation,Code.isGuard,Code.isCaller,Code.frames,Code.isFrame,guardIds]
theorem a0U{A:d8}{kw:List (Str×Value)}:(A.under (.builtin "type.__call__" ⟨.ref C::us,kw⟩)).units=A.units+1:=by
 first | rfl | simp[Around.under,Code.cUnits,Code.frames,Code.isFrame]
theorem a0o{A:d8}{kw:List (Str×Value)}:(A.under (.builtin "type.__call__" ⟨.ref C::us,kw⟩)).guards=A.guards:=by
 first | rfl | simp[Around.under,Code.isGuard,guardIds,Code.guards]
theorem n0.make{k:Nat}{A:d8}(r:n0 (k+1) A)(C:Addr)(us:List Value)(kw:List (Str×Value)):n0 k (A.under (.builtin "type.__call__" ⟨.ref C::us,kw⟩)):=
 ⟨r.hd,by have:=r.dp;rw[a0V];omega,by have:=r.un;rw[a0U];omega,by rw[a0o];exact r.gd⟩
theorem n0.depth{k:Nat}{A:d8}(r:n0 k A):A.depth<recursionLimit:=by have:=r.dp;omega
theorem n0.units{k:Nat}{A:d8}(r:n0 k A):A.units+64<cLine:=by have:=r.un;omega
theorem n0.units0{k:Nat}{A:d8}(r:n0 k A):A.units<cLine:=by have:=r.un;omega
def t7:TA:=fun _ H Q=>Q [] H
def f8(ta:TE)(tr:TA):TA:=fun σ H Q=>ta σ H fun x H1=>tr σ H1 fun xs H2=>Q (x::xs) H2
section
variable {t:TA}
theorem a6y:PA X [] t7:=fun _ _ _ _ H Q I h=>Calls.spliced_nil ⟨[],H,I,.nil,h⟩
theorem a4C(ha:PE X e te)(hr:PA X es t)(hs:b7 (e::es) X.env=(false,eval e X.env)::b7 es X.env:=by rfl):PA X (e::es) (f8 te t):=by
 intro pos pins s σ H Q I h
 rw[hs]
 show wpAny _ _ (spliced ((false,eval e X.env)::F3 pos (b7 es X.env))) _ _ s
 refine Calls.spliced_cons (thn (ha pins s σ H _ I h) fun u s1 ⟨x,H1,I1,r1,q1⟩=>?_)
 exact thn (hr pos pins s1 σ H1 _ I1 q1) fun us s2 ⟨xs,H2,I2,r2,q2⟩=>⟨x::xs,H2,I2,.cons r1 r2,q2⟩
def a8J(t:TA):TE:=fun σ H Q=>t σ H fun xs H1=>xs.length<=b5/\∀p,H1 p=none->Q (.ref p) (upd H1 p (.tup xs))
def a0J(t:TA):TE:=fun σ H Q=>t σ H fun xs H1=>xs.length<=b5/\∀p,H1 p=none->Q (.ref p) (upd H1 p (.lst xs))
theorem a6v(h:PA X es t):PE X (.List es pos) (a0J t):=by
 intro pins s σ H Q I hq
 refine wpAny_List_spliced (thn (h pos pins s σ H _ I hq) fun us s1 ⟨xs,H1,I1,r,z,q⟩=>⟨by rw[<-r.length];exact z,?_⟩)
 have hf:H1 s1.heap.objs.size=none:=I1.hok.fresh (e7 _)
 refine⟨.ref s1.heap.objs.size,upd H1 s1.heap.objs.size (.lst xs),I1.laid (t':=s1.toks) (fun b u e=>a7 _ e) (e7 _) ?_,rfl,q _ hf⟩
 exact⟨z,us,0,r,g9 _ rfl⟩
end
abbrev Sp:=List V->Hp->VK->XK->Prop
variable{sp:Sp}
abbrev CXT:=List Env->Hp->a5->XK->Value->a5->Prop
variable{CX:CXT}
structure T3(P:b8)(w:World)(K:Fg)(mg:Str->Option Value)(base:Heap)(A:d8)(outer:List Env)(s:a5)(H:Hp):Prop where
 frames:A.frames=some outer
 mod:Mod K mg base
 bs:∀b o,base.get? b=some o->s.heap.get? b=some o/\H b=none
 bsz:base.objs.size<=s.heap.objs.size
 funs:s.heap.FunFrames base outer
 frf:∀b∈frs outer,H b=none
 hok:HOk P w H s.heap
 bare:O6 s.gens
def CE(outer:List Env)(P:b8)(w:World)(H:Hp)(s:a5)(Q:VK)(u:Value)(s':a5):Prop:=
 ∃v H',s'.os=s.os/\O6 s'.gens/\Un (frs outer) [] H H' s.heap s'.heap/\HOk P w H' s'.heap/\f6 v u/\Q v H'
def CR(CX:CXT)(outer:List Env)(P:b8)(w:World)(H:Hp)(s:a5)(Q:VK)(E:XK)(r:a1c)(s':a5):Prop:=
 match r with
 | .ok (.ret u)=>CE outer P w H s Q u s'
 | .ok _=>False
 | .error e=>CX outer H s E e s'
structure n8(P:b8)(w:World)(K:Fg)(mg:Str->Option Value)(base:Heap)(CX:CXT)(k:Nat)(f:Addr)(fd:o5)(ps:List Str)(sp:Sp):Prop where
 len:∀vs H Q E,sp vs H Q E->vs.length=ps.length
 run:∀(A:d8) (outer:List Env) (s:a5) (H:Hp) (args:Args) (us:List Value) (vs:List V) (Q:VK) (E:XK),n0 k A->T3 P w K mg base A outer s H->a2F s fd args (ps.zip us)->f9 vs us->sp vs H Q E ->
  D3 (model P w) A (.call (.ref f) args) (CR CX outer P w H s Q E) s
theorem n8.mono{P:b8}{K:Fg}{j k:Nat}(F:n8 P w K mg base CX j f fd ps sp)(h:j<=k) :
  n8 P w K mg base CX k f fd ps sp:=⟨F.len,fun A outer s H args us vs Q E hr=>F.run A outer s H args us vs Q E (hr.mono h)⟩
theorem n8.imp{P:b8}{K:Fg}{k:Nat}{sp':Sp}(F:n8 P w K mg base CX k f fd ps sp)
  (h:∀vs H Q E,sp' vs H Q E->sp vs H Q E):n8 P w K mg base CX k f fd ps sp':=
 ⟨fun vs H Q E q=>F.len vs H Q E (h _ _ _ _ q),fun A outer s H args us vs Q E hr he hb hv hs=>F.run A outer s H args us vs Q E hr he hb hv (h _ _ _ _ hs)⟩
theorem T3.make{P:b8}{K:Fg}{A:d8}{outer:List Env}(e:T3 P w K mg base A outer s H)(C:Addr)(us:List Value)(kw:List (Str×Value)) :
  T3 P w K mg base (A.under (.builtin "type.__call__" ⟨.ref C::us,kw⟩)) outer s H:=⟨by first | exact e.frames | (simpa[Around.under,Code.envs,Code.isFrame,pushEnvs]using e.frames),e.mod,e.bs,e.bsz,e.funs,e.frf,e.hok,e.bare⟩
theorem T3.in1{P:b8}{K:Fg}{A:d8}{outer:List Env}(e:T3 P w K mg base A outer s H) :
  T3 P w K mg base A.in1 outer s H:=⟨e.frames,e.mod,e.bs,e.bsz,e.funs,e.frf,e.hok,e.bare⟩
section
variable {s':a5}
theorem Inv.env0(I:Inv X pins σ H s):T3 X.prog X.w X.K X.mg X.base X.A X.stack s H:=
 ⟨I.ok.frames,I.ok.mod,I.bs,k6 I.ok.bsz I.sz,I.stack,I.stkFree,I.hok,I.bare⟩
theorem Inv.after{Q:VK}(I:Inv X pins σ H s)(h:CE X.stack X.prog X.w H s Q u s'):EP X pins σ Q u s':=by
 obtain⟨v,H',os,bare,un,hok,r,q⟩:=h
 obtain⟨hh,g,d,t,os'⟩:=s'
 obtain rfl:os'=s.os:=os
 exact⟨v,H',I.call (h':=hh) (g':=g) (d':=d) (t':=t) (ch:=[]) un hok bare (fun b z=>absurd z (by simp)),r,q⟩
end
def C3(sp:Sp)(dvs:List V)(E:XK)(t:TA):TE:=fun σ H Q=>t σ H fun vs H1=>sp (vs++dvs) H1 Q E
def a9L(C:Addr)(m:Str)(sp:Sp)(dvs:List V)(E:XK)(ta:TE)(t:TA):TE:=fun σ H Q=>ta σ H fun x H1=>∃a dx fs,x=.ref a/\H1 a=some (.ins C dx fs)/\fs.lookup m=none /\
 t σ H1 fun vs H2=>sp (x::(vs++dvs)) H2 Q E
def a9M(C:Addr)(sp:Sp)(dvs:List V)(E:XK)(t:TA):TE:=fun σ H Q=>t σ H fun vs H1=>∀x dx,H1 x=none->H1 dx=none->dx≠x ->
 sp (.ref x::(vs++dvs)) (upd (upd H1 dx (.own x)) x (.ins C dx [])) (fun v H2=>v=.non/\Q (.ref x) H2) E
def C5(K:Fg)(fd:o5)(ps:List Str)(ds:List Value):Prop:=
 ∀(s:a5) (us:List Value),K.In s.heap->(us++ds).length=ps.length->a2F s fd ⟨us,[]⟩ (ps.zip (us++ds))
theorem C5.all{K:Fg}(h:∀us:List Value,us.length=ps.length->bindArgs fd ⟨us,[]⟩=pure (ps.zip us)):C5 K fd ps []:=fun s us _ hl=>by
 rw[u7]at hl ⊢
 exact .of_eq (h us hl)
def Y4(CX:CXT)(X:Cx)(E:XK):Prop:=∀(pins:List (Addr×Obj)) (σ:St) (H:Hp) (s:a5) (e:Value) (s':a5),Inv X pins σ H s->CX X.stack H s E e s'->X.xe e s'
section
variable {k:Nat}{dvs:List V}{ds:List Value}{E:XK}{m:Str}{apos:Pos}{o:Expr}{t:TA}
theorem a5Z{Q:VK}{vs:List V}(F:n8 X.prog X.w X.K X.mg X.base CX k f fd ps sp)(hr:n0 k X.A)(hb:C5 X.K fd ps ds)(hd:f9 dvs ds)(hx:Y4 CX X E)
  (I:Inv X pins σ H s) (r:f9 vs us) (h:sp (vs++dvs) H Q E):wpAny (model X.prog X.w) X.A (call (.ref f) us) (EP X pins σ Q) X.xe s:=by
 have r2:f9 (vs++dvs) (us++ds):=r.append hd
 have hl:(us++ds).length=ps.length:=by rw[<-r2.length];exact F.len _ _ _ _ h
 refine wpAny_call (O4 (F.run X.A X.stack s H ⟨us,[]⟩ (us++ds) (vs++dvs) Q E hr I.env0 (hb s us I.kIn hl) r2 h) fun r s' hq=>?_)
 cases r with
 | error e=>exact hx pins σ H s e s' I hq
 | ok fl=>
  cases fl with
  | ret u=>exact I.after hq
  | next=>exact False.elim hq
  | brk=>exact False.elim hq
  | cont=>exact False.elim hq
theorem a4A(F:n8 X.prog X.w X.K X.mg X.base CX k f fd ps sp)(hr:n0 k X.A)(hg:Gl X x)(hm:X.mg x=some (.ref f))(hk:l4 X.K (.ref f)=true)(hb:C5 X.K fd ps ds)(hd:f9 dvs ds)(hx:Y4 CX X E)
  (ha:PA X (e::es) t) (hdb:(x == ("__debug__" : Str))=false:=by decide) (he:b7 (e::es) X.env=(false,eval e X.env)::b7 es X.env:=by rfl) (hpl:(F3 pos (b7 es X.env)).any (·.1)=false:=by rfl) :
  PE X (.Call (.Name x p) (e::es) [] pos) (C3 sp dvs E t):=by
 intro pins s σ H Q I h
 refine y3 (E7 I hg hm ?_ hdb)
 refine J7 (h₀:=X.base) I.ok.mod.kin hk (thn (ha pos pins s σ H _ I h) fun us s1 ⟨vs,H1,I1,r,q⟩=>⟨I1.kIn,?_⟩) he hpl
 exact a5Z F hr hb hd hx I1 r q
structure Mk(K:Fg)(C f:Addr):Prop where
 makes:a3R K C=true
 init:c7 K (.ref C) "__init__" = some (some (.ref f))
 fn:a0B K (.ref f)=true
 kp:l4 K (.ref C)=true
end
def PK(X:Cx)(kws:List a5H)(t:TA):Prop:=
 ∀(pos:Pos) (pins:List (Addr×Obj)) (s:a5) (σ:St) (H:Hp) (Q:List V->Hp->Prop),Inv X pins σ H s->t σ H Q->wpAny (model X.prog X.w) X.A (evalAll ((backToKw pos (a8G kws X.env)).map (·.2))) (AP X pins σ Q) X.xe s
section
variable {k:Nat}{ks:List Str}{E:XK}{m:Str}{apos kpos:Pos}{o:Expr}{kws:List a5H}{t tk:TA}{nm:Option Str}
structure a9G(K:Fg)(fd:o5)(ps ks:List Str)(g:List Value->List Value->List Value)(gV:List V->List V->List V):Prop where
 to:∀(s:a5) (us ws:List Value),K.In s.heap->(g us ws).length=ps.length->a2F s fd ⟨us,ks.zip ws⟩ (ps.zip (g us ws))
 rel:∀ {vs:List V} {us:List Value} {zs:List V} {ws:List Value},f9 vs us->f9 zs ws->f9 (gV vs zs) (g us ws)
def a8V(sp:Sp)(gV:List V->List V->List V)(E:XK)(t tk:TA):TE:=fun σ H Q=>t σ H fun vs H1=>tk σ H1 fun zs H2=>sp (gV vs zs) H2 Q E
variable {g:List Value->List Value->List Value}{gV:List V->List V->List V}
end
structure l9(N P:List Str)(sc:Scope):Prop where
 kind:sc.kind=.function
 co:sc.isCoroutine=false
 gen:sc.isGenerator=false
 nd:N.Nodup
 pre:N.take P.length=P
 par:∀x∈P,sc.names.lookup x=some .local\/sc.names.lookup x=some .cell
 nofree:∀y∈sc.names,y.2≠.free
theorem V0{kindOf:Str->Option F4}:∀ {binds:List (Str×Value)} {m:Str->Option Value},(∀v,(x,v)∉binds)->bindL kindOf binds m x=m x
 | [],_,_=>rfl
 | (n,v)::r,m,h=>by
  unfold bindL
  rw[V0 fun w hw=>h w (m5 _ hw)]
  split
  ·have:x≠n:=by rintro rfl;exact h v A2
   simp[this]
  ·rfl
theorem V2{kindOf:Str->Option F4}:∀ {binds:List (Str×Value)} {m:Str->Option Value},(∀v,(x,v)∉binds)->bindC kindOf binds m x=m x
 | [],_,_=>rfl
 | (n,v)::r,m,h=>by
  unfold bindC
  rw[V2 fun w hw=>h w (m5 _ hw)]
  split
  ·rfl
  ·have:x≠n:=by rintro rfl;exact h v A2
   simp[this]
theorem V1{kindOf:Str->Option F4}{v:Value}:∀ {P:List Str} {vs:List Value} {i:Nat} {m:Str->Option Value},P.Nodup->P[i]? = some x->vs[i]? = some v->kindOf x=some .local ->
  bindL kindOf (P.zip vs) m x=some v
 | [],_,_,_,_,h,_,_=>by simp at h
 | _::_,[],_,_,_,_,h,_=>by simp at h
 | p::P,w::vs,0,m,nd,h1,h2,hk=>by
  simp at h1 h2;subst h1;subst h2
  show bindL kindOf ((p,w)::P.zip vs) m p=_
  unfold bindL
  rw[V0 fun v hv=>(F1.mp nd).1 (V4 hv).1,if_pos hk]
  simp
 | p::P,w::vs,i+1,m,nd,h1,h2,hk=>by
  show bindL kindOf ((p,w)::P.zip vs) m x=_
  unfold bindL
  exact V1 (i:=i) (F1.mp nd).2 (by simpa using h1) (by simpa using h2) hk
theorem V3{kindOf:Str->Option F4}{v:Value}:∀ {P:List Str} {vs:List Value} {i:Nat} {m:Str->Option Value},P.Nodup->P[i]? = some x->vs[i]? = some v->kindOf x≠some .local ->
  bindC kindOf (P.zip vs) m x=some v
 | [],_,_,_,_,h,_,_=>by simp at h
 | _::_,[],_,_,_,_,h,_=>by simp at h
 | p::P,w::vs,0,m,nd,h1,h2,hk=>by
  simp at h1 h2;subst h1;subst h2
  show bindC kindOf ((p,w)::P.zip vs) m p=_
  unfold bindC
  rw[V2 fun v hv=>(F1.mp nd).1 (V4 hv).1,if_neg hk]
  simp
 | p::P,w::vs,i+1,m,nd,h1,h2,hk=>by
  show bindC kindOf ((p,w)::P.zip vs) m x=_
  unfold bindC
  exact V3 (i:=i) (F1.mp nd).2 (by simpa using h1) (by simpa using h2) hk
def F5(N:List Str)(vs:List V):St:=vs.map some++G3 (N.length - vs.length) none
def L7(CX:CXT)(P:b8)(w:World)(K:Fg)(mg:Str->Option Value)(base:Heap)(N:List Str)(qual:Str)(scope:Scope)(f:Addr)(cd:Value)(A:d8)(outer:List Env)(s:a5)(H:Hp)(E:XK):Cx where
 prog:=P
 w:=w
 K:=K
 mg:=mg
 base:=base
 A:=A.deeper (T9 qual scope s.heap.objs.size f cd)
 N:=N
 s₀:=s
 H₀:=H
 env:=T9 qual scope s.heap.objs.size f cd
 outer:=outer
 stack:=T9 qual scope s.heap.objs.size f cd::outer
 ex:=[]
 calm:=true
 fn:=fun _=>true
 pn:=[]
 xe:=fun e s'=>wpAny (model P w) (A.deeper (T9 qual scope s.heap.objs.size f cd)) (leaving (T9 qual scope s.heap.objs.size f cd) e) (fun _ s''=>CX outer H s E e s'') (fun e' s''=>CX outer H s E e' s'') s'
theorem a0w{sc:Scope}{n:Nat}(h:sc.names.lookup x=some .cell):∃c,(cellsFrom n sc.names []).lookup x=some c:=by
 have q:=a0C sc.names n [] (.inl h)
 exact B7.mp q
theorem a2j{P:b8}{K:Fg}{N:List Str}{qual:Str}{scope:Scope}{cd:Value}{A:d8}{outer:List Env}{s1:a5}{E:XK}{vs:List V}
  (S:l9 N ps scope) (hd:A.handled=none) (e0:T3 P w K mg base A outer s H) (hl:vs.length=ps.length) (r:f9 vs us)
  (x:InCallC s s.heap.objs.size (bindL (T9 qual scope s.heap.objs.size f cd).kindOf (ps.zip us) fun _=>none) (cellsFrom (s.heap.objs.size+1) scope.names []) (bindC (T9 qual scope s.heap.objs.size f cd).kindOf (ps.zip us) fun _=>none) s1) :
  Inv (L7 CX P w K mg base N qual scope f cd A outer s H E) [] (F5 N vs) H s1:=by
 have hpl:ps.length<=N.length:=by have:=congrArg List.length S.pre;rw[S2]at this;omega
 obtain⟨h1,tk,rfl,hk⟩:=x.done
 have noA:∀b:Addr,b∉(L7 CX P w K mg base N qual scope f cd A outer s H E).ex:=fun b z=>absurd (show b∈([]:List Addr)from z) (by simp)
 refine⟨⟨e0.mod,S.kind,rfl,rfl,e7 _,fun y z c h1 h2=>?_,fun y hy=>?_,fun y c _ h=>?_,fun _=>hd,Around.frames_deeper e0.frames,.inr ⟨rfl,rfl⟩,fun b z=>absurd z (noA b),e0.bs,e0.bsz,fun b _ _=>noA b,fun b z=>absurd z (noA b),e0.funs,e0.frf⟩,
  rfl,e0.bare,Un.kept hk,⟨_,x.toInCall.ns,fun i y v h1 h2 h3=>?_⟩,fun y c h=>⟨_,x.cell y c h⟩,e0.hok.fresh (e7 _),fun y c h=>?_,fun p hp=>absurd (show p∈([]:List (Addr×Obj))from hp) (by simp),e0.hok.kept hk,?_⟩
 ·exact name_of_addr x.apart (g5 h1) (g5 h2)
 ·have hy:scope.names.lookup y=some .cell\/scope.names.lookup y=some .free:=hy
  rcases hy with hy | hy
  ·exact a0w hy
  ·exact absurd rfl (S.nofree _ (g5 hy))
 ·exact S1 (x.above y c (g5 h))
 ·have hi:i<vs.length:=by
   unfold F5 at h2
   by_cases hi:i<vs.length
   ·exact hi
   ·rw[List.getElem?_append_right (by simpa using hi)]at h2
    rw[List.getElem?_replicate]at h2
    split at h2 <;> cases h2
  have ha:vs[i]? = some v:=by
   unfold F5 at h2
   rw[List.getElem?_append_left (by simpa using hi),C2]at h2
   cases e:vs[i]? with
   | none=>rw[e]at h2;cases h2
   | some a=>rw[e]at h2;cases h2;rfl
  obtain⟨u,hu,rv⟩:=r.get ha
  have hp:ps[i]? = some y:=by
   rw[<-S.pre,List.getElem?_take_of_lt (by omega)];exact h1
  have ndP:ps.Nodup:=by rw[<-S.pre];exact S.nd.sublist (List.take_sublist _ _)
  refine⟨u,rv,?_⟩
  rcases S.par y (G4 hp)with k | k
  ·exact .inl ⟨k,V1 ndP hp hu k⟩
  ·obtain⟨c,e⟩:=a0w (n:=s.heap.objs.size+1) k
   refine .inr ⟨.inl k,c,e,?_⟩
   have q:=x.cell y c e
   rw[V3 ndP hp hu (by show scope.names.lookup y≠_;rw[k];decide)]at q
   exact q
 ·exact e0.hok.fresh (S1 (x.above y c (g5 h)))
 ·unfold F5
  show _=N.length
  rw[M7,o7,List.length_replicate]
  omega
theorem a5x{P:b8}{K:Fg}{k:Nat}{name qual:Str}{params:Arguments}{body:List Stmt}{scope:Scope}{dV kV doc pm cdv ct oc:Value}{an od:Option Addr}
  {osl:Array (Option Value)} {N ps:List Str} {sp:Sp} (lk:K.lookup f=some ⟨oc,od,.func (p8 name qual params body scope dV kV doc pm an cdv ct),osl⟩) (hcd:F0 K cdv qual=true) (S:l9 N ps scope)
  (len:∀vs H Q E,sp vs H Q E->vs.length=ps.length)
  (hbody:∀(A:d8) (outer:List Env) (s:a5) (H:Hp) (vs:List V) (Q:VK) (E:XK),n0 k (A.deeper (T9 qual scope s.heap.objs.size f cdv))->sp vs H Q E ->
   ∃t,PSs (L7 CX P w K mg base N qual scope f cdv A outer s H E) body t/\t { nx:=fun _ H'=>Q .non H',rt:=Q } (F5 N vs) H) :
  n8 P w K mg base CX (k+1) f (p8 name qual params body scope dV kV doc pm an cdv ct) ps sp:=by
 refine⟨len,fun A outer s H args us vs Q E hr e0 hb r hsp=>?_⟩
 have hl:=len _ _ _ _ hsp
 have KX:K.In s.heap:=e0.mod.kin.keeps fun b o e=>(e0.bs b o e).1
 have lim:s.heap.NoLimit:=e0.mod.nolimit.keeps fun b o e=>(e0.bs b o e).1
 have hkind:∀y∈ps.zip us,scope.names.lookup y.1=some .local\/(scope.names.lookup y.1=some .cell/\((cellsFrom (s.heap.objs.size+1) scope.names []).lookup y.1).isSome=true):=fun⟨n,v⟩ hy=>by
  rcases S.par n (V4 hy).1 with q | q
  ·exact .inl q
  ·exact .inr ⟨q,a0C _ _ _ (.inl q)⟩
 refine codeAny_call_function hr.depth (KX _ _ lk) rfl S.co S.gen rfl (PySem.W.codeRec_of KX hcd) (hb _ _ _ _ ?_)
 refine wpAny_newFunctionEnv_cells S.kind hkind fun env he s1 x=>?_
 subst he
 refine⟨lim.keeps x.toInCall.keep,codeAny_func ?_⟩
 obtain⟨t,ht,hq⟩:=hbody A outer s H vs Q E (hr.deeper _) hsp
 have I:Inv (L7 CX P w K mg base N qual scope f cdv A outer s H E) [] (F5 N vs) H s1:=a2j S hr.hd e0 hl r x
 refine j7 (ht [] s1 (F5 N vs) H _ I hq) (fun fl s' hs=>?_) fun e s' hs=>hs
 have fin:∀ {σ':St} {H':Hp} {v:V} {u:Value},Inv (L7 CX P w K mg base N qual scope f cdv A outer s H E) [] σ' H' s'->f6 v u->Q v H'->CE outer P w H s Q u s':=
  fun {σ' H' v u} J rv q=>⟨v,H',J.os,J.bare,J.base,J.hok,rv,q⟩
 cases fl with
 | ret u=>
  obtain⟨v,σ',H',J,rv,q⟩:=hs
  exact fin J rv q
 | next=>
  obtain⟨σ',H',J,q⟩:=hs
  exact fin (v:=V.non) (u:=Value.none) J rfl q
 | brk=>
  obtain⟨_,_,_,q⟩:=hs
  exact False.elim q
 | cont=>
  obtain⟨_,_,_,q⟩:=hs
  exact False.elim q
section
variable {t:TA}{id T:String}{r:List V->Hp->VK->Prop}
def tCB(r:List V->Hp->VK->Prop)(t:TA):TE:=fun σ H Q=>t σ H fun vs H1=>r vs H1 Q
theorem a3o(hc:x9 X (.builtin id) r)(hg:Gl X x)(hm:X.mg x=none)(hv:x6 x=some (.builtin id))(ha:PA X (e::es) t)(hn:x ≠ "__name__" := by decide)(hdb:(x == ("__debug__" : Str))=false:=by decide)
  (he:b7 (e::es) X.env=(false,eval e X.env)::b7 es X.env:=by rfl) (hpl:(F3 pos (b7 es X.env)).any (·.1)=false:=by rfl):PE X (.Call (.Name x p) (e::es) [] pos) (tCB r t):=by
 intro pins s σ H Q I h
 refine y3 (X3 I hg hm hv ?_ hn hdb)
 exact PyProof.Rows.callWith_builtin1 (thn (ha pos pins s σ H _ I h) fun us s1 ⟨vs,H1,I1,r1,q1⟩=>hc pins s1 σ H1 vs us Q I1 r1 q1) he hpl
end
section
variable {κ:Type}[DecidableEq κ]
def D6(kvs:List (κ×V))(k:κ):Option V:=(kvs.find? fun kv=>decide (kv.1=k)).map (·.2)
def W9(kvs:List (κ×V))(k:κ)(v:V):List (κ×V):=
 if(kvs.any fun kv=>decide (kv.1=k))=true then kvs.map (fun kv=>if kv.1=k then (kv.1,v)else kv)else kvs++[(k,v)]
def a0s(kvs:List (κ×V))(k:κ):List (κ×V):=kvs.filter fun kv=>decide (kv.1≠k)
theorem P1{p:κ×V}{r:List (κ×V)}{k:κ}(e:p.1=k):D6 (p::r) k=some p.2:=by simp[D6,u6,e]
theorem P2{p:κ×V}{r:List (κ×V)}{k:κ}(e:¬p.1=k):D6 (p::r) k=D6 r k:=by simp[D6,u6,e]
theorem a0a(k:κ):∀kvs:List (κ×V),(kvs.any fun kv=>decide (kv.1=k))=(D6 kvs k).isSome
 | []=>rfl
 | p::r=>by
  rw[a0E]
  by_cases e:p.1=k
  ·simp only[P1 e,b1D e,Bool.true_or,Option.isSome_some]
  ·rw[P2 e,b1C e,Bool.false_or];exact a0a k r
theorem M0.isSome_eq{o:Option V}{u:Option Value}(r:M0 o u):o.isSome=u.isSome:=by
 cases o with
 | none=>cases u with
  | none=>rfl
  | some _=>exact(show False from r).elim
 | some _=>cases u with
  | none=>exact(show False from r).elim
  | some _=>rfl
theorem M0.getD{o:Option V}{u:Option Value}{d:V}{d':Value}(r:M0 o u)(rd:f6 d d'):f6 (o.getD d) (u.getD d'):=by
 cases o with
 | none=>cases u with
  | none=>exact rd
  | some _=>exact(show False from r).elim
 | some _=>cases u with
  | none=>exact(show False from r).elim
  | some _=>exact r
theorem KV.val{kvs:List (κ×V)}{vs:List (κ×Value)}(r:KV kvs vs)(k:κ):M0 (D6 kvs k) (a5F vs k):=by
 unfold KV at r
 induction r with
 | nil=>exact True.intro
 | @cons p q ps qs h t ih=>
  obtain⟨h1,h2⟩:=h
  by_cases e:p.1=k
  ·have e':q.1=k:=h1.symm.trans e
   have b:a5F (q::qs) k=some q.2:=by simp[a5F,u6,e']
   rw[P1 e,b];exact h2
  ·have e':¬q.1=k:=fun z=>e (h1.trans z)
   have b:a5F (q::qs) k=a5F qs k:=by simp[a5F,u6,e']
   rw[P2 e,b];exact ih
theorem KV.any{kvs:List (κ×V)}{vs:List (κ×Value)}(r:KV kvs vs)(k:κ):(kvs.any fun kv=>decide (kv.1=k))=vs.any fun kv=>decide (kv.1=k):=by
 unfold KV at r
 induction r with
 | nil=>rfl
 | cons h t ih=>rw[a0E,a0E,ih,h.1]
theorem KV.repl{kvs:List (κ×V)}{vs:List (κ×Value)}(r:KV kvs vs)(k:κ)(ry:f6 y u) :
  KV (kvs.map fun kv=>if kv.1=k then (kv.1,y)else kv) (vs.map fun kv=>if kv.1=k then (kv.1,u)else kv):=by
 unfold KV at r ⊢
 induction r with
 | nil=>exact .nil
 | @cons p q ps qs h t ih=>
  rw[m7,m7]
  refine .cons ?_ ih
  obtain⟨h1,h2⟩:=h
  by_cases e:p.1=k
  ·rw[if_pos e,if_pos (h1.symm.trans e)];exact⟨h1,ry⟩
  ·rw[if_neg e,if_neg (fun z=>e (h1.trans z))];exact⟨h1,h2⟩
theorem KV.put{kvs:List (κ×V)}{vs:List (κ×Value)}(r:KV kvs vs)(k:κ)(ry:f6 y u):KV (W9 kvs k y) (stored vs k u):=by
 unfold W9 stored
 rw[r.any k]
 by_cases e:(vs.any fun kv=>decide (kv.1=k))=true
 ·rw[if_pos e,if_pos e];exact r.repl k ry
 ·rw[if_neg e,if_neg e];exact Paired.snoc r ⟨rfl,ry⟩
theorem KV.drop{kvs:List (κ×V)}{vs:List (κ×Value)}(r:KV kvs vs)(k:κ):KV (a0s kvs k) (without vs k):=by
 unfold KV at r ⊢
 unfold a0s without
 induction r with
 | nil=>exact .nil
 | @cons p q ps qs h t ih=>
  obtain⟨h1,h2⟩:=h
  rw[a5C,a5C]
  by_cases e:p.1=k
  ·have a:¬decide (p.1≠k)=true:=by simp[e]
   have b:¬decide (q.1≠k)=true:=by simp[h1.symm.trans e]
   rw[if_neg a,if_neg b];exact ih
  ·have e':¬q.1=k:=fun z=>e (h1.trans z)
   have a:decide (p.1≠k)=true:=by simp[e]
   have b:decide (q.1≠k)=true:=by simp[e']
   rw[if_pos a,if_pos b];exact .cons ⟨h1,h2⟩ ih
theorem KV.keys{kvs:List (κ×V)}{vs:List (κ×Value)}(r:KV kvs vs):kvs.map (·.1)=vs.map (·.1):=by
 unfold KV at r
 induction r with
 | nil=>rfl
 | cons h t ih=>rw[m7,m7,ih,h.1]
theorem KV.length{kvs:List (κ×V)}{vs:List (κ×Value)}(r:KV kvs vs):kvs.length=vs.length:=Paired.length r
end
abbrev KT(H:Hp):List (List Key×V)->List (List Key×Addr×Value)->Prop:=Paired fun p q=>p.1=q.1/\H q.2.1=some (.tup (p.1.map kV))/\f6 p.2 q.2.2
theorem KT.val{xs:List (List Key×Addr×Value)}(r:KT H kvs xs)(k:List Key):M0 (D6 kvs k) ((atKey xs k).map (·.2)):=by
 induction r with
 | nil=>exact True.intro
 | @cons p q ps qs h t ih=>
  obtain⟨h1,_,h2⟩:=h
  by_cases e:p.1=k
  ·have e':q.1=k:=h1.symm.trans e
   have b:atKey (q::qs) k=some q.2:=by simp[atKey,u6,e']
   rw[P1 e,b];exact h2
  ·have e':¬q.1=k:=fun z=>e (h1.trans z)
   have b:atKey (q::qs) k=atKey qs k:=by simp[atKey,u6,e']
   rw[P2 e,b];exact ih
theorem KT.repl{xs:List (List Key×Addr×Value)}(r:KT H kvs xs)(k:List Key)(ry:f6 y u) :
  KT H (kvs.map fun kv=>if kv.1=k then (kv.1,y)else kv) (xs.map (putAt k u)):=by
 induction r with
 | nil=>exact .nil
 | @cons p q ps qs h t ih=>
  rw[m7,m7]
  refine .cons ?_ ih
  obtain⟨h1,h2,h3⟩:=h
  unfold putAt
  by_cases e:p.1=k
  ·rw[if_pos e,if_pos (h1.symm.trans e)];exact⟨h1,h2,ry⟩
  ·rw[if_neg e,if_neg (fun z=>e (h1.trans z))];exact⟨h1,h2,h3⟩
theorem KT.put{xs:List (List Key×Addr×Value)}(r:KT H kvs xs)(k:List Key)(hb:H b=some (.tup (k.map kV)))(ry:f6 y u) :
  KT H (W9 kvs k y) (storedH xs k b u):=by
 have e:(kvs.any fun kv=>decide (kv.1=k))=(atKey xs k).isSome:=by
  rw[a0a,(r.val k).isSome_eq,Option.isSome_map]
 unfold W9 storedH
 rw[e]
 by_cases q:(atKey xs k).isSome=true
 ·rw[if_pos q,if_pos q];exact r.repl k ry
 ·rw[if_neg q,if_neg q];exact Paired.snoc r ⟨rfl,hb,ry⟩
theorem KT.keeps{xs:List (List Key×Addr×Value)}(r:KT H kvs xs)(ht:∀b ys,H b=some (.tup ys)->H' b=some (.tup ys)):KT H' kvs xs:=
 Paired.mapP r fun _ _ z=>⟨z.1,ht _ _ z.2.1,z.2.2⟩
section
variable {P:b8}
end
def T5(H:Hp)(a:Addr)(y:V)(r:Option V):Prop:=
 (∃kvs k,Rd H a (.dK kvs)/\y=kV k/\r=D6 kvs k)\/∃kvs k b,Rd H a (.dT kvs)/\y=.ref b/\H b=some (.tup (k.map kV))/\r=D6 kvs k
def a2u(H:Hp)(a:Addr)(y v:V)(H':Hp):Prop:=
 (∃kvs k,H a=some (.dK kvs)/\y=kV k/\kvs.length<b5/\H'=upd H a (.dK (W9 kvs k v))) \/
 ∃kvs k b,H a=some (.dT kvs)/\y=.ref b/\H b=some (.tup (k.map kV))/\kvs.length<b5/\H'=upd H a (.dT (W9 kvs k v))
theorem T5.k{kvs:List (Key×V)}{k:Key}(e:H a=some (.dK kvs)):T5 H a (kV k) (D6 kvs k):=.inl ⟨kvs,k,.inl e,rfl,rfl⟩
theorem T5.t{k:List Key}(e:H a=some (.dT kvs))(eb:H b=some (.tup (k.map kV))):T5 H a (.ref b) (D6 kvs k):=.inr ⟨kvs,k,b,.inl e,rfl,eb,rfl⟩
theorem a2u.k{kvs:List (Key×V)}{k:Key}(e:H a=some (.dK kvs))(hl:kvs.length<b5):a2u H a (kV k) v (upd H a (.dK (W9 kvs k v))):=.inl ⟨kvs,k,e,rfl,hl,rfl⟩
theorem a2u.t{k:List Key}(e:H a=some (.dT kvs))(eb:H b=some (.tup (k.map kV)))(hl:kvs.length<b5) :
  a2u H a (.ref b) v (upd H a (.dT (W9 kvs k v))):=.inr ⟨kvs,k,b,e,rfl,eb,hl,rfl⟩
section
variable {r:Value}{o:Option V}{A:d8}{E:Value->a5->Prop}
end
section
variable {kvs:List (Key×V)}{k:Key}{A:d8}{E:Value->a5->Prop}
end
def b1l(i:Expr):Prop:=∀ov iv,a2C i false ov iv=operate [ov,iv] (a5G ov iv)
def a9P(td ty:TE):TE:=fun σ H Q=>td σ H fun x H1=>ty σ H1 fun y H2=>∃a v,x=.ref a/\T5 H2 a y (some v)/\Q v H2
def b0y(ty td:TE):TE:=fun σ H Q=>ty σ H fun y H1=>td σ H1 fun x H2=>∃a o,x=.ref a/\T5 H2 a y o/\Q (.bl o.isSome) H2
def a8u(ty td:TE):TE:=fun σ H Q=>ty σ H fun y H1=>td σ H1 fun x H2=>∃a o,x=.ref a/\T5 H2 a y o/\Q (.bl (!o.isSome)) H2
def a9R(td ty tv:TE):TS:=fun D σ H=>tv σ H fun v H1=>td σ H1 fun x H2=>ty σ H2 fun y H3=>∃a H4,x=.ref a/\a2u H3 a y v H4/\D.nx σ H4
def a9T(td ty tv:TE)(rd:V->V->Hp->VK->Prop):TS:=fun D σ H=>td σ H fun x H1=>ty σ H1 fun y H2=>∃a v,x=.ref a/\T5 H2 a y (some v) /\
 tv σ H2 fun y2 H3=>rd v y2 H3 fun z H4=>∃H5,a2u H4 a y z H5/\D.nx σ H5
def a9S(td ty:TE):TS:=fun D σ H=>td σ H fun x H1=>ty σ H1 fun y H2=>∃a kvs k,x=.ref a/\H2 a=some (.dK kvs)/\y=kV k/\(D6 kvs k).isSome=true/\D.nx σ (upd H2 a (.dK (a0s kvs k)))
section
variable {o i value:Expr}{pos' tpos:Pos}{td ty tv:TE}
end
def a8R:TE:=fun _ H Q=>∀p,H p=none->Q (.ref p) (upd H p (.dK []))
def a8Q:TE:=fun _ H Q=>∀p,H p=none->Q (.ref p) (upd H p (.dT []))
section
end
def W1:List (TE×TE)->St->Hp->(List (V×V)->Hp->Prop)->Prop
 | [],_,H,Q=>Q [] H
 | (tk,tv)::r,σ,H,Q=>tk σ H fun x H1=>tv σ H1 fun y H2=>W1 r σ H2 fun ps H3=>Q ((x,y)::ps) H3
abbrev VV:List (V×V)->List (Value×Value)->Prop:=Paired fun p q=>f6 p.1 q.1/\f6 p.2 q.2
def PPs(X:Cx)(pos:Pos)(keys:List (Option Expr))(values:List Expr)(trs:List (TE×TE)):Prop:=
 ∀(pins:List (Addr×Obj)) (s:a5) (σ:St) (H:Hp) (Q:List (V×V)->Hp->Prop),Inv X pins σ H s->W1 trs σ H Q ->
  wpAny (model X.prog X.w) X.A (evalPairs (pairTrees keys values X.env pos)) (fun vs s'=>∃ps H',Inv X pins σ H' s'/\VV ps vs/\Q ps H') X.xe s
def a6K(kvs more:List (Key×V)):List (Key×V):=more.foldl (fun acc kv=>W9 acc kv.1 kv.2) kvs
def a9O(trs:List (TE×TE)):TE:=fun σ H Q=>∀p,H p=none->W1 trs σ (upd H p (.dK [])) fun ps H2=>H2 p=some (.dK [])/\∃kvs:List (Key×V),ps=kvs.map (fun kv=>(kV kv.1,kv.2))/\kvs.length<=15/\Q (.ref p) (upd H2 p (.dK (a6K [] kvs)))
structure M1(X:Cx)(o:Expr)(m:Str)(apos:Pos)(e:Expr)(cpos:Pos):Prop where
 base:K8 o m X.env (eval o X.env)=eval o X.env
 few:((F3 cpos (b7 [e] X.env)).all (fun x => !x.1)&&(backToKw cpos (a8G [] X.env)).all (fun x=>x.1.isSome)
  && decide (([e]:List Expr).length+([]:List a5H).length+(if([]:List a5H).isEmpty then 0 else 1)<30))=true
 line:(apos.endLine == cpos.line)=true
 trees:F3 cpos (b7 [e] X.env)=[(false,eval e X.env)]
structure M2(X:Cx)(o:Expr)(m:Str)(apos:Pos)(e f:Expr)(cpos:Pos):Prop where
 base:K8 o m X.env (eval o X.env)=eval o X.env
 few:((F3 cpos (b7 [e,f] X.env)).all (fun x => !x.1)&&(backToKw cpos (a8G [] X.env)).all (fun x=>x.1.isSome)
  && decide (([e,f]:List Expr).length+([]:List a5H).length+(if([]:List a5H).isEmpty then 0 else 1)<30))=true
 line:(apos.endLine == cpos.line)=true
 trees:F3 cpos (b7 [e,f] X.env)=[(false,eval e X.env),(false,eval f X.env)]
def IsD(H:Hp)(a:Addr):Prop:=(∃kvs,Rd H a (.dK kvs))\/∃kvs,Rd H a (.dT kvs)
section
variable {d:V}{r:Value}{o:Option V}{A:d8}{E:Value->a5->Prop}
end
def a8T(td ty:TE):TE:=fun σ H Q=>td σ H fun x H1=>∃a,x=.ref a/\IsD H1 a/\ty σ H1 fun y H2=>∃o,T5 H2 a y o/\Q (o.getD .non) H2
def a8S(td ty tx:TE):TE:=fun σ H Q=>td σ H fun x H1=>∃a,x=.ref a/\IsD H1 a/\ty σ H1 fun y H2=>tx σ H2 fun z H3=>∃o,T5 H3 a y o/\Q (o.getD z) H3
def a8P(td ty:TE):TE:=fun σ H Q=>td σ H fun x H1=>∃a,x=.ref a/\IsD H1 a/\ty σ H1 fun y H2=>∃kvs k v,H2 a=some (.dK kvs)/\y=kV k/\D6 kvs k=some v/\Q v (upd H2 a (.dK (a0s kvs k)))
def a8O(td ty tx:TE):TE:=fun σ H Q=>td σ H fun x H1=>∃a,x=.ref a/\IsD H1 a/\ty σ H1 fun y H2=>tx σ H2 fun z H3=>∃kvs k,H3 a=some (.dK kvs)/\y=kV k /\
 (∀v,D6 kvs k=some v->Q v (upd H3 a (.dK (a0s kvs k))))/\(D6 kvs k=none->Q z H3)
section
variable {o f:Expr}{apos cpos:Pos}{td ty tx:TE}
end
section
variable {kvs:List (Key×V)}{A:d8}{E:Value->a5->Prop}
end
section
variable {A:d8}{E:Value->a5->Prop}
end
end L2
namespace HT
open PySem PyProof.Rows
def a5v:List Int->List Int->Bool
 | [],[]=>false
 | [],_::_=>true
 | _::_,[]=>false
 | x::xs,y::ys=>if x=y then a5v xs ys else decide (x<y)
section
open PySem.SeqAt
open PySem.AutoSeq1 (wpAny_loadPart')
open PySem.MeetsSeq PySem.MeetsSeq2 PySem.MeetsSeq3
end
section
variable {prog:b8}{w:World}{A:d8}{E:Value->a5->Prop}{s:a5}
def sIx(n d:Nat):Option Int->Nat
 | none=>d
 | some v=>if v<0 then (v+(n:Int)).toNat else min v.toNat n
theorem a4i(n d k:Nat):sIx n d (some (k:Int))=min k n:=by
 show(if(k:Int)<0 then ((k:Int)+(n:Int)).toNat else min (k:Int).toNat n)=min k n
 rw[if_neg (by omega),Int.toNat_natCast]
end
end HT
namespace L2
open PySem PySem.Spec PyProof.Rows
variable{X:Cx}{s:a5}{xs:List V}{us:List Value}
abbrev TO:=St->Hp->(Option Int->Hp->Prop)->Prop
def PO(X:Cx)(e:Option Expr)(t:TO):Prop:=
 ∀(pins:List (Addr×Obj)) (s:a5) (σ:St) (H:Hp) (Q:Option Int->Hp->Prop),Inv X pins σ H s->t σ H Q ->
  wpAny (model X.prog X.w) X.A (evalPart e X.env) (fun u s'=>∃o H',Inv X pins σ H' s'/\IsPart u o/\Q o H') X.xe s
def N7:TO:=fun _ H Q=>Q none H
def a1i(t:TE):TO:=fun σ H Q=>t σ H fun x H1=>∃i,x=.int i/\Q (some i) H1
section
variable {e:Expr}{te:TE}{lo hi:Option Expr}{tl th:TO}{pos p2:Pos}
theorem a4t:PO X none N7:=by
 intro pins s σ H Q I h
 rw[evalPart_none]
 exact d7 ⟨none,H,I,.none,h⟩
theorem a4s(h:PE X e te):PO X (some e) (a1i te):=by
 intro pins s σ H Q I hw
 rw[evalPart_some]
 refine thn (h pins s σ H _ I hw) fun u s1 ⟨x,H1,I1,r1,q1⟩=>?_
 obtain⟨i,rfl,q⟩:=q1
 obtain⟨t,rfl⟩:=r1
 exact⟨some i,H1,I1,.int i t,q⟩
def SlR(X:Cx)(r:V->Option Int->Option Int->Hp->VK->Prop):Prop:=
 ∀(pins:List (Addr×Obj)) (s:a5) (σ:St) (H:Hp) (x:V) (v vl vu:Value) (lo hi:Option Int) (sl:Addr) (Q:VK),Inv X pins σ H s->f6 x v->s.heap.IsSliceOf sl vl vu .none->IsPart vl lo->IsPart vu hi->r x lo hi H Q ->
  ∃T id,typeLookup (.type T) "__getitem__" = pure (some (.builtin id))/\s.TypeIs v T/\wpAny (model X.prog X.w) X.A (a5G v (.ref sl)) (EP X pins σ Q) X.xe s
theorem SlR.or{r r':V->Option Int->Option Int->Hp->VK->Prop}(h:SlR X r)(h':SlR X r'):SlR X (fun x lo hi H Q=>r x lo hi H Q\/r' x lo hi H Q):=by
 intro pins s σ H x v vl vu lo hi sl Q I rx hs pl pu q
 rcases q with q | q
 ·exact h pins s σ H x v vl vu lo hi sl Q I rx hs pl pu q
 ·exact h' pins s σ H x v vl vu lo hi sl Q I rx hs pl pu q
def tSl(r:V->Option Int->Option Int->Hp->VK->Prop)(te:TE)(tl th:TO):TE:=fun σ H Q=>te σ H fun x H1=>tl σ H1 fun l H2=>th σ H2 fun u H3=>r x l u H3 Q
theorem a3l{r:V->Option Int->Option Int->Hp->VK->Prop}(hr:SlR X r)(he:PE X e te)(hl:PO X lo tl)(hu:PO X hi th):PE X (.Subscript e (.Slice lo hi none p2) pos) (tSl r te tl th):=by
 intro pins s σ H Q I h
 refine Subscript_ (thn (he pins s σ H _ I h) fun v s1 ⟨x,H1,I1,r1,q1⟩=>?_)
 refine wpAny_Slice (thn (hl pins s1 σ H1 _ I1 q1) fun vl s2 ⟨l,H2,I2,pl,q2⟩=>thn (hu pins s2 σ H2 _ I2 q2) fun vu s3 ⟨u,H3,I3,pu,q3⟩=>?_)
 rw[evalPart_none]
 refine d7 ?_
 have I4:Inv X pins σ H3 { s3 with heap:=s3.heap.push { cls:=.type "slice",data:=.fields #[vl,vu,.none] } }:=I3.kept (t':=s3.toks) fun b ob q=>a7 _ q
 obtain⟨T,id,hT,ht,hg⟩:=hr pins { s3 with heap:=s3.heap.push { cls:=.type "slice",data:=.fields #[vl,vu,.none] } } σ H3 x v vl vu l u s3.heap.objs.size Q I4 r1 (Heap.IsSliceOf.new ..) pl pu q3
 show wpAny (model X.prog X.w) X.A (subscriptTail e (.Slice lo hi none p2) v (.ref s3.heap.objs.size)) (EP X pins σ Q) X.xe { s3 with heap:=s3.heap.push { cls:=.type "slice",data:=.fields #[vl,vu,.none] } }
 exact tail_any (ops:=[.ref s3.heap.objs.size,v]) ht hT hg (by with_unfolding_all rfl)
def X5(xs:List V)(lo hi:Option Int):List V:=(xs.drop (HT.sIx xs.length 0 lo)).take (HT.sIx xs.length xs.length hi - HT.sIx xs.length 0 lo)
theorem a0t(xs:List V)(lo hi:Option Int):(X5 xs lo hi).length<=xs.length:=by
 unfold X5
 rw[S2,List.length_drop]
 omega
def b0G(K:Fg):V->Option Int->Option Int->Hp->VK->Prop:=fun x lo hi H Q=>∃a xs,x=.ref a/\SqT K H a xs /\
 ¬(HT.sIx xs.length 0 lo=0/\HT.sIx xs.length xs.length hi=xs.length)/\∀p,H p=none->Q (.ref p) (upd H p (.tup (X5 xs lo hi)))
def b0K(K:Fg):R2:=fun x y H Q=>∃a b ns ms,x=.ref a/\y=.ref b/\SqT K H a (ns.map V.int)/\SqT K H b (ms.map V.int)/\Q (.bl (HT.a5v ns ms)) H
def a9U(K:Fg):R2:=fun x y H Q=>∃a b xs ys,x=.ref a/\y=.ref b/\SqT K H a xs/\SqT K H b ys/\xs≠[]/\xs.length+ys.length<=b5 /\
 (ys=[]->Q (.ref a) H)/\(ys≠[]->∀p,H p=none->Q (.ref p) (upd H p (.tup (xs++ys))))
end
def ixN(n:Nat)(i:Int):Option Nat:=if 0<=i then (if i<n then some i.toNat else none)else if -(n:Int)<=i then some (i+n).toNat else none
def atI{α:Type}(xs:List α)(i:Int):Option α:=(ixN xs.length i).bind fun j=>xs[j]?
theorem a1p{n:Nat}{i:Int}{j:Nat}(h:ixN n i=some j):seqIndex? i n=some j/\j<n /\ -(n:Int)<=i/\i<n:=by
 unfold ixN at h
 by_cases h0:0<=i
 ·rw[if_pos h0]at h
  by_cases h1:i<n
  ·rw[if_pos h1]at h
   have e:i.toNat=j:=Option.some.inj h
   exact⟨by rw[a8F h0 h1,e],by omega,by omega,h1⟩
  ·rw[if_neg h1]at h;cases h
 ·rw[if_neg h0]at h
  by_cases h1 : -(n:Int)<=i
  ·rw[if_pos h1]at h
   have e:(i+n).toNat=j:=Option.some.inj h
   exact⟨by rw[a7n (by omega) h1,e],by omega,h1,by omega⟩
  ·rw[if_neg h1]at h;cases h
theorem Y1{α:Type}{xs:List α}{i:Int}{v:α}(h:atI xs i=some v):∃j,seqIndex? i xs.length=some j/\xs[j]? = some v/\j<xs.length /\ -(xs.length:Int)<=i/\i<xs.length:=by
 unfold atI at h
 cases e:ixN xs.length i with
 | none=>rw[e]at h;cases h
 | some j=>
  rw[e]at h
  obtain⟨h1,h2,h3,h4⟩:=a1p e
  exact⟨j,h1,h,h2,h3,h4⟩
theorem J3{α:Type}{xs:List α}{j:Nat}{v:α}(h:xs[j]? = some v):atI xs (j:Int)=some v:=by
 have hj:j<xs.length:=(c5.mp h).1
 have e:ixN xs.length (j:Int)=some j:=by
  unfold ixN
  rw[if_pos (by omega),if_pos (by omega)];simp
 unfold atI;rw[e];exact h
def Y3(b:Expr):Prop:=∀o i,a2C b false o i=operate [o,i] (a5G o i)
def IxR(X:Cx)(r:R2):Prop:=
 ∀(value slice:Expr) (pins:List (Addr×Obj)) (s:a5) (σ:St) (H:Hp) (x y:V) (v u:Value) (Q:VK),Inv X pins σ H s->f6 x v->f6 y u->r x y H Q ->
  a2C slice false v u=operate [v,u] (a5G v u)->wpAny (model X.prog X.w) X.A (subscriptTail value slice v u) (EP X pins σ Q) X.xe s
def MtR(X:Cx)(id:String)(r:V->List V->Hp->VK->Prop):Prop:=
 ∀(pins:List (Addr×Obj)) (s:a5) (σ:St) (H:Hp) (x:V) (xs:List V) (v:Value) (us:List Value) (Q:VK),Inv X pins σ H s->f6 x v->f9 xs us->r x xs H Q ->
  wpAny (model X.prog X.w) X.A (call (.builtin id) (v::us)) (EP X pins σ Q) X.xe s
section
variable {a b:Expr}{ta tb:TE}{pos:Pos}
theorem IxR.or{r r':R2}(h:IxR X r)(h':IxR X r'):IxR X (fun x y H Q=>r x y H Q\/r' x y H Q):=by
 intro value slice pins s σ H x y v u Q I rx ry q hs
 rcases q with q | q
 ·exact h value slice pins s σ H x y v u Q I rx ry q hs
 ·exact h' value slice pins s σ H x y v u Q I rx ry q hs
theorem MtR.or{id:String}{r r':V->List V->Hp->VK->Prop}(h:MtR X id r)(h':MtR X id r'):MtR X id (fun x xs H Q=>r x xs H Q\/r' x xs H Q):=by
 intro pins s σ H x xs v us Q I rx rs q
 rcases q with q | q
 ·exact h pins s σ H x xs v us Q I rx rs q
 ·exact h' pins s σ H x xs v us Q I rx rs q
theorem a7V{r:R2}(hr:IxR X r)(ha:PE X a ta)(hb:PE X b tb)(hs:Y3 b):PE X (.Subscript a b pos) (tOp r ta tb):=by
 intro pins s σ H Q I h
 exact Subscript_ (a7a ha hb I h fun v u s2 x y H2 I2 rx ry q=>hr a b pins s2 σ H2 x y v u Q I2 rx ry q (hs _ _))
def a7M(K:Fg):R2:=fun x y H Q=>∃p xs i v,x=.ref p/\y=.int i/\SqL K H p xs/\atI xs i=some v/\Q v H
def a7K(K:Fg):R2:=fun x y H Q=>∃p xs i v,x=.ref p/\y=.int i/\SqT K H p xs/\atI xs i=some v/\Q v H
def a7L:R2:=fun x y H Q=>∃z i c,x=.str z/\y=.int i/\z.length<=b5/\atI z.cps.toList i=some c/\Q (.str ⟨#[c]⟩) H
theorem a4Q:IxR X (a7M X.K):=by
 intro value slice pins s σ H x y v u Q I rx ry h hs
 obtain⟨p,xs,i,z,rfl,rfl,hq,he,q⟩:=h
 cases rx
 obtain⟨t,rfl⟩:=ry
 obtain⟨its,r,pl,hz⟩:=I.list hq
 obtain⟨j,h1,h2,h3,h4,h5⟩:=Y1 he
 obtain⟨w,ew,rw'⟩:=r.get h2
 have hl:=r.length
 have hn:=G0
 have fin:EP X pins σ Q w s:=⟨z,H,I,rw',q⟩
 by_cases h0:0<=i
 ·have hj:i.toNat=j:=by
   rw[a8F h0 h5]at h1
   exact Option.some.inj h1
  exact item_listR pl.isList h0 (by omega) (by rw[hj];simpa using ew) fin hs
 ·have hj:(i+(its.toArray.size:Int)).toNat=j:=by
   rw[a7n (by omega) h4]at h1
   rw[b9,<-hl]
   exact Option.some.inj h1
  exact a7l (x:=w) pl.isList.typeIs slot_list_getitem.lookup
   (wpAny_getItem_list_neg (Q:=fun r s'=>r=w/\EP X pins σ Q r s') pl.isList (by omega) (by rw[b9] <;> omega) (by omega) (by rw[hj];simpa using ew) ⟨rfl,fin⟩) hs
theorem a6T:IxR X (a7K X.K):=by
 intro value slice pins s σ H x y v u Q I rx ry h hs
 obtain⟨p,xs,i,z,rfl,rfl,hq,he,q⟩:=h
 cases rx
 obtain⟨t,rfl⟩:=ry
 obtain⟨its,r,pl,hz⟩:=I.tuple hq
 obtain⟨j,h1,h2,h3,h4,h5⟩:=Y1 he
 obtain⟨w,ew,rw'⟩:=r.get h2
 have hl:=r.length
 have hn:=G0
 have fin:EP X pins σ Q w s:=⟨z,H,I,rw',q⟩
 exact a7l (x:=w) pl.typeIs slot_tuple_getitem.lookup
  (getItem_tuple (j:=j) (Q:=fun r s'=>r=w/\EP X pins σ Q r s') pl (by omega) (by omega) (by rw[b9,<-hl];exact h1) (by simpa using ew) ⟨rfl,fin⟩) hs
theorem a6U:IxR X a7L:=by
 intro value slice pins s σ H x y v u Q I rx ry h hs
 obtain⟨z,i,c,rfl,rfl,hz,he,q⟩:=h
 obtain⟨t,rfl⟩:=rx
 obtain⟨t',rfl⟩:=ry
 obtain⟨j,h1,h2,h3,h4,h5⟩:=Y1 he
 have hl:z.cps.toList.length=z.length:=by simp[Str.length]
 rw[hl]at h1 h4 h5
 have hn:=G0
 exact tail_any (typeIs_str s z t) slot_str_getitem.lookup (getItem_str (c:=c) (by
  have e1:decide (i < -(2 ^ 63:Int))=false:=b1C (by omega)
  have e2:decide (i ≥ 2 ^ 63)=false:=b1C (by omega)
  rw[e1,e2,Bool.or_false]) (by rw[h1];simpa using h2) ⟨.str ⟨#[c]⟩,H,I.tok _,⟨_,rfl⟩,q⟩) hs
def rIx(K:Fg):R2:=fun x y H Q=>a7M K x y H Q\/a7K K x y H Q\/a7L x y H Q
theorem a6V:IxR X (rIx X.K):=a4Q.or (a6T.or a6U)
theorem a0T(its:List Value)(n j:Nat)(u:Value):Obj.mapSeq (·.setIfInBounds j u) { cls:=.type "list",data:=.seq its.toArray n }={ cls:=.type "list",data:=.seq (its.set j u).toArray n }:=by
 simp[Obj.mapSeq]
theorem Inv.lst{pins:List (Addr×Obj)}{σ:St}{H:Hp}{s:a5}{p:Addr}{xs:List V}(I:Inv X pins σ H s)(h:H p=some (.lst xs)) :
  ∃(its:List Value) (n:Nat),f9 xs its/\s.heap.get? p=some { cls:=.type "list",data:=.seq its.toArray n }/\xs.length<=b5:=by
 obtain⟨z,its,n,r,e⟩:=I.hok p _ h
 exact⟨its,n,r,e,z⟩
theorem Inv.lstUpd{pins:List (Addr×Obj)}{σ:St}{H:Hp}{p:Addr}{ys:List V}{its its':List Value}{n n':Nat}{f:Obj->Obj}(I:Inv X pins σ H s)(h:H p=some (.lst xs))
  (ho:s.heap.get? p=some { cls:=.type "list",data:=.seq its.toArray n }) (hf:f { cls:=.type "list",data:=.seq its.toArray n }={ cls:=.type "list",data:=.seq its'.toArray n' }) (r:f9 ys its') (hz:ys.length<=b5) (t:Nat) :
  Inv X pins σ (upd H p (.lst ys)) { s with heap:=s.heap.update p f,toks:=t }:=by
 have e:(s.heap.update p f).get? p=some { cls:=.type "list",data:=.seq its'.toArray n' }:=by
  rw[j4 f ho (by rw[hf] <;> rfl),hf]
 refine I.write (x:=p) (e:=p) (by rw[h];trivial) (.inl rfl) (fun b u hb q=>(g7 _ _ (Ne.symm hb)).trans q) ⟨_,e⟩ ?_
 exact⟨hz,its',n',r,e⟩
def a7I:V->V->V->Hp->(Hp->Prop)->Prop:=fun o i v H Q=>∃p xs k j,o=.ref p/\i=.int k/\H p=some (.lst xs)/\ixN xs.length k=some j/\Q (upd H p (.lst (xs.set j v)))
theorem a3a:a3L X a7I:=by
 intro pins s σ H o i v ov iv u Q I ro ri rv h
 obtain⟨p,xs,k,j,rfl,rfl,hp,hj,q⟩:=h
 cases ro
 obtain⟨t,rfl⟩:=ri
 obtain⟨its,n,r,ho,hz⟩:=I.lst hp
 obtain⟨h1,h2,h3,h4⟩:=a1p hj
 have hl:=r.length
 have hn:=G0
 have I':Inv X pins σ (upd H p (.lst (xs.set j v))) { s with heap:=s.heap.update p (Obj.mapSeq (·.setIfInBounds j u)) }:=
  I.lstUpd hp ho (a0T its n j u) (r.set rv j) (by rw[List.length_set];exact hz) s.toks
 by_cases h0:0<=k
 ·have hk:k.toNat=j:=by
   rw[a8F h0 h4]at h1
   exact Option.some.inj h1
  exact PySem.W.ki_setAt ho h0 (by omega) (by rw[b9,<-hl];exact h4) (by rw[hk];exact⟨_,I',q⟩)
 ·have hk:(k+(its.toArray.size:Int)).toNat=j:=by
   rw[a7n (by omega) h3]at h1
   rw[b9,<-hl]
   exact Option.some.inj h1
  exact PySem.W.ki_setBack ho (by omega) (by rw[b9,<-hl];exact h3) (by omega) (by rw[hk];exact⟨_,I',q⟩)
theorem W4(lo hi:Option Int)(n:Nat):(D1 lo hi none n).1=((HT.sIx n 0 lo:Nat):Int)/\(D1 lo hi none n).2.1=((HT.sIx n n hi:Nat):Int)/\(D1 lo hi none n).2.2=1:=by
 refine⟨?_,?_,rfl⟩
 ·cases lo with
  | none=>simp[D1,HT.sIx]
  | some i=>
   simp only[D1,HT.sIx,a3S,show(1:Int) > 0 by decide,if_true]
   by_cases h:i<0
   ·simp only[h,if_true] <;> omega
   ·simp only[h,if_false] <;> omega
 ·cases hi with
  | none=>simp[D1,HT.sIx]
  | some i=>
   simp only[D1,HT.sIx,a3S,show(1:Int) > 0 by decide,if_true]
   by_cases h:i<0
   ·simp only[h,if_true] <;> omega
   ·simp only[h,if_false] <;> omega
theorem S4(its:List Value)(lo hi:Option Int):slicePick its.toArray lo hi none=((its.drop (HT.sIx its.length 0 lo)).take (HT.sIx its.length its.length hi - HT.sIx its.length 0 lo)).toArray:=by
 obtain⟨h1,h2,h3⟩:=W4 lo hi its.toArray.size
 unfold slicePick
 rw[h1,h2,h3]
 simp only[sliceRange_one,pick_run,b9] <;> rfl
def a6a(K:Fg):V->Option Int->Option Int->Hp->VK->Prop:=fun x lo hi H Q=>∃a xs,x=.ref a/\SqL K H a xs/\∀p,H p=none->Q (.ref p) (upd H p (.lst (X5 xs lo hi)))
theorem a4c:SlR X (a6a X.K):=by
 intro pins s σ H x v vl vu lo hi sl Q I rx hs pl pu h
 obtain⟨a,xs,rfl,hx,q⟩:=h
 cases rx
 obtain⟨its,r,ht,hz⟩:=I.list hx
 have hlen:=r.length
 refine⟨"list",_,slot_list_getitem.lookup,ht.isList.typeIs,?_⟩
 refine wpAny_getItem_list_slice ht.isList hs pl pu .none (by simp) ?_ (by rw[b9] <;> omega)
 rw[S4,<-hlen]
 refine⟨.ref s.heap.objs.size,_,I.laid (t':=s.toks) (o:=.lst (X5 xs lo hi)) (fun b ob q=>a7 _ q) (e7 _) ?_,rfl,q _ (I.hok.fresh (e7 _))⟩
 exact⟨k6 (a0t xs lo hi) hz,_,0,(r.drop (HT.sIx xs.length 0 lo)).take (HT.sIx xs.length xs.length hi - HT.sIx xs.length 0 lo),g9 _ rfl⟩
def k7:V->Bool
 | .non=>true
 | .bl _=>true
 | .int _=>true
 | .str _=>true
 | _=>false
def eqV:V->V->Bool
 | .non,.non=>true
 | .bl a,.bl b=>a == b
 | .bl a,.int b=>(if a then 1 else 0) == b
 | .int a,.bl b=>a == (if b then 1 else 0)
 | .int a,.int b=>a == b
 | .str a,.str b=>a == b
 | _,_=>false
theorem a3C{A:d8}{y x:V}{u v:Value}(ry:f6 y u)(rx:f6 x v)(fy:k7 y=true)(fx:k7 x=true):SeqAt.EqAt A s u v (eqV y x):=by
 cases y with
 | non=>
  cases ry
  cases x with
  | non=>cases rx;exact SeqAt.EqAt.same _
  | bl b=>cases rx;exact SeqAt.EqAt.none_bool b
  | int b=>obtain⟨t,rfl⟩:=rx;exact SeqAt.EqAt.none_int b t
  | str b=>obtain⟨t,rfl⟩:=rx;exact SeqAt.EqAt.none_str b t
  | _=>exact absurd (show false=true from fx) b6
 | bl a=>
  cases ry
  cases x with
  | non=>cases rx;exact SeqAt.EqAt.bool_none a
  | bl b=>cases rx;exact SeqAt.EqAt.bool_bool a b
  | int b=>obtain⟨t,rfl⟩:=rx;exact SeqAt.EqAt.bool_int a b t
  | str b=>obtain⟨t,rfl⟩:=rx;exact SeqAt.EqAt.bool_str a b t
  | _=>exact absurd (show false=true from fx) b6
 | int a=>
  obtain⟨t',rfl⟩:=ry
  cases x with
  | non=>cases rx;exact SeqAt.EqAt.int_none a t'
  | bl b=>cases rx;exact SeqAt.EqAt.int_bool a t' b
  | int b=>obtain⟨t,rfl⟩:=rx;exact SeqAt.EqAt.int_int a t' b t
  | str b=>obtain⟨t,rfl⟩:=rx;exact SeqAt.EqAt.int_str a t' b t
  | _=>exact absurd (show false=true from fx) b6
 | str a=>
  obtain⟨t',rfl⟩:=ry
  cases x with
  | non=>cases rx;exact SeqAt.EqAt.str_none a t'
  | bl b=>cases rx;exact SeqAt.EqAt.str_bool a t' b
  | int b=>obtain⟨t,rfl⟩:=rx;exact SeqAt.EqAt.str_int a t' b t
  | str b=>obtain⟨t,rfl⟩:=rx;exact SeqAt.EqAt.str_str a t' b t
  | _=>exact absurd (show false=true from fx) b6
 | _=>exact absurd (show false=true from fy) b6
def eqU(x:V)(u:Value):Bool:=match u with
 | .none=>eqV .non x
 | .bool b=>eqV (.bl b) x
 | .int i _=>eqV (.int i) x
 | .str z _=>eqV (.str z) x
 | _=>false
def inV(x:V)(xs:List V):Bool:=xs.any fun y=>eqV y x
def rIn(K:Fg)(neg:Bool):R2:=fun x y H Q=>∃p xs,y=.ref p/\(SqL K H p xs\/SqT K H p xs)/\k7 x=true/\xs.all k7=true/\Q (.bl (if neg then !inV x xs else inV x xs)) H
theorem X8:x9 X (.builtin "len") (fun xs H Q=>∃p ys,xs=[.ref p]/\(SqL X.K H p ys\/SqT X.K H p ys)/\Q (.int ys.length) H):=by
 intro pins s σ H xs us Q I r h
 obtain⟨p,ys,rfl,hq,q⟩:=h
 obtain⟨u,rfl,rx⟩:=a2U r
 cases rx
 have hn:=G0
 rcases hq with hq | hq
 ·obtain⟨its,r',pl,hz⟩:=I.list hq
  have hlen:=r'.length
  exact Calls.call_len_list pl.isList (by simp only[b9] <;> omega) ⟨.int ys.length,H,I.tok _,⟨s.toks+1,by rw[b9,hlen]⟩,q⟩
 ·obtain⟨its,r',pl,hz⟩:=I.tuple hq
  have hlen:=r'.length
  exact len_tuple pl (by simp only[b9] <;> omega) ⟨.int ys.length,H,I.tok _,⟨s.toks+1,by rw[b9,hlen]⟩,q⟩
theorem X7:x9 X (.builtin "len") (fun xs H Q=>∃z,xs=[.str z]/\z.length<=b5/\Q (.int z.length) H):=by
 intro pins s σ H xs us Q I r h
 obtain⟨z,rfl,hz,q⟩:=h
 obtain⟨u,rfl,t,rfl⟩:=a2U r
 have hn:=G0
 exact len_str (by omega) ⟨.int z.length,H,I.tok _,⟨_,rfl⟩,q⟩
theorem x9.or{f:Value}{r r':List V->Hp->VK->Prop}(h:x9 X f r)(h':x9 X f r'):x9 X f (fun xs H Q=>r xs H Q\/r' xs H Q):=by
 intro pins s σ H xs us Q I rs q
 rcases q with q | q
 ·exact h pins s σ H xs us Q I rs q
 ·exact h' pins s σ H xs us Q I rs q
def tyV(K:Fg)(T:String)(x:V)(H:Hp):Prop:=match x with
 | .str _=>T = "str"
 | .int _=>T = "int"
 | .ref p=>(T = "list" /\ ∃xs,SqL K H p xs)\/(T = "tuple" /\ ∃o,K.lookup p=some o/\o.cls=.type "tuple" /\ o.dict=none) \/
   (T = "dict" /\ ((∃kvs,H p=some (.dK kvs))\/∃kvs,H p=some (.dT kvs)))\/(T = "set" /\ ∃S n,H p=some (.set S n))
 | _=>False
def b0A(K:Fg)(T:String)(r:V->List V->Hp->VK->Prop)(to:TE):TE:=fun σ H Q=>to σ H fun x H1=>tyV K T x H1/\r x [] H1 Q
def tBM(K:Fg)(T:String)(r:V->List V->Hp->VK->Prop)(to:TE)(t:TA):TE:=fun σ H Q=>to σ H fun x H1=>tyV K T x H1/\t σ H1 fun xs H2=>r x xs H2 Q
variable {o e:Expr}{es:List Expr}{to:TE}{t:TA}{name:Str}{apos cpos:Pos}{T id:String}{r:V->List V->Hp->VK->Prop}
end
def MtM(X:Cx)(id:String)(r:V->List V->Hp->VK->Prop):Prop:=
 ∀(pins:List (Addr×Obj)) (s:a5) (σ:St) (H:Hp) (x:V) (xs:List V) (v:Value) (us:List Value) (Q:VK),Inv X pins σ H s->f6 x v->f9 xs us->r x xs H Q ->
  wpAny (model X.prog X.w) X.A (call (.builtin id) (v::us)) (EP X pins σ Q) X.xe s
theorem f9.one:∀ {x:V} {us:List Value},f9 [x] us->∃u,us=[u]/\f6 x u
 | _,_,.cons r .nil=>⟨_,rfl,r⟩
theorem f9.two:∀ {x y:V} {us:List Value},f9 [x,y] us->∃u v,us=[u,v]/\f6 x u/\f6 y v
 | _,_,_,.cons r (.cons q .nil)=>⟨_,_,rfl,r,q⟩
theorem f9.zero:∀ {us:List Value},f9 [] us->us=[]
 | _,.nil=>rfl
theorem f9.dropLast(h:f9 xs us):f9 xs.dropLast us.dropLast:=by
 induction h with
 | nil=>exact .nil
 | cons r t ih=>
  cases t with
  | nil=>exact .nil
  | cons q t'=>exact .cons r ih
theorem f9.eraseIdx:∀ {xs:List V} {us:List Value} (i:Nat),f9 xs us->f9 (xs.eraseIdx i) (us.eraseIdx i)
 | _,_,_,.nil=>.nil
 | _,_,0,.cons _ t=>t
 | _,_,i+1,.cons r t=>.cons r (f9.eraseIdx i t)
theorem f9.reverse(h:f9 xs us):f9 xs.reverse us.reverse:=by
 induction h with
 | nil=>exact .nil
 | cons r t ih=>rw[a5f,a5f];exact f9.append ih (.cons r .nil)
section
variable {pins:List (Addr×Obj)}{σ:St}{H:Hp}{l b:Addr}{ys zs:List V}
theorem Inv.lset{its its':List Value}{n:Nat}{f:Array Value->Array Value}{t':Nat}(I:Inv X pins σ H s)(hH:H l=some (.lst xs))
  (e:s.heap.get? l=some { cls:=.type "list",data:=.seq its.toArray n }) (hf:f its.toArray=its'.toArray) (hv:f9 ys its') (hz:ys.length<=b5) :
  Inv X pins σ (upd H l (.lst ys)) { s with heap:=s.heap.update l (Obj.mapSeq f),toks:=t' }:=by
 have q:=PySem.IsL.update e f
 rw[hf]at q
 refine I.write (x:=l) (e:=l) (by rw[hH];exact trivial) (.inl rfl) (fun b' u hb hu=>(g7 s.heap (Obj.mapSeq f) (Ne.symm hb)).trans hu) ⟨_,q⟩ ?_
 exact⟨hz,its',_,hv,q⟩
theorem Inv.lnew{its:List Value}{t':Nat}(I:Inv X pins σ H s)(hv:f9 ys its)(hz:ys.length<=b5) :
  Inv X pins σ (upd H s.heap.objs.size (.lst ys)) { s with heap:=s.heap.push { cls:=.type "list",data:=.seq its.toArray },toks:=t' }:=
 I.laid (fun _ _ q=>a7 _ q) (e7 _) ⟨hz,its,0,hv,g9 _ rfl⟩
theorem Inv.fresh(I:Inv X pins σ H s):H s.heap.objs.size=none:=I.hok.fresh (e7 _)
theorem Inv.lstM(I:Inv X pins σ H s)(hH:H l=some (.lst xs)):xs.length<=b5/\∃(its:List Value) (n:Nat),f9 xs its/\xs.length=its.length/\s.heap.get? l=some { cls:=.type "list",data:=.seq its.toArray n }:=by
 obtain⟨z,its,n,r,e⟩:=I.hok l _ hH
 exact⟨z,its,n,r,r.length,e⟩
end
section
def a4j:V->List V->Hp->VK->Prop:=fun x vs H Q=>∃l xs y,x=.ref l/\vs=[y]/\H l=some (.lst xs)/\xs.length<b5/\Q .non (upd H l (.lst (xs++[y])))
theorem U7:MtM X "list.append" a4j:=by
 intro pins s σ H x vs v us Q I rx rv h
 obtain⟨l,xs,y,rfl,rfl,hH,hz,q⟩:=h
 cases rx
 obtain⟨u,rfl,ru⟩:=rv.one
 obtain⟨z,its,n,r,hl,e⟩:=I.lstM hH
 refine call_meets F.slot_list_append ⟨_,e,rfl⟩ F.entry_list_append (F.args_list_append_2 _ _) (PySem.list_append l its.toArray n u (by rw[b9];omega)) ⟨e,?_⟩
 refine⟨.non,_,I.lset (its':=its++[u]) hH e (by simp) (r.append (.cons ru .nil)) ?_,rfl,q⟩
 rw[M7,List.length_singleton]
 omega
def a8w:V->List V->Hp->VK->Prop:=fun x vs H Q=>∃l b xs zs,x=.ref l/\vs=[.ref b]/\H l=some (.lst xs)/\H b=some (.lst zs)/\xs.length+zs.length<=b5/\Q .non (upd H l (.lst (xs++zs)))
def b0J:V->List V->Hp->VK->Prop:=fun x vs H Q=>∃l xs y,x=.ref l/\vs=[]/\H l=some (.lst xs)/\xs[xs.length - 1]? = some y/\Q y (upd H l (.lst xs.dropLast))
def a9f:V->List V->Hp->VK->Prop:=fun x vs H Q=>∃l xs i k y,x=.ref l/\vs=[.int i]/\H l=some (.lst xs) /\ -(2 ^ 63)<=i/\i<2 ^ 63/\seqIndex? i xs.length=some k/\xs[k]? = some y/\Q y (upd H l (.lst (xs.eraseIdx k)))
def a7J:V->List V->Hp->VK->Prop:=fun x vs H Q=>∃l xs,x=.ref l/\vs=[]/\H l=some (.lst xs)/\Q .non (upd H l (.lst xs.reverse))
def a9g:V->List V->Hp->VK->Prop:=fun x vs H Q=>∃l xs,x=.ref l/\vs=[]/\H l=some (.lst xs)/\Q .non (upd H l (.lst []))
def a9h:R2:=fun x y H Q=>∃l b xs zs,x=.ref l/\y=.ref b/\H l=some (.lst xs)/\H b=some (.lst zs)/\xs.length+zs.length<=b5/\∀p,H p=none->Q (.ref p) (upd H p (.lst (xs++zs)))
theorem a6F:OpR X (o1 .Add) a9h:=by
 intro pins s σ H x y v u Q I rx ry h
 obtain⟨l,b,xs,zs,rfl,rfl,hH,hB,hz,q⟩:=h
 cases rx
 cases ry
 obtain⟨z,its,n,r,hl,e⟩:=I.lstM hH
 obtain⟨z2,its2,n2,r2,hl2,e2⟩:=I.lstM hB
 refine PySem.P.add_list e e2 ?_ (by rw[b9,b9];omega)
 have ea:its.toArray++its2.toArray=(its++its2).toArray:=by simp
 rw[ea]
 exact⟨.ref _,_,I.lnew (t':=s.toks) (r.append r2) (by rw[M7];omega),rfl,q _ I.fresh⟩
def b0I:R2:=fun x y H Q=>∃l k xs,x=.ref l/\y=.int k/\H l=some (.lst xs) /\ -(2 ^ 63)<=k/\k<2 ^ 63/\xs.length * k.toNat<=b5 /\
 ∀p,H p=none->Q (.ref p) (upd H p (.lst (G3 k.toNat xs).flatten))
end
section
variable {prog:b8}{w:World}{A:d8}{E:Value->a5->Prop}
set_option maxRecDepth 100000 in
end
section
end
end L2
namespace Att
open PySem PySem.W PySem.Calls PyProof.Rows
theorem N1{P:Params}{h:Heap}:∀(ns:List Int) (vs:List Value),WellAll P h vs (ns.map WData.int)->a8H vs ns:=by
 intro ns
 induction ns with
 | nil=>
  intro vs w
  rw[List.map_nil]at w
  cases w
  exact .nil
 | cons n ns ih=>
  intro vs w
  rw[m7]at w
  cases w with
  | cons a b=>
   cases a
   exact .cons _ _ (ih _ b)
theorem a1R{l:OpenLaw}{n:Nat}(hn:l.most=some n){P:Params}{h:Heap}{args:List WData}{vals:List Value}
  (hpre:l.row.toRowW.claim.pre args=true) (hwl:WellAll P h vals args) :
  ∃a vs ns,vals=[Value.ref a]/\args=[WData.list (ns.map WData.int)]/\h.get? a=some { cls:=.type "list",data:=.seq vs.toArray }/\a8H vs ns/\ns.length<=n:=by
 have hsh:WShape.hasAll [] args [.list .int]=true:=(pre_splitW hpre).1
 have hc:l.pre.holds [] { args:=args }=true:=(pre_splitW hpre).2
 obtain⟨d,r,rfl,h1,h2⟩:=hasAllW_cons hsh
 obtain rfl:=hasAllW_nil h2
 obtain⟨xs,rfl,h3⟩:=hasW_list h1
 obtain⟨ns,rfl⟩:=items_int h3
 have hlen:ns.length<=n:=by
  unfold OpenLaw.pre at hc
  have h4:(WTm.not (.lt (.lit (.int (n:Int))) (.len (.arg 0)))).holds [] { args:=[.list (ns.map .int)] }=true:=by
   have h4:=(holds_andW hc).1
   rw[hn]at h4
   exact h4
  have h5:=condW_of h4 (w_not (w_lt w_lit (w_len_list (w_arg rfl))))
  rw[o7]at h5
  refine Nat.le_of_not_lt fun q=>?_
  have q':(n:Int)<((ns.length:Nat):Int):=by omega
  first
   | (rw[b1D q']at h5;exact absurd h5 (by decide))
   | (simp at h5;omega)
 cases hwl with
 | cons w1 w2=>
  cases w2
  cases w1 with
  | list ho hall=>exact⟨_,_,ns,rfl,rfl,ho,N1 ns _ hall,hlen⟩
theorem a2b(l:OpenLaw)(args:List WData):l.row.toRowW.claim.post args (.bool true) args=true:=
 postW_of (r:=l.row.toRowW) (X:=(true == true))
  (show WShape.has [] (.bool true) .bool=true by first | rfl | decide | simp[WShape.has,WShape.arms,WShape.armsAll])
  (show(WTm.eq .res (.lit (.bool true))).value [] { args:=args,res:=some (.bool true),after:=args }=some (.bool (true == true))from w_eq_bool (w_res rfl) w_lit) rfl
theorem a0y{l:OpenLaw}{n:Nat}{q:b8}{loose:List Str}{XP:(Str->Option Value)->Heap->Prop}{YP:World->Heap->Prop}{d:DefRec}
  (hn:l.most=some n) (hdf:d.params.defaults=[])
  (call:∀(w:World) (s₀ s₁:a5) (mg mb:Str->Option Value) (fa:Addr) (o:Obj) (pm cd doc:Value) (a:Addr) (vs:List Value) (ns:List Int),
   Ground q loose [] XP w s₀ mg mb s₁.heap->YP w s₁.heap ->
   s₁.heap.get? fa=some o->o.data=.func (docDef d.name d.params d.body d.scope pm cd doc)->s₁.heap.CodeRec cd d.name->mg d.name=some (.ref fa) ->
   s₁.heap.get? a=some { cls:=.type "list",data:=.seq vs.toArray }->a8H vs ns->ns.length<=n->s₁.gens = #[] ->
   D3 (model l.prog w) a2E (.call (.ref fa) ⟨[.ref a],[]⟩) (fun r s'=>r=.ok (.ret (.bool true))/\OldK s₁.heap s'.heap/\s'.os=s₁.os/\O6 s'.gens) s₁) :
  WalkO q loose XP YP l.row.toRowW d [] (fun f vs=>Y7 f vs):=by
 intro w s₀ s₁ mg mb G Y fa o pm cd doc dV kV ho hd hcd hD hmg hg args vals as hpre hlay hrd hwl hlo
 obtain rfl:dV=.none:=Dflts.none hD hdf
 obtain rfl:kV=.none:=Dflts.noKw hD
 obtain⟨a,vs,ns,rfl,rfl,hobj,hints,hlen⟩:=a1R hn hpre hwl
 refine enter_call (O4 (call w s₀ s₁ mg mb fa o pm cd doc a vs ns G Y ho (fd_plain hd) hcd hmg hobj hints hlen hg) fun r s' hq=>?_)
 obtain⟨rfl,h2,h3,h4⟩:=hq
 exact⟨.inl ⟨.bool true,.bool true,[],rfl,fun _=>rfl,.bool true,a2b l _,fun _=>⟨List.Pairwise.nil,fun _ hm=>(nomatch hm)⟩⟩,h2,h3,h4⟩
section
variable {prog:b8}{w:World}{A:d8}{E:Value->a5->Prop}{s:a5}{K:Frag}
def a9x(h:Heap):Heap:={ h with objs := #[] }
def a9z(h:Heap)(L d:Addr):List (Addr×Obj):=(u8 h.objs.size).filterMap fun a=>if a=L\/a=d then none else (h.get? a).map fun o=>(a,o)
end
end Att
namespace L2
open PySem PySem.Spec PyProof.Rows
variable{x:Str}
theorem U3:∀ {vs:List Value} {ns:List Int},a8H vs ns->f9 (ns.map V.int) vs
 | _,_,.nil=>.nil
 | _,_,.cons n t h=>.cons ⟨t,rfl⟩ (U3 h)
def a5c(H:Hp):Prop:=∀b,H b=none\/∃o xs,H b=some (.frz o (.lst xs))
theorem a3w{P:b8}{w:World}{K:Fg}{mg mb:Str->Option Value}{CX:CXT}{k:Nat}{fa a:Addr}{fd:o5}{sp:Sp}{s₁:a5}{vs:List Value}{ns:List Int}
  (KX:K.In s₁.heap) (hns:s₁.heap.Ns d5 mg) (hb:s₁.heap.Ns builtinsNs mb) (hbb:∀x:Str,x ≠ "__name__" -> mb x=x6 x) (hlim:s₁.heap.NoLimit) (hg:s₁.gens = #[])
  (ha:s₁.heap.get? a=some { cls:=.type "list",data:=.seq vs.toArray }) (hi:a8H vs ns) (hl:ns.length<=b5) (hr:n0 k a2E)
  (F:∀base:Heap,K.In base->base.Ns d5 mg->n8 P w K mg base CX k fa fd [x] sp) (hbind:∀(s:a5) (u:Value),a2F s fd ⟨[u],[]⟩ [(x,u)])
  (hsp:∀H:Hp,a5c H->SqL K H a (ns.map V.int)->sp [.ref a] H (fun v _=>v=.bl true) fun _ _ _=>False)
  (hCX:∀H e s',CX [] H s₁ (fun _ _ _=>False) e s'->False) :
  D3 (model P w) a2E (.call (.ref fa) ⟨[.ref a],[]⟩) (fun r s'=>r=.ok (.ret (.bool true))/\OldK s₁.heap s'.heap/\s'.os=s₁.os/\O6 s'.gens) s₁:=by
 have rv:=U3 hi
 have lenV:=hi.length
 have core:∀H:Hp,a5c H->SqL K H a (ns.map V.int)->HOk P w H s₁.heap->(∀b,H b≠none->b=a)->(H a≠none->K.lookup a=none) ->
   D3 (model P w) a2E (.call (.ref fa) ⟨[.ref a],[]⟩) (fun r s'=>r=.ok (.ret (.bool true))/\OldK s₁.heap s'.heap/\s'.os=s₁.os/\O6 s'.gens) s₁:=by
  intro H hO hS hok hA hK
  have base_of:∀ {b:Addr} {o:Obj},s₁.heap.get? b=some o->H b=none->(X4 s₁.heap H).get? b=some o:=fun e n=>a3z e n
  have noA:∀ {b:Addr} {o:Obj} {es:Array O5} {ep:Nat},s₁.heap.get? b=some o->o.data=.dict es ep->H b=none:=fun {b o es ep} e d=>by
   cases q:H b with
   | none=>rfl
   | some u=>
    have e':b=a:=hA b (by rw[q];simp)
    subst e'
    rw[ha]at e;cases e
    have d':Data.seq vs.toArray _=Data.dict es ep:=d
    cases d'
  have nsK:∀ {b:Addr} {m:Str->Option Value},s₁.heap.Ns b m->(X4 s₁.heap H).Ns b m:=fun {b m} ⟨o,es,ep,e,d,r⟩=>⟨o,es,ep,base_of e (noA e d),d,r⟩
  have hKb:K.In (X4 s₁.heap H):=fun b o e=>base_of (KX b o e) (by
   cases q:H b with
   | none=>rfl
   | some u=>
    have e':b=a:=hA b (by rw[q];simp)
    subst e'
    rw[hK (by rw[q];simp)]at e;cases e)
  have hM:Mod K mg (X4 s₁.heap H):=⟨hKb,nsK hns,⟨mb,nsK hb,hbb⟩,let⟨mc,h1,h2⟩:=hlim; ⟨mc,nsK h1,h2⟩⟩
  have e0:T3 P w K mg (X4 s₁.heap H) a2E [] s₁ H:=⟨rfl,hM,fun b o e=>a4K e,a2v (a2k _ _),trivial,fun b hb=>absurd (show b∈([]:List Addr)from hb) (by simp),hok,.of_eq hg⟩
  refine O4 ((F _ hKb (nsK hns)).run a2E [] s₁ H ⟨[.ref a],[]⟩ [.ref a] [.ref a] _ _ hr e0 (hbind s₁ (.ref a)) (.cons rfl .nil) (hsp H hO hS)) fun r s' h=>?_
  cases r with
  | error e=>exact(hCX H e s' h).elim
  | ok fl=>
   cases fl with
   | next=>exact False.elim h
   | brk=>exact False.elim h
   | cont=>exact False.elim h
   | ret u=>
    obtain⟨v,H',os,bare,un,hok',r',q⟩:=h
    have q':v=.bl true:=q
    subst q'
    obtain rfl:u=Value.bool true:=r'
    refine⟨rfl,OldK.of_keep fun b o e=>?_,os,bare⟩
    cases q:H b with
    | none=>exact un.keep b o e q (by intro z;exact absurd (show b∈([]:List Addr)from z) (by simp)) (by simp)
    | some u=>
     rcases hO b with z | ⟨ob,xs,z⟩
     ·rw[q]at z;cases z
     ·have z2:=un.frzs b ob _ z
      obtain⟨e1,_⟩:=hok b _ z
      obtain⟨e2,_⟩:=hok' b _ z2
      rw[e]at e1;cases e1
      exact e2
 cases hk:K.lookup a with
 | some o=>
  have e:=KX a o hk
  rw[ha]at e
  cases e
  refine core (fun _=>none) (fun _=>.inl rfl) (.inr ⟨_,vs.toArray,_,hk,rfl,rfl,rfl,by rw[b9,lenV];exact hl,by simpa using rv⟩) (fun b u z=>by have z':(none:Option HO)=some u:=z;cases z') (fun b z=>absurd rfl z) fun z=>absurd rfl z
 | none=>
  refine core (fun b=>if b=a then some (.frz { cls:=.type "list",data:=.seq vs.toArray } (.lst (ns.map V.int)))else none) (fun b=>?_) (.inl (.inr ⟨{ cls:=.type "list",data:=.seq vs.toArray },if_pos rfl⟩)) (fun b u z=>?_) (fun b z=>?_) fun _=>hk
  ·by_cases hb:b=a
   ·exact .inr ⟨_,_,if_pos hb⟩
   ·exact .inl (if_neg hb)
  ·by_cases hb:b=a
   ·have z':=(if_pos hb).symm.trans z
    cases z'
    subst hb
    exact⟨ha,by rw[o7];exact hl,vs,_,rv,ha⟩
   ·have z':=(if_neg hb).symm.trans z
    cases z'
  ·by_cases hb:b=a
   ·exact hb
   ·exact absurd (if_neg hb) z
abbrev KOf{K:Fg}{h:Heap}(_:K.In h):Fg:=K
theorem a4a{l:PySem.W.OpenLaw}{n k:Nat}{q:b8}{loose:List Str}{XP:(Str->Option Value)->Heap->Prop}{YP:World->Heap->Prop}{d:DefRec}{K:Params->Fg}{CX:World->CXT}{sp:World->Sp}
  (hn:l.most=some n) (hn2:n<=b5) (hdf:d.params.defaults=[]) (hr:n0 k a2E)
  (hY:∀(w:World) (h:Heap),YP w h->(K w.params).In h)
  (F:∀(w:World) (mg:Str->Option Value) (fa:Addr) (h:Heap),(K w.params).In h->h.Ns d5 mg->mg d.name=some (.ref fa) ->
   ∃fd:o5,(∀(s:a5) (u:Value),a2F s fd ⟨[u],[]⟩ [(x,u)]) /\
    ∀base:Heap,(K w.params).In base->base.Ns d5 mg->n8 l.prog w (K w.params) mg base (CX w) k fa fd [x] (sp w))
  (hsp:∀(w:World) (H:Hp) (a:Addr) (ns:List Int),ns.length<=n->a5c H->SqL (K w.params) H a (ns.map V.int)->sp w [.ref a] H (fun v _=>v=.bl true) fun _ _ _=>False)
  (hCX:∀(w:World) (H:Hp) (s:a5) (e:Value) (s':a5),CX w [] H s (fun _ _ _=>False) e s'->False) :
  PySem.W.WalkO q loose XP YP l.row.toRowW d [] (fun f vs=>Y7 f vs):=by
 refine Att.a0y hn hdf fun w s₀ s₁ mg mb fa o pm cd doc a vs ns G Y ho hd hcd hmg hobj hints hlen hg=>?_
 have KX:=hY w _ Y
 obtain⟨fd,hb,hF⟩:=F w mg fa _ KX G.T.g hmg
 exact a3w KX G.T.g G.T.b G.T.builtins G.T.nolimit hg hobj hints (k6 hlen hn2) hr hF hb (fun H hO hS=>hsp w H a ns hlen hO hS) fun H e s'=>hCX w H s₁ e s'
abbrev CX0:CXT:=fun _ _ _ _ _ _=>False
abbrev E0:XK:=fun _ _ _=>False
theorem a7X{X:Cx}:Y4 CX0 X E0:=fun _ _ _ _ _ _ _ h=>h.elim
structure Fun(K:Fg)(x qual:Str)(st:Stmt)(f:Addr)(fd:o5):Prop where
 ex:∃(oc:Value) (od:Option Addr) (kV doc pm:Value) (an:Option Addr) (cdv ct:Value) (osl:Array (Option Value)),
  fd=p8 x qual (B9 st) (u4 st) (d0 st) .none kV doc pm an cdv ct/\K.lookup f=some ⟨oc,od,.func fd,osl⟩/\F0 K cdv qual=true
 kp:l4 K (.ref f)=true
section
variable {P:b8}{w:World}{K:Fg}{mg:Str->Option Value}{base:Heap}
theorem Fun.ok{qual:Str}{st:Stmt}{f:Addr}{fd:o5}{N ps:List Str}{k:Nat}{sp:Sp}(F:Fun K x qual st f fd)(S:l9 N ps (d0 st))(len:∀vs H Q E,sp vs H Q E->vs.length=ps.length)
  (hbody:∀(cdv:Value) (A:d8) (outer:List Env) (s:a5) (H:Hp) (vs:List V) (Q:VK) (E:XK),n0 k (A.deeper (T9 qual (d0 st) s.heap.objs.size f cdv))->sp vs H Q E ->
   ∃t,PSs (L7 CX0 P w K mg base N qual (d0 st) f cdv A outer s H E).nox (u4 st) t/\t { nx:=fun _ H'=>Q .non H',rt:=Q } (F5 N vs) H):n8 P w K mg base CX0 (k+1) f fd ps sp:=by
 obtain⟨oc,od,kV,doc,pm,an,cdv,ct,osl,rfl,lk,hcd⟩:=F.ex
 refine a5x lk hcd S len fun A outer s H vs Q E hr hsp=>?_
 obtain⟨t,h,q⟩:=hbody cdv A outer s H vs Q E hr hsp
 exact⟨t,h.nox,q⟩
theorem Fun.binds{qual:Str}{st:Stmt}{f:Addr}{fd:o5}{ps:List Str}(F:Fun K x qual st f fd)
  (h:∀(kV doc pm:Value) (an:Option Addr) (cdv ct:Value) (us:List Value),us.length=ps.length->bindArgs (p8 x qual (B9 st) (u4 st) (d0 st) .none kV doc pm an cdv ct) ⟨us,[]⟩=pure (ps.zip us)):C5 K fd ps []:=by
 obtain⟨oc,od,kV,doc,pm,an,cdv,ct,osl,rfl,lk,hcd⟩:=F.ex
 exact .all (h kV doc pm an cdv ct)
theorem a6Z{qual:Str}{st:Stmt}{f:Addr}{oc:Value}{od an:Option Addr}{osl:Array (Option Value)}{kV doc pm cdv ct:Value}(l:K.lookup f=some ⟨oc,od,.func (p8 x qual (B9 st) (u4 st) (d0 st) .none kV doc pm an cdv ct),osl⟩)
  (c:F0 K cdv qual=true) (k:l4 K (.ref f)=true):Fun K x qual st f (p8 x qual (B9 st) (u4 st) (d0 st) .none kV doc pm an cdv ct):=⟨⟨oc,od,kV,doc,pm,an,cdv,ct,osl,rfl,l,c⟩,k⟩
end
section
variable {X:Cx}
theorem pv(i:Nat){pos:Pos}(hN:X.N[i]? = some x:=by rfl)(hv:Vis X.env.scope x:=by first | exact Or.inl rfl | exact Or.inr (Or.inl rfl) | exact Or.inr (Or.inr rfl))(hd:(x == ("__debug__" : Str))=false:=by decide)
  (hcd:(x == ("__classdict__" : Str))=false:=by decide):PE X (.Name x pos) (f7 i):=a3k hN hv hd hcd
end
theorem a9C{A B:Prop}(h:B):if false=true then A else B:=by
 rw[if_neg b6]
 exact h
theorem a3y{c A B:Prop}[Decidable c](h1:c->A)(h2:¬c->B):if c then A else B:=by
 by_cases h:c
 ·rw[if_pos h]
  exact h1 h
 ·rw[if_neg h]
  exact h2 h
def v4(H H':Hp):Prop:=∀b o,H b=some o->H' b=some o
theorem v4.refl(H:Hp):v4 H H:=fun _ _ h=>h
theorem v4.trans{H H1 H2:Hp}(a:v4 H H1)(b:v4 H1 H2):v4 H H2:=fun c o h=>b c o (a c o h)
theorem v4.free{H H':Hp}(e:v4 H H'){l:Addr}(h:H' l=Option.none):H l=Option.none:=by
 cases q:H l with
 | none=>rfl
 | some o=>
  rw[e l o q]at h
  cases h
theorem v4.seq{K:Fg}{H H':Hp}{a:Addr}{xs:List V}(e:v4 H H')(h:SqL K H a xs):SqL K H' a xs:=by
 rcases h with (h | ⟨o,h⟩) | h
 ·exact .inl (.inl (e _ _ h))
 ·exact .inl (.inr ⟨o,e _ _ h⟩)
 ·exact .inr h
section
variable {κ:Type}[DecidableEq κ]
end
end L2
set_option maxHeartbeats 4000000
namespace L2
open PySem PySem.Spec PyProof.Rows
variable{env:Env}{scope:Scope}{X:Cx}{s:a5}{elt iter:Expr}{ifs:List Expr}{pos:Pos}{x:Str}{pins:List (Addr×Obj)}{σ:St}{H:Hp}
theorem X6:∀(names:List (Str×F4)) (cs:List (Str×Addr)),(∀y∈names,y.2=.free->∃c,env.cells.lookup y.1=some c) ->
  (∀y c,cs.lookup y=some c->env.cells.lookup y=some c) ->
  ∃cl,(forIn names cs (fun(x:Str×F4) (r:List (Str×Addr))=>(if(x.2 == NameKind.free)=true then (do let c <-cellOf env x.1;pure (ForInStep.yield ((x.1,c)::r)))else pure (ForInStep.yield r):Sem (ForInStep (List (Str×Addr)))))=(pure cl:Sem (List (Str×Addr)))) /\
   (∀y c,cl.lookup y=some c->env.cells.lookup y=some c)/\(∀y,(y,NameKind.free)∈names\/(cs.lookup y).isSome=true->(cl.lookup y).isSome=true)
 | [],cs,_,h=>⟨cs,rfl,h,fun y q=>q.elim (fun z=>absurd z (by simp)) id⟩
 | (n,k)::r,cs,hc,h=>by
  by_cases e:(k == NameKind.free)=true
  ·have ek:k=.free:=by simpa using e
   obtain⟨c,hcc⟩:=hc (n,k) A2 ek
   have h':∀y d,((n,c)::cs).lookup y=some d->env.cells.lookup y=some d:=by
    intro y d q
    rw[e8]at q
    cases eq:y == n with
    | true=>
     rw[eq]at q
     have e2:y=n:=by simpa using eq
     cases q;rw[e2];exact hcc
    | false=>rw[eq]at q;exact h y d q
   obtain⟨cl,h1,h2,h3⟩:=X6 r ((n,c)::cs) (fun y hy=>hc y (m5 _ hy)) h'
   refine⟨cl,?_,h2,fun y q=>h3 y ?_⟩
   ·rw[a7j]
    show((if(k == NameKind.free)=true then (do let c <-cellOf env n;pure (ForInStep.yield ((n,c)::cs)))else pure (ForInStep.yield cs):Sem (ForInStep (List (Str×Addr)))) >>= _)=_
    rw[if_pos e]
    have ec:cellOf env n=pure c:=by unfold cellOf;rw[hcc]
    rw[ec]
    exact h1
   ·rcases q with q | q
    ·rcases j8.mp q with q | q
     ·cases q
      right
      simp[e8]
     ·exact .inl q
    ·right
     rw[e8]
     cases y == n
     ·exact q
     ·rfl
  ·obtain⟨cl,h1,h2,h3⟩:=X6 r cs (fun y hy=>hc y (m5 _ hy)) h
   refine⟨cl,?_,h2,fun y q=>h3 y ?_⟩
   ·rw[a7j]
    show((if(k == NameKind.free)=true then (do let c <-cellOf env n;pure (ForInStep.yield ((n,c)::cs)))else pure (ForInStep.yield cs):Sem (ForInStep (List (Str×Addr)))) >>= _)=_
    rw[if_neg e]
    exact h1
   ·rcases q with q | q
    ·rcases j8.mp q with q | q
     ·cases q
      exact absurd rfl e
     ·exact .inl q
    ·exact .inr q
theorem R5(hc:∀y∈scope.names,y.2=.free->∃c,env.cells.lookup y.1=some c) :
  ∃cl,closureFor scope env=pure cl/\(∀y c,cl.lookup y=some c->env.cells.lookup y=some c)/\∀y,(y,NameKind.free)∈scope.names->(cl.lookup y).isSome=true:=by
 obtain⟨cl,h1,h2,h3⟩:=X6 scope.names [] hc (fun y c q=>by cases q)
 refine⟨cl,?_,h2,fun y q=>h3 y (.inl q)⟩
 unfold closureFor
 first
  | exact h1
  | (show(forIn scope.names [] _ >>= fun r=>pure r)=_;rw[h1];rfl)
theorem o8{env:Env}:∀ {names:List (Str×F4)} {y:Str} {k:F4},
  (names.map fun(n,k)=>if(k == NameKind.free&&env.scope.kind == .function&&env.kindOf n == some .cell)then (n,NameKind.cell)else (n,k)).lookup y=some k ->
  names.lookup y=some k\/(names.lookup y=some .free/\k=.cell)
 | [],_,_,h=>by cases h
 | (n,k0)::r,y,k,h=>by
  have ih := @o8 env r y k
  rw[m7]at h
  rw[e8]
  cases hx:y == n with
  | true=>
   by_cases hc:(k0 == NameKind.free&&env.scope.kind == .function&&env.kindOf n == some .cell)=true
   ·have e2:k0=.free:=by simp at hc;exact hc.1.1
    dsimp only at h
    rw[if_pos hc,e8,hx]at h
    cases h
    exact .inr ⟨by rw[e2],rfl⟩
   ·dsimp only at h
    rw[if_neg hc,e8,hx]at h
    exact .inl h
  | false=>
   by_cases hc:(k0 == NameKind.free&&env.scope.kind == .function&&env.kindOf n == some .cell)=true
   ·dsimp only at h
    rw[if_pos hc,e8,hx]at h
    exact ih h
   ·dsimp only at h
    rw[if_neg hc,e8,hx]at h
    exact ih h
def hid(x:Str)(N:List Str):List Str:=N.map fun y=>if y=x then ("." : Str)++x else y
def g8(X:Cx)(scope:Scope)(cl:List (Str×Addr))(C:Addr)(x:Str)(fp:List Addr)(s3:a5)(H3:Hp):Cx:=
 { X with N:=x::hid x X.N,s₀:=s3,H₀:=H3,env:=a2w scope cl C X.env,outer:=X.stack,stack:=X.stack,ex:=fp,fn:=fun _=>false,pn:=[],xe:=fun _ _=>False }
structure z9(N:List Str)(osc sc:Scope)(x:Str):Prop where
 kind:sc.kind=.function
 cell:∀y∈sc.names,y.2≠.cell
 names:∀y∈sc.names,y.2=.local->sc.names.lookup y.1=some .local
 own:sc.names.lookup x=some .local
 fr:∀y∈sc.names,y.2=.free->osc.names.lookup y.1=some .cell\/osc.names.lookup y.1=some .free
 see:∀y∈hid x N,sc.names.lookup y≠some .local
 dot:sc.names.lookup (("." : Str)++x)=none
 nd:(x::hid x N).Nodup
def P8(wi:TI)(tt:TT)(te:TE):TE:=fun σ H Q=>wi σ H fun J H1=>∀D,H1 D=none->∃W:Nat->Nat->List V->Hp->Prop,
 (∃m,W 0 m [] (upd H1 D (.lst [])))/\∀i m ys H2,W i m ys H2->H2 D=some (.lst ys) /\
  ((J.stop i H2 /\ Q (.ref D) H2) \/ (J.go i H2 /\ ∀ x H3,J.yld i H2 x H3 -> tt (some x :: σ) H3 fun ok H4 => if ok = true then
    te (some x::σ) H4 (fun y H5=>H5 D=some (.lst ys)/\ys.length<b5/\∃m',m'<m/\W (i+1) m' (ys++[y]) (upd H5 D (.lst (ys++[y]))))
    else ∃m',m'<m/\W (i+1) m' ys H4))
def PTs(X:Cx)(ifs:List Expr)(t:TT):Prop:=
 ∀(pins:List (Addr×Obj)) (s:a5) (σ:St) (H:Hp) (Q:Bool->Hp->Prop),Inv X pins σ H s->t σ H Q ->
  wpAny (model X.prog X.w) X.A (forIn ifs true fun c r=>if r=true then do let ok <-isTrue c X.env (eval c X.env);pure (ForInStep.yield ok)else pure (ForInStep.yield r)) (TP X pins σ Q) X.xe s
def P7:TT:=fun _ H Q=>Q true H
theorem a4k:PTs X [] P7:=fun _ _ _ H _ I h=>wpAny_tests_nil ⟨H,I,h⟩
theorem U9{prog:b8}{w:World}{A:d8}{R:a1c->a5->Prop}{target:Expr}{it acc:Value}(I:Nat->a5->Prop)
  (turn:∀n s,I n s->wpAny (model prog w) A (a7o it) (fun r s₁=>match r with
   | none=>R (.ok .next) s₁
   | some v=>wpAny (model prog w) A (D2 target it v) (fun _ s₂=>wpAny (model prog w) A (assign target env v) (fun _ s₃=>
     wpAny (model prog w) A (forIn ifs true fun c r=>if r=true then do let ok <-isTrue c env (eval c env);pure (ForInStep.yield ok)else pure (ForInStep.yield r)) (fun ok s₄=>
      if ok=true then wpAny (model prog w) A (eval elt env) (fun x s₅=>
       wpAny (model prog w) A (call (.builtin "list.append") [acc,x]) (fun _ s₆=>∃m,m<n/\I m s₆) (fun _ _=>False) s₅) (fun _ _=>False) s₄
      else ∃m,m<n/\I m s₄) (fun _ _=>False) s₃) (fun _ _=>False) s₂) (fun _ _=>False) s₁) (fun _ _=>False) s)
  (n:Nat) (h:I n s) :
  D3 (model prog w) A (.compLoop (.ListComp elt [⟨target,iter,ifs,0⟩] scope pos) 0 it acc env) R s:=by
 have up:∀ {α:Type} {m:Sem α} {Q:α->a5->Prop} {E:Value->a5->Prop} {s:a5},wpAny (model prog w) A m Q (fun _ _=>False) s->wpAny (model prog w) A m Q E s:=
  fun h=>j7 h (fun _ _ q=>q) fun _ _ f=>f.elim
 refine codeAny_loop rfl I (fun n s hI=>?_) n h
 refine wpAny_noted ?_
 rw[compTurn_list]
 refine a6 (C6 (a6 (up (thn (turn n s hI) fun r s₁ h₁=>?_))))
 cases r with
 | none=>exact d7 h₁
 | some v=>
  refine a6 (up (thn h₁ fun _ s₂ h₂=>a6 (up (thn h₂ fun _ s₃ h₃=>a6 (up (thn h₃ fun ok s₄ h₄=>?_))))))
  cases ok with
  | false=>exact d7 ⟨rfl,by simpa using h₄⟩
  | true=>
   rw[if_pos rfl]at h₄
   exact a6 (a6 (up (thn h₄ fun x s₅ h₅=>a6 (up (thn h₅ fun _ s₆ h₆=>d7 (d7 ⟨rfl,h₆⟩))))))
section
variable {px:Pos}
theorem a0u{s3:a5}{cl:List (Str×Addr)}{fp:List Addr}{h4:Heap}{tk:Nat}(hc:z9 X.N X.env.scope scope x)(I:Inv X pins σ H s3)
  (hcl:∀y c,cl.lookup y=some c->X.env.cells.lookup y=some c) (hcl2:∀y,(y,NameKind.free)∈scope.names->(cl.lookup y).isSome=true)
  (fpo:∀b∈fp,u5 X pins H b) (fpl:∀b∈fp,b<s3.heap.objs.size)
  (hn:h4.Ns s3.heap.objs.size (fun _=>none)) (k:∀b o,s3.heap.get? b=some o->h4.get? b=some o) :
  Inv (g8 X scope cl s3.heap.objs.size x fp s3 H) [] (none::σ) H { s3 with heap:=h4,toks:=tk }:=by
 have low:∀x y,(g8 X scope cl s3.heap.objs.size x fp s3 H).env.cells.lookup y=cl.lookup y:=fun _ _=>rfl
 have below:∀y c,cl.lookup y=some c->c<s3.heap.objs.size:=fun y c e=>by
  obtain⟨v,q⟩:=I.cell y c (hcl y c e)
  exact q.lt
 have kinds:∀y,((g8 X scope cl s3.heap.objs.size x fp s3 H).env.kindOf y=some .cell\/(g8 X scope cl s3.heap.objs.size x fp s3 H).env.kindOf y=some .free)->scope.names.lookup y=some .free:=by
  intro y hy
  rcases hy with hy | hy
  ·rcases o8 hy with q | ⟨q,_⟩
   ·exact absurd rfl (hc.cell _ (g5 q))
   ·exact q
  ·rcases o8 hy with q | ⟨q,z⟩
   ·exact q
   ·cases z
 refine⟨⟨I.ok.mod,?_,I.ok.glob,I.ok.blt,e7 _,fun y z c h1 h2=>?_,fun y hy=>?_,fun y c h=>?_,I.ok.hd,I.ok.frames,.inl rfl,fun b hb=>⟨?_,fun y c e z=>?_⟩,fun b o e=>I.bs b o e,k6 I.ok.bsz I.sz,fun b o e hb=>?_,fun b hb hf=>?_,I.stack,I.stkFree⟩,
  rfl,I.bare,Un.kept k,⟨_,hn,fun i y v h1 h2 h3=>?_⟩,fun y c e=>?_,I.fresh,fun y c e=>?_,fun p hp=>absurd (show p∈([]:List (Addr×Obj))from hp) (by simp),I.hok.kept k,?_⟩
 ·exact hc.kind
 ·exact I.ok.inj y z c (hcl _ _ h1) (hcl _ _ h2)
 ·have:=hcl2 y (g5 (kinds y hy))
  exact B7.mp this
 ·cases h
 ·exact d9 (fpl b hb)
 ·exact(fpo b hb).2.2.2.2.1 y c (hcl y c e) z
 ·rcases(fpo b hb).2.2.2.1 with q | q
  ·exact I.ok.noex b o e q
  ·exact absurd (a9 (a8 (I.ok.bs b o e).1) q) (e6 _)
 ·rcases j8.mp (I.stkSub b hf)with e | e
  ·exact(fpo b hb).2.1 e
  ·exact(fpo b hb).2.2.1 e
 ·-- the names
  have h1:(x::hid x X.N)[i]? = some y:=h1
  cases i with
  | zero=>cases h2
  | succ i=>
   have h1:(hid x X.N)[i]? = some y:=h1
   have h2:σ[i]? = some (some v):=h2
   have my:y∈hid x X.N:=G4 h1
   have h3:(a2D scope X.env).names.lookup y=some .local\/(a2D scope X.env).names.lookup y=some .cell\/(a2D scope X.env).names.lookup y=some .free:=h3
   have hf:scope.names.lookup y=some .free:=by
    rcases h3 with q | q
    ·rcases o8 q with q | ⟨_,z⟩
     ·exact absurd q (hc.see y my)
     ·cases z
    ·exact kinds y q
   have hy:X.N[i]? = some y:=by
    unfold hid at h1
    rw[C2]at h1
    cases e:X.N[i]? with
    | none=>rw[e]at h1;cases h1
    | some z=>
     rw[e]at h1
     by_cases ez:z=x
     ·rw[a5e,if_pos ez]at h1
      have h1:=Option.some.inj h1
      subst h1
      rw[hc.dot]at hf
      cases hf
     ·rw[a5e,if_neg ez]at h1
      exact h1
   obtain⟨m,_,hl⟩:=I.loc
   obtain⟨c,hcc⟩:=B7.mp (hcl2 y (g5 hf))
   have vis:Vis X.env.scope y:=by
    rcases hc.fr _ (g5 hf) rfl with q | q
    ·exact .inr (.inl q)
    ·exact .inr (.inr q)
   obtain⟨u,ru,lk⟩:=hl i y v hy h2 vis
   refine⟨u,ru,.inr ⟨?_,c,hcc,?_⟩⟩
   ·rcases h3 with q | q
    ·rcases o8 q with q | ⟨_,z⟩
     ·exact absurd q (hc.see y my)
     ·cases z
    ·exact q
   ·have hce:=hcl y c hcc
    rcases lk with ⟨q,_⟩ | ⟨_,c',e',z⟩
    ·rcases hc.fr _ (g5 hf) rfl with q' | q'
     ·have q:X.env.scope.names.lookup y=some .local:=q
      rw[show X.env.scope.names.lookup y=some NameKind.cell from q']at q
      cases q
     ·have q:X.env.scope.names.lookup y=some .local:=q
      rw[show X.env.scope.names.lookup y=some NameKind.free from q']at q
      cases q
    ·rw[e']at hce
     cases hce
     obtain⟨o,ho,hd⟩:=z
     exact⟨o,k _ _ ho,hd⟩
 ·obtain⟨v,o,ho,hd⟩:=I.cell y c (hcl y c e)
  exact⟨v,o,k _ _ ho,hd⟩
 ·exact I.freeC y c (hcl y c e)
 ·show(none::σ).length=(x::hid x X.N).length
  have:=I.len
  simp[hid,this]
theorem a0Y{H1:Hp}{s2:a5}{cl:List (Str×Addr)}{fp:List Addr}{it:Addr}{tn:Nat->Heap->Prop}{J:It}{tt:TT}{te:TE}{Q:VK}{E:Value->a5->Prop}
  {RR:Value->Addr->a1c->a5->Prop} (hc:z9 X.N X.env.scope scope x) (hcalm:X.calm=true)
  (hcl:∀y c,cl.lookup y=some c->X.env.cells.lookup y=some c) (hcl2:∀y,(y,NameKind.free)∈scope.names->(cl.lookup y).isSome=true)
  (ht:∀C fp s3 H3,PTs (g8 X scope cl C x fp s3 H3) ifs tt) (he:∀C fp s3 H3,PE (g8 X scope cl C x fp s3 H3) elt te)
  (I:Inv X pins σ H1 s2) (T:a5b X.prog X.w X.K (.Name x px) J fp it tn) (st:tn 0 s2.heap) (fpo:∀b∈fp,u5 X pins H1 b)
  (h:∀D,H1 D=none->∃W:Nat->Nat->List V->Hp->Prop,
   (∃m,W 0 m [] (upd H1 D (.lst [])))/\∀i m ys H2,W i m ys H2->H2 D=some (.lst ys) /\
   ((J.stop i H2 /\ Q (.ref D) H2) \/ (J.go i H2 /\ ∀ x H3,J.yld i H2 x H3 -> tt (some x :: σ) H3 fun ok H4 => if ok = true then
     te (some x::σ) H4 (fun y H5=>H5 D=some (.lst ys)/\ys.length<b5/\∃m',m'<m/\W (i+1) m' (ys++[y]) (upd H5 D (.lst (ys++[y]))))
     else ∃m',m'<m/\W (i+1) m' ys H4)))
  (hRR:∀D C s' H' m,Inv X pins σ H' s'->s'.heap.Ns C m->H' C=none->C≠X.env.locals->X.s₀.heap.objs.size<=C->(∀y c,X.env.cells.lookup y=some c->c≠C)->(∀p∈X.pn++pins,p.1≠C)->Q (.ref D) H'->RR (.ref D) C (.ok .next) s') :
  wpAny (model X.prog X.w) X.A (newList []) (fun acc s₃=>wpAny (model X.prog X.w) X.A (newFunctionEnv scope X.env.globals cl [] X.env.qual none .none (some X.env)) (fun cenv s₄=>
   D3 (model X.prog X.w) X.A (.compStart (.ListComp elt [⟨.Name x px,iter,ifs,0⟩] scope pos) 0 (.ref it) acc { cenv with scope:=a2D scope X.env }) (RR acc cenv.locals) s₄) E s₃) E s2:=by
 refine z7 (hd:=by size_fits) ?_
 have I3:=I.lnew (ys:=[]) (its:=[]) (t':=s2.toks) .nil (by show 0<=b5;exact J8 _)
 obtain⟨W,⟨m0,w0⟩,turn⟩:=h _ I.fresh
 generalize hD:s2.heap.objs.size=D at I3 w0 turn ⊢
 generalize hs3:({ s2 with heap:=s2.heap.push { cls:=.type "list",data:=.seq ([]:List Value).toArray } }:a5)=s3
 have hs3':({ s2 with heap:=s2.heap.push { cls:=.type "list",data:=.seq ([]:List Value).toArray },toks:=s2.toks }:a5)=s3:=hs3
 rw[hs3']at I3
 have keep3:∀b o,s2.heap.get? b=some o->s3.heap.get? b=some o:=fun b o e=>by rw[<-hs3];exact a7 _ e
 have fpl:∀b∈fp,b<s3.heap.objs.size:=fun b hb=>by
  obtain⟨o,e,_⟩:=T.obj _ _ st b hb
  exact a8 (keep3 b o e)
 have fpD:∀b∈fp,b≠D:=fun b hb z=>by
  obtain⟨o,e,_⟩:=T.obj _ _ st b hb
  exact absurd (a8 e) (by rw[z,hD];exact e6 _)
 have fpo3:∀b∈fp,u5 X pins (upd H1 D (.lst [])) b:=fun b hb=>⟨by rw[c8 (fpD b hb)];exact(fpo b hb).1,(fpo b hb).2⟩
 show wpAny _ _ _ _ _ s3
 refine a8s hc.cell (by intro y hy;simp at hy) (fun h₁ hns₁ hsb₁=>?_) hc.kind
 dsimp only[newEnv]at hns₁ hsb₁ ⊢
 have keep4:∀b o,s3.heap.get? b=some o->h₁.get? b=some o:=fun b o e=>hsb₁.extBut b o (d9 (a8 e)) (a7 _ e)
 have I4:=a0u (tk:=s3.toks+([]:List (Str×Value)).length) hc I3 hcl hcl2 fpo3 fpl hns₁ keep4
 have st4:tn 0 h₁:=T.keep _ _ _ st fun b hb o e=>keep4 b o (keep3 b o e)
 have loop:∀s₄:a5,s₄={ s3 with heap:=h₁,toks:=s3.toks+([]:List (Str×Value)).length } ->
   D3 (model X.prog X.w) X.A (.compLoop (.ListComp elt [⟨.Name x px,iter,ifs,0⟩] scope pos) 0 (.ref it) (.ref D) (a2w scope cl s3.heap.objs.size X.env)) (RR (.ref D) s3.heap.objs.size) s₄:=by
  rintro s₄ rfl
  have stat:∀ {H':Hp},(∀b∈fp,H' b=none)->∀b∈fp,u5 (g8 X scope cl s3.heap.objs.size x fp s3 (upd H1 D (.lst []))) [] H' b:=fun hn b hb=>
   ⟨hn b hb,d9 (fpl b hb),fun hf=>by
    rcases j8.mp (I3.stkSub b hf)with e | e
    ·exact(fpo b hb).2.1 e
    ·exact(fpo b hb).2.2.1 e,.inl hb,fun y c e=>(fpo b hb).2.2.2.2.1 y c (hcl y c e),fun p hp=>absurd (show p∈([]:List (Addr×Obj))from hp) (by simp)⟩
  refine U9 (env:=a2w scope cl s3.heap.objs.size X.env) (fun n s'=>∃i ys H',Inv (g8 X scope cl s3.heap.objs.size x fp s3 (upd H1 D (.lst []))) [] (none::σ) H' s'/\tn i s'.heap/\(∀b∈fp,H' b=none)/\W i n ys H') ?_ m0
   ⟨0,[],_,I4,st4,fun b hb=>(fpo3 b hb).1,w0⟩
  rintro n s5 ⟨i,ys,H5,I5,st5,fr5,w5⟩
  obtain⟨hDy,alt⟩:=turn i n ys H5 w5
  rcases alt with ⟨stop,q⟩ | ⟨go,step⟩
  ·refine j7 (T.done (g8 X scope cl s3.heap.objs.size x fp s3 (upd H1 D (.lst []))) rfl rfl rfl hcalm i [] s5 _ H5 (fun _ _=>False) I5 (stat fr5) st5 stop) (fun r s6 ⟨hr,I6⟩=>?_) fun _ _ f=>f
   subst hr
   obtain⟨m6,n6,_⟩:=I6.loc
   have J6:Inv X pins σ H5 s6:=by
    refine I3.call' (ch:=fp) I6.os I6.base I6.hok I6.bare fun b hb=>?_
    obtain⟨_,f1,f2,f3,f4,f5⟩:=fpo3 b hb
    exact⟨f3,f1,f4,f5⟩
   refine hRR D _ s6 H5 m6 J6 n6 I6.free (A0 I3.lt) I3.sz (fun y c e z=>?_) (fun p hp z=>?_) q
   ·obtain⟨v,q⟩:=I3.cell y c e
    exact absurd q.lt (by rw[z];exact e6 _)
   ·exact absurd (a8 (I3.pin p hp).1) (by rw[z];exact e6 _)
  ·refine j7 (T.item (g8 X scope cl s3.heap.objs.size x fp s3 (upd H1 D (.lst []))) rfl rfl rfl hcalm i [] s5 _ H5 (fun _ _=>False) I5 (stat fr5) st5 go) (fun r s6 ⟨u,hr,h6⟩=>?_) fun _ _ f=>f
   subst hr
   refine thn h6 fun _ s6 ⟨xv,H6,I6,r6,y6,st6,fr6⟩=>?_
   have I6':=I6.pinned (stat fr6) (T.obj _ _ st6)
   refine a0F (A6 (i:=0) I6' ?nd rfl (.inl ?loc) r6 (fun s7 I7=>?_) (.inr ?loc))
   case nd=>exact hc.nd
   case loc=>exact a8t hc.own
   have I7:Inv (g8 X scope cl s3.heap.objs.size x fp s3 (upd H1 D (.lst []))) ([]++D8 fp s6.heap) (some xv::σ) H6 s7:=I7
   have again:∀ {s8:a5} {H8:Hp} {ys8:List V},Inv (g8 X scope cl s3.heap.objs.size x fp s3 (upd H1 D (.lst []))) ([]++D8 fp s6.heap) (some xv::σ) H8 s8->(∃m',m'<n/\W (i+1) m' ys8 H8) ->
     ∃m,m<n/\∃i ys H',Inv (g8 X scope cl s3.heap.objs.size x fp s3 (upd H1 D (.lst []))) [] (none::σ) H' s8/\tn i s8.heap/\(∀b∈fp,H' b=none)/\W i m ys H':=by
    rintro s8 H8 ys8 I8 ⟨m',hm,w8⟩
    refine⟨m',hm,i+1,ys8,H8,(I8.unpinned (pins:=[])).weak rfl (fun j v e=>?_),T.keep _ _ _ st6 fun b hb o e=>(I8.pin (b,o) (c4 _ (c4 _ (v8 hb e)))).1,fun b hb=>?_,w8⟩
    ·cases j with
     | zero=>cases e
     | succ j=>exact e
    ·obtain⟨o,e,d⟩:=T.obj _ _ st6 b hb
     exact(I8.pin (b,o) (c4 _ (c4 _ (v8 hb e)))).2.1
   refine thn (ht _ fp s3 _ _ s7 _ H6 _ I7 (step xv H6 y6)) (fun ok s8 ⟨H8,I8,q8⟩=>?_)
   cases ok with
   | false=>exact again I8 (by simpa using q8)
   | true=>
    rw[if_pos rfl]at q8
    rw[if_pos rfl]
    refine thn (he _ fp s3 _ _ s8 _ H8 _ I8 q8) (fun v s9 ⟨y,H9,I9,r9,hD9,hz9,w9⟩=>?_)
    refine j7 (U7 (X:=g8 X scope cl s3.heap.objs.size x fp s3 (upd H1 D (.lst []))) _ s9 _ H9 (.ref D) [y] (.ref D) [v] (fun _ H'=>H'=upd H9 D (.lst (ys++[y]))) I9 rfl (.cons r9 .nil) ⟨D,ys,y,rfl,rfl,hD9,hz9,rfl⟩) (fun _ s10 ⟨_,H10,I10,_,e10⟩=>?_) fun _ _ f=>f
    subst e10
    exact again I10 w9
 exact a7m (loop _ rfl) (T.self X.A 0 _ _ _ st4 (loop _ rfl))
theorem R4(hc:z9 X.N X.env.scope scope x)(I:Inv X pins σ H s):∀y∈scope.names,y.2=.free->∃c,X.env.cells.lookup y.1=some c:=by
 intro y hy e
 rcases hc.fr y hy e with q | q
 ·exact I.ok.has y.1 (.inl q)
 ·exact I.ok.has y.1 (.inr q)
theorem a4y{wi:TI}{tt:TT}{te:TE}(hc:z9 X.N X.env.scope scope x)(hcalm:X.calm=true)(hi:PI X (.Name x px) iter wi)
  (ht:∀cl C fp s3 H3,PTs (g8 X scope cl C x fp s3 H3) ifs tt) (he:∀cl C fp s3 H3,PE (g8 X scope cl C x fp s3 H3) elt te)
  (hs:∀x,v0 iter X.env x=pure x:=by intro _;rfl) :
  PE X (.ListComp elt [⟨.Name x px,iter,ifs,0⟩] scope pos) (P8 wi tt te):=by
 intro pins s σ H Q I h
 obtain⟨cl,hclos,hcl,hcl2⟩:=R5 (R4 hc I)
 rw[eval_ListComp]
 refine a5i (use:=none) rfl hs hclos hc.kind hc.names (thn (hi pins s σ H _ I h) fun v s1 h1=>thn h1 fun itv s2 ⟨it,fp,tn,J,H2,e,I2,T,st,fpo,R⟩=>?_)
 subst e
 refine a0Y (RR:=fun acc C=>compPost (model X.prog X.w) X.A X.xe none (EP X pins σ Q) acc C) (Q:=Q) hc hcalm hcl hcl2 (ht cl) (he cl) I2 T st fpo R ?_
 intro D C s' H' m I' n f1 f2 f3 f4 f5 q
 exact⟨m,n,fun h' sb=>⟨.ref D,H',I'.turned (t':=s'.toks) (fun b o hb e=>(sb.2 b hb).trans e) f1 f2 (.inr f3) f4 f5,rfl,q⟩⟩
end
section
theorem OpR.imp{f:Value->Value->Sem Value}{r r':R2}(h:OpR X f r)(i:∀x y H Q,r' x y H Q->r x y H Q):OpR X f r':=fun pins s σ H x y u v Q I rx ry q=>h pins s σ H x y u v Q I rx ry (i _ _ _ _ q)
theorem x9.imp{f:Value}{r r':List V->Hp->VK->Prop}(h:x9 X f r)(i:∀xs H Q,r' xs H Q->r xs H Q):x9 X f r':=fun pins s σ H xs us Q I rx q=>h pins s σ H xs us Q I rx (i _ _ _ q)
theorem IxR.imp{r r':R2}(h:IxR X r)(i:∀x y H Q,r' x y H Q->r x y H Q):IxR X r':=by
 intro value slice pins s σ H x y v u Q I rx ry q hs
 exact h value slice pins s σ H x y v u Q I rx ry (i _ _ _ _ q) hs
theorem SlR.imp{r r':V->Option Int->Option Int->Hp->VK->Prop}(h:SlR X r)(i:∀x lo hi H Q,r' x lo hi H Q->r x lo hi H Q):SlR X r':=fun pins s σ H x v vl vu lo hi sl Q I rx hs pl pu q=>h pins s σ H x v vl vu lo hi sl Q I rx hs pl pu (i _ _ _ _ _ q)
def N0:R2:=fun x y H Q=>match x,y with
 | .int i,.int j=>Q (.int (i+j)) H
 | .str i,.str j=>i.length+j.length<=b5/\Q (.str (i++j)) H
 | .ref a,.ref b=>match H a,H b with
  | some (.lst xs),some (.lst ys)=>xs.length+ys.length<=b5/\∀p,H p=none->Q (.ref p) (upd H p (.lst (xs++ys)))
  | _,_=>False
 | _,_=>False
theorem a4I:OpR X (o1 .Add) N0:=by
 refine(a6G.or (a0Q.or a6F)).imp fun x y H Q h=>?_
 unfold N0 at h
 split at h
 ·exact .inl ⟨_,_,rfl,rfl,h⟩
 ·exact .inr (.inl ⟨_,_,rfl,rfl,h.1,h.2⟩)
 ·split at h
  ·exact .inr (.inr ⟨_,_,_,_,rfl,rfl,by assumption,by assumption,h.1,h.2⟩)
  ·exact h.elim
 ·exact h.elim
def q2I(C:Int->Int->Prop)(g:Int->Int->V):R2:=fun x y H Q=>match x,y with
 | .int i,.int j=>C i j/\Q (g i j) H
 | _,_=>False
def a0j(g:Int->Int->V):R2:=fun x y H Q=>match x,y with
 | .int i,.int j=>Q (g i j) H
 | _,_=>False
theorem W7{f:Value->Value->Sem Value}{C:Int->Int->Prop}{g:Int->Int->V}(h:OpR X f (rI C g)):OpR X f (q2I C g):=h.imp fun x y H Q q=>by
 unfold q2I at q
 split at q
 ·exact⟨_,_,rfl,rfl,q.1,q.2⟩
 ·exact q.elim
theorem W8{f:Value->Value->Sem Value}{g:Int->Int->V}(h:OpR X f (rI0 g)):OpR X f (a0j g):=h.imp fun x y H Q q=>by
 unfold a0j at q
 split at q
 ·exact⟨_,_,rfl,rfl,q⟩
 ·exact q.elim
abbrev b0M:R2:=a0j fun i j=>.int (i - j)
abbrev a1W:R2:=q2I a5d fun i j=>.int (i * j)
abbrev S6:R2:=q2I (fun _ j=>0<j) fun i j=>.int (i % j)
abbrev a6e:R2:=q2I a8o fun i j=>.int (i ^ j.toNat)
abbrev a3h:R2:=q2I (fun _ j=>0<j/\j<2 ^ 64) fun i j=>.int (i / j)
abbrev qLt:R2:=a0j fun i j=>.bl (decide (i<j))
abbrev qLe:R2:=a0j fun i j=>.bl (decide (i<=j))
abbrev qGt:R2:=a0j fun i j=>.bl (decide (j<i))
abbrev qGe:R2:=a0j fun i j=>.bl (decide (j<=i))
theorem a4F:OpR X (o1 .Mult) a1W:=W7 a6D
theorem a4G:OpR X (o1 .Mod) S6:=W7 a6E
theorem a4E:OpR X (o1 .Pow) a6e:=W7 a6C
theorem a4H:OpR X (o1 .FloorDiv) a3h:=W7 (opI fun i j _ _ _ _ _ hc q=>by
 have hl:j.natAbs.log2<9000:=by
  have:j.natAbs<2 ^ 64:=by have:=hc.1;have:=hc.2;omega
  by_cases h0:j.natAbs=0
  ·rw[h0];decide +kernel
  ·exact Nat.lt_trans ((Nat.log2_lt h0).mpr this) (by decide)
 refine floordiv_int (by omega) ?_ (.inl (PyProof.noPylong_of_log2 hl))
 rw[Int.fdiv_eq_ediv_of_nonneg _ (by omega)]
 exact q)
theorem a6z:OpR X (h9 .Lt) qLt:=W8 a7Z
theorem a6A:OpR X (h9 .Gt) qGt:=W8 a8a
theorem a6B:OpR X (h9 .GtE) qGe:=W8 a8b
def qIx:R2:=fun x y H Q=>match x,y with
 | .ref p,.int i=>match H p with
  | some (.lst xs)=>∃v,atI xs i=some v/\Q v H
  | some (.tup xs)=>∃v,atI xs i=some v/\Q v H
  | _=>False
 | .str z,.int i=>z.length<=b5/\∃c,atI z.cps.toList i=some c/\Q (.str ⟨#[c]⟩) H
 | _,_=>False
theorem a9B:IxR X qIx:=a6V.imp fun x y H Q h=>by
 unfold qIx at h
 split at h
 ·split at h
  ·obtain⟨v,e,q⟩:=h
   exact .inl ⟨_,_,_,v,rfl,rfl,SqL.of (by assumption),e,q⟩
  ·obtain⟨v,e,q⟩:=h
   exact .inr (.inl ⟨_,_,_,v,rfl,rfl,SqT.of (by assumption),e,q⟩)
  ·exact h.elim
 ·obtain⟨z,c,e,q⟩:=h
  exact .inr (.inr ⟨_,_,c,rfl,rfl,z,e,q⟩)
 ·exact h.elim
def qSl:V->Option Int->Option Int->Hp->VK->Prop:=fun x lo hi H Q=>match x with
 | .ref a=>match H a with
  | some (.lst xs)=>∀p,H p=none->Q (.ref p) (upd H p (.lst (X5 xs lo hi)))
  | some (.tup xs)=>¬(HT.sIx xs.length 0 lo=0/\HT.sIx xs.length xs.length hi=xs.length)/\∀p,H p=none->Q (.ref p) (upd H p (.tup (X5 xs lo hi)))
  | _=>False
 | _=>False
def a1X:List V->Hp->VK->Prop:=fun xs H Q=>match xs with
 | [.ref p]=>match H p with
  | some (.lst ys)=>Q (.int ys.length) H
  | some (.tup ys)=>Q (.int ys.length) H
  | _=>False
 | [.str z]=>z.length<=b5/\Q (.int z.length) H
 | _=>False
theorem a2r:x9 X (.builtin "len") a1X:=(X8.or X7).imp fun xs H Q h=>by
 unfold a1X at h
 split at h
 ·split at h
  ·exact .inl ⟨_,_,rfl,.inl (SqL.of (by assumption)),h⟩
  ·exact .inl ⟨_,_,rfl,.inr (SqT.of (by assumption)),h⟩
  ·exact h.elim
 ·exact .inr ⟨_,rfl,h.1,h.2⟩
 ·exact h.elim
def a3i:List V->Hp->VK->Prop:=fun xs H Q=>match xs with
 | [.int i]=>Q (.int (if i<0 then -i else i)) H
 | _=>False
theorem a2t:x9 X (.builtin "abs") a3i:=a3I.imp fun xs H Q h=>by
 unfold a3i at h
 split at h
 ·exact⟨_,rfl,h⟩
 ·exact h.elim
def W6:V->V->V->Hp->(Hp->Prop)->Prop:=fun o i v H Q=>match o,i with
 | .ref p,.int k=>match H p with
  | some (.lst xs)=>∃j,ixN xs.length k=some j/\Q (upd H p (.lst (xs.set j v)))
  | _=>False
 | _,_=>False
theorem a7s:a3L X W6:=by
 intro pins s σ H o i v u1 u2 u3 Q I r1 r2 r3 h
 refine a3a pins s σ H o i v u1 u2 u3 Q I r1 r2 r3 ?_
 unfold W6 at h
 split at h
 ·split at h
  ·obtain⟨j,e,q⟩:=h
   exact⟨_,_,_,j,rfl,rfl,by assumption,e,q⟩
  ·exact h.elim
 ·exact h.elim
def v9(xs ys:List V):Bool:=(u8 (min xs.length ys.length)).all (fun j=>eqV (xs.getD j .non) (ys.getD j .non))&&xs.length == ys.length
def eqO(x y:V)(H:Hp):Option Bool:=if a0e x y=true then some (decide (x=y))else match x,y with
 | .ref a,.ref b=>match H a,H b with
  | some (.tup xs),some (.tup ys)=>if xs.all k7=true/\ys.all k7=true then some (v9 xs ys)else none
  | some (.lst xs),some (.lst ys)=>if xs.all k7=true/\ys.all k7=true then some (v9 xs ys)else none
  | _,_=>none
 | .non,.ref a=>match H a with
  | some (.tup _)=>some false
  | _=>none
 | .ref a,.non=>match H a with
  | some (.tup _)=>some false
  | _=>none
 | _,_=>none
def qEq:R2:=fun x y H Q=>∃b,eqO x y H=some b/\Q (.bl b) H
def qNe:R2:=fun x y H Q=>∃b,eqO x y H=some b/\Q (.bl (!b)) H
theorem N8{A:d8}{xs ys:List V}{us ws:List Value}(rx:f9 xs us)(ry:f9 ys ws)(fx:xs.all k7=true)(fy:ys.all k7=true) :
  ∀j (h1:j<us.toArray.size) (h2:j<ws.toArray.size),SeqAt.EqAt A s us.toArray[j] ws.toArray[j] (eqV (xs.getD j .non) (ys.getD j .non)):=by
 intro j h1 h2
 have l1:=rx.length
 have l2:=ry.length
 have h1':j<us.length:=by simpa using h1
 have h2':j<ws.length:=by simpa using h2
 have e1:xs[j]? = some (xs[j]'(by omega)):=by simp
 have e2:ys[j]? = some (ys[j]'(by omega)):=by simp
 obtain⟨u,hu,ru⟩:=rx.get e1
 obtain⟨w,hw,rw'⟩:=ry.get e2
 have z1:us.toArray[j]=u:=by
  have:us[j]? = some us[j]:=by simp
  rw[this]at hu
  simpa using hu
 have z2:ws.toArray[j]=w:=by
  have:ws[j]? = some ws[j]:=by simp
  rw[this]at hw
  simpa using hw
 rw[z1,z2]
 have g1:xs.getD j .non=xs[j]'(by omega):=by simp[List.getD,e1]
 have g2:ys.getD j .non=ys[j]'(by omega):=by simp[List.getD,e2]
 rw[g1,g2]
 exact a3C ru rw' (C8.mp fx _ (a5B _)) (C8.mp fy _ (a5B _))
theorem a5s{x y:V}{v u:Value}{k:Bool}(I:Inv X pins σ H s)(hu:X.A.units<cLine)(rx:f6 x v)(ry:f6 y u)(hs:¬a0e x y=true)(e:eqO x y H=some k) :
  SeqAt.RcAt X.A s v u k/\SeqAt.RcNeAt X.A s v u (!k):=by
 unfold eqO at e
 rw[if_neg hs]at e
 split at e
 ·rename_i a b
  cases rx
  cases ry
  split at e
  ·rename_i xs ys ha hb
   split at e
   ·rename_i hf
    cases e
    obtain⟨us,r1,t1,_⟩:=I.tuple (SqT.of ha)
    obtain⟨ws,r2,t2,_⟩:=I.tuple (SqT.of hb)
    have l1:=r1.length
    have l2:=r2.length
    have q1:=SeqAt.RcAt.tuples (A:=X.A) t1 t2 hu (N8 r1 r2 hf.1 hf.2)
    have q2:=SeqAt.RcNeAt.tuples (A:=X.A) t1 t2 hu (N8 r1 r2 hf.1 hf.2)
    simp only[b9,<-l1,<-l2]at q1 q2
    exact⟨q1,q2⟩
   ·cases e
  ·rename_i xs ys ha hb
   split at e
   ·rename_i hf
    cases e
    obtain⟨us,r1,t1,_⟩:=I.list (SqL.of ha)
    obtain⟨ws,r2,t2,_⟩:=I.list (SqL.of hb)
    have l1:=r1.length
    have l2:=r2.length
    by_cases hl:us.toArray.size=ws.toArray.size
    ·have q1:=SeqAt.RcAt.lists (A:=X.A) t1.isList t2.isList hl hu (N8 r1 r2 hf.1 hf.2)
     have q2:=SeqAt.RcNeAt.lists (A:=X.A) t1.isList t2.isList hl hu (N8 r1 r2 hf.1 hf.2)
     have hl':xs.length=ys.length:=by simpa[<-l1,<-l2]using hl
     have ef:v9 xs ys=(u8 us.toArray.size).all fun j=>eqV (xs.getD j .non) (ys.getD j .non):=by
      unfold v9
      rw[hl',Nat.min_self,b9,<-l1,hl']
      simp
     rw[ef]
     exact⟨q1,q2⟩
    ·have hl2:(us.toArray.size != ws.toArray.size)=true:=by simpa using hl
     have q1:=SeqAt.RcAt.lists_lengths (A:=X.A) t1.isList t2.isList hl2 hu
     have q2:=SeqAt.RcNeAt.lists_lengths (A:=X.A) t1.isList t2.isList hl2 hu
     have ef:v9 xs ys=false:=by
      unfold v9
      have:¬xs.length=ys.length:=by simpa[<-l1,<-l2]using hl
      simp[this]
     rw[ef]
     exact⟨q1,q2⟩
   ·cases e
  ·cases e
 ·cases rx
  cases ry
  split at e
  ·cases e
   obtain⟨us,_,t1,_⟩:=I.tuple (SqT.of (by assumption))
   exact⟨SeqAt.RcAt.none_tuple t1 hu,SeqAt.RcNeAt.none_tuple t1 hu⟩
  ·cases e
 ·cases rx
  cases ry
  split at e
  ·cases e
   obtain⟨us,_,t1,_⟩:=I.tuple (SqT.of (by assumption))
   exact⟨SeqAt.RcAt.tuple_none t1 hu,SeqAt.RcNeAt.tuple_none t1 hu⟩
  ·cases e
 ·cases e
theorem a3s(hu:X.A.units<cLine):OpR X (h9 .Eq) qEq:=by
 intro pins s σ H x y v u Q I rx ry h
 obtain⟨k,e,q⟩:=h
 by_cases hs:a0e x y=true
 ·unfold eqO at e
  rw[if_pos hs]at e
  cases e
  exact a8c pins s σ H x y v u Q I rx ry ⟨hs,q⟩
 ·exact(a5s I hu rx ry hs e).1 _ _ _ _ ⟨.bl k,H,I,rfl,q⟩
theorem a3r(hu:X.A.units<cLine):OpR X (h9 .NotEq) qNe:=by
 intro pins s σ H x y v u Q I rx ry h
 obtain⟨k,e,q⟩:=h
 by_cases hs:a0e x y=true
 ·unfold eqO at e
  rw[if_pos hs]at e
  cases e
  exact a7Y pins s σ H x y v u Q I rx ry ⟨hs,q⟩
 ·exact(a5s I hu rx ry hs e).2 _ _ _ _ ⟨.bl (!k),H,I,rfl,q⟩
def qIn(neg:Bool):R2:=fun x y H Q=>match x,y with
 | .str i,.str j=>Q (.bl (if neg then !(!(Builtin.Str.occurrences j i 0 j.length 1).isEmpty)else !(Builtin.Str.occurrences j i 0 j.length 1).isEmpty)) H
 | x,.ref p=>match H p with
  | some (.lst xs)=>k7 x=true/\xs.all k7=true/\Q (.bl (if neg then !inV x xs else inV x xs)) H
  | some (.tup xs)=>k7 x=true/\xs.all k7=true/\Q (.bl (if neg then !inV x xs else inV x xs)) H
  | _=>False
 | _,_=>False
def a8z:V->List V->Hp->VK->Prop:=fun x vs H Q=>match x,vs with
 | .ref l,[y]=>match H l with
  | some (.lst xs)=>xs.length<b5/\Q .non (upd H l (.lst (xs++[y])))
  | _=>False
 | _,_=>False
def a2Z:List V->Option (List Str)
 | []=>some []
 | .str s::r=>(a2Z r).map (s :: ·)
 | _=>none
def a9Z:V->List V->Hp->VK->Prop:=fun x vs H Q=>match x,vs with
 | .str x,[.ref l]=>match H l with
  | some (.lst xs)=>∃ss,a2Z xs=some ss/\(ss.map (·.length)).sum+ss.length * x.length<=16777216/\Q (.str (Txt.join x ss)) H
  | _=>False
 | _,_=>False
def V8(x:V)(H:Hp):Option String:=match x with
 | .non=>some "NoneType"
 | .bl _=>some "bool"
 | .int _=>some "int"
 | .str _=>some "str"
 | .ref a=>match H a with
  | some (.lst _)=>some "list"
  | some (.tup _)=>some "tuple"
  | some (.dK _)=>some "dict"
  | some (.dT _)=>some "dict"
  | _=>none
 | _=>none
def a0W(t c:String):Bool:=t == c||(t == "bool" && c == "int")
def L6:List String:=["int","bool","str","list","tuple","dict"]
theorem a6O(K:Fg):∀t ∈ "NoneType" :: L6,∀c∈L6,p7 K (.type t) (.type c)=some (a0W t c):=by
 intro t ht c hc
 simp only[L6,j8,a5A,or_false]at ht hc
 rcases ht with rfl | rfl | rfl | rfl | rfl | rfl | rfl <;> rcases hc with rfl | rfl | rfl | rfl | rfl | rfl <;> kernel_rfl
theorem a7r{K:Fg}{x:V}{t:String}(h:V8 x H=some t):L9 K H x (.type t)/\t ∈ "NoneType" :: L6:=by
 unfold V8 at h
 split at h
 ·cases h;exact⟨.non,by decide⟩
 ·cases h;exact⟨.bl _,by decide⟩
 ·cases h;exact⟨.int _,by decide⟩
 ·cases h;exact⟨.str _,by decide⟩
 ·split at h
  ·cases h;exact⟨.lst (by assumption),by decide⟩
  ·cases h;exact⟨.tup (by assumption),by decide⟩
  ·cases h;exact⟨.dK (by assumption),by decide⟩
  ·cases h;exact⟨.dT (by assumption),by decide⟩
  ·cases h
 ·cases h
def a1Y:List V->Hp->VK->Prop:=fun xs H Q=>match xs with
 | [x,.ty c]=>∃t,V8 x H=some t/\c∈L6/\Q (.bl (a0W t c)) H
 | _=>False
theorem a2s:x9 X (.builtin "isinstance") a1Y:=fun pins s σ H xs us Q I r h=>by
 unfold a1Y at h
 split at h
 ·obtain⟨t,e,hc,q⟩:=h
  obtain⟨u,u2,rfl,ru,ru2⟩:=a5o r
  cases ru2
  obtain⟨ty,ht⟩:=a7r (K:=X.K) e
  exact a2i I ru ty (a6O X.K t ht _ hc) fun tk=>⟨.bl _,H,I.tok _,rfl,q⟩
 ·exact h.elim
def a7R:V->Hp->VK->Prop:=fun x H Q=>match x with
 | .ref a=>match H a with
  | some (.lst xs)=>∀p,H p=none->Q (.ref p) (upd H p (.lst xs.reverse))
  | _=>False
 | _=>False
def a8K(te:TE):TE:=fun σ H Q=>te σ H fun x H1=>a7R x H1 Q
def a1Z:V->V->Hp->VK->Prop:=fun x y H Q=>match x,y with
 | .ref p,.int i=>match H p with
  | some (.lst xs)=>0<=i/\∃v,xs[i.toNat]? = some v/\Q v H
  | _=>False
 | _,_=>False
theorem a8f:a7f X a1Z:=fun pins s σ H o i ov iv Q I r1 r2 h=>by
 unfold a1Z at h
 split at h
 ·split at h
  ·obtain⟨h0,v,e,q⟩:=h
   cases r1
   obtain⟨t,rfl⟩:=r2
   obtain⟨its,r,pl,hz⟩:=I.list (SqL.of (by assumption))
   obtain⟨u,eu,ru⟩:=r.get e
   have hl:=(c5.mp e).1
   have hn:=G0
   exact wpAny_getItem_list pl.isList h0 (by omega) (by simpa using eu) ⟨v,H,I,ru,q⟩
  ·exact h.elim
 ·exact h.elim
def qIs:R2:=fun x y H Q=>y=.non/\Q (.bl (decide (x=.non))) H
def a9r:R2:=fun x y H Q=>y=.non/\Q (.bl (!decide (x=.non))) H
structure C0(P:b8)(w:World)(K:Fg)(mg:Str->Option Value)(base:Heap)(k:Nat)(x:Str)(ps:List Str)(sp:Sp):Prop where
 ex:∃f fd,n8 P w K mg base CX0 k f fd ps sp/\mg x=some (.ref f)/\l4 K (.ref f)=true/\C5 K fd ps []
theorem a6r{k j:Nat}{ps:List Str}{sp:Sp}{e:Expr}{es:List Expr}{t:TA}{p:Pos}(C:C0 X.prog X.w X.K X.mg X.base k x ps sp)(hr:n0 j X.A)(hk:k<=j)(hg:Gl X x)(ha:PA X (e::es) t)
  (hdb:(x == ("__debug__" : Str))=false:=by decide) (he:b7 (e::es) X.env=(false,eval e X.env)::b7 es X.env:=by rfl) (hpl:(F3 pos (b7 es X.env)).any (·.1)=false:=by rfl) :
  PE X (.Call (.Name x p) (e::es) [] pos) (C3 sp [] E0 t):=by
 obtain⟨f,fd,F,hm,hkp,hb⟩:=C.ex
 exact a4A F (hr.mono hk) hg hm hkp hb .nil a7X ha hdb he hpl
theorem a2q{P:b8}{w:World}{K:Fg}{mg:Str->Option Value}{base:Heap}{k:Nat}{q:Str}{ps:List Str}{sp:Sp}{st:Stmt}{f:Addr}{fd:o5}(F:Fun K x q st f fd)(O:n8 P w K mg base CX0 k f fd ps sp)
  (hm:mg x=some (.ref f)) (hb:C5 K fd ps []):C0 P w K mg base k x ps sp:=⟨f,fd,O,hm,F.kp,hb⟩
def a9X:List V->Hp->VK->Prop:=fun xs H Q=>match xs with
 | [.ref p]=>match H p with
  | some (.lst ys)=>∀l,H l=none->Q (.ref l) (upd H l (.lst ys))
  | some (.tup ys)=>∀l,H l=none->Q (.ref l) (upd H l (.lst ys))
  | _=>False
 | _=>False
def b1a:R2:=fun x y H Q=>match x,y with
 | .ref a,.ref b=>match H a,H b with
  | some (.dK k1),some (.dK k2)=>k1=k2/\(k1.map (·.1)).Nodup/\k1.all (fun p=>k7 p.2)=true/\Q (.bl true) H
  | _,_=>False
 | _,_=>False
def b0d:List V->Hp->VK->Prop:=fun xs H Q=>match xs with
 | [.ref a]=>match H a with
  | some (.dK kvs)=>∀p,H p=none->Q (.ref p) (upd H p (.dK kvs))
  | _=>False
 | _=>False
def b0T:List V->Hp->VK->Prop:=fun xs H Q=>match xs with
 | [.int i]=>Q (.int i) H
 | [.bl k]=>Q (.int (if k then 1 else 0)) H
 | _=>False
end
def Its(x:Str):It:=⟨fun i _=>i<x.length,fun i H v H'=>H'=H/\∃c,x.cps[i]? = some c/\v=.str ⟨#[c]⟩,fun i _=>x.length<=i⟩
def b1g(tl:TE):TI:=fun σ H R=>tl σ H fun v H1=>∃x,v=.str x/\R (Its x) H1
section
variable {tg:Expr}
def Y0:List V->Option (List Bool)
 | []=>some []
 | .bl b::r=>(Y0 r).map (b :: ·)
 | _=>none
def b1c:List V->Hp->VK->Prop:=fun vs H Q=>match vs with
 | [.ref l]=>match H l with
  | some (.lst xs)=>∃bs,Y0 xs=some bs/\Q (.bl (bs.all id)) H
  | _=>False
 | _=>False
def b0H:V->Option Int->Option Int->Hp->VK->Prop:=fun v _ _ H Q=>∃z,v=.str z/\z.length<=b5/\∀y:Str,y.length<=z.length->Q (.str y) H
def b0N:List V->Hp->VK->Prop:=fun xs H Q=>match xs with
 | [.int i]=>0<=i/\i<10 ^ 10/\∀y:Str,y.length<=10->Q (.str y) H
 | _=>False
end
section
def Ite(K:Fg)(a:Addr):It:=
 ⟨fun i H=>∃xs x,SqL K H a xs/\xs[i]? = some x,fun i H v H'=>∃p x,H p=none/\v=.ref p/\H'=upd H p (.tup [.int i,x])/\∀xs,SqL K H a xs->xs[i]? = some x,fun i H=>∃xs,SqL K H a xs/\xs.length<=i⟩
def b0i(K:Fg)(ta:TA):TI:=fun σ H R=>ta σ H fun vs H1=>∃a,vs=[.ref a]/\(∃xs,SqL K H1 a xs)/\R (Ite K a) H1
def Itz(K:Fg)(a b:Addr):It:=
 ⟨fun i H=>∃xs ys x y,SqL K H a xs/\SqL K H b ys/\xs[i]? = some x/\ys[i]? = some y,fun i H v H'=>∃p x y,H p=none/\v=.ref p/\H'=upd H p (.tup [x,y])/\(∀xs,SqL K H a xs->xs[i]? = some x)/\∀ys,SqL K H b ys->ys[i]? = some y,
  fun i H=>∃xs ys,SqL K H a xs/\SqL K H b ys/\(xs.length<=i\/ys.length<=i)⟩
def b1e(K:Fg)(ta:TA):TI:=fun σ H R=>ta σ H fun vs H1=>∃a b,vs=[.ref a,.ref b]/\(∃xs,SqL K H1 a xs)/\(∃xs,SqL K H1 b xs)/\R (Itz K a b) H1
end
def a6Y(x y:Str)(N:List Str):List Str:=N.map fun z=>if z=x then ("." : Str)++x else if z=y then ("." : Str)++y else z
def a8A(X:Cx)(scope:Scope)(cl:List (Str×Addr))(C:Addr)(x y:Str)(fp:List Addr)(s3:a5)(H3:Hp):Cx:=
 { X with N:=x::y::a6Y x y X.N,s₀:=s3,H₀:=H3,env:=a2w scope cl C X.env,outer:=X.stack,stack:=X.stack,ex:=fp,fn:=fun _=>false,pn:=[],xe:=fun _ _=>False }
structure a8C(N:List Str)(osc sc:Scope)(x y:Str):Prop where
 kind:sc.kind=.function
 cell:∀y∈sc.names,y.2≠.cell
 names:∀y∈sc.names,y.2=.local->sc.names.lookup y.1=some .local
 own:sc.names.lookup x=some .local
 own2:sc.names.lookup y=some .local
 fr:∀y∈sc.names,y.2=.free->osc.names.lookup y.1=some .cell\/osc.names.lookup y.1=some .free
 see:∀z∈a6Y x y N,sc.names.lookup z≠some .local
 dot:sc.names.lookup (("." : Str)++x)=none
 dot2:sc.names.lookup (("." : Str)++y)=none
 nd:(x::y::a6Y x y N).Nodup
def a8U(K:Fg)(wi:TI)(tt:TT)(te:TE):TE:=fun σ H Q=>wi σ H fun J H1=>∀D,H1 D=none->∃W:Nat->Nat->List V->Hp->Prop,
 (∃m,W 0 m [] (upd H1 D (.lst [])))/\∀i m ys H2,W i m ys H2->H2 D=some (.lst ys) /\
  ((J.stop i H2 /\ Q (.ref D) H2) \/ (J.go i H2 /\ ∀ x H3,J.yld i H2 x H3 -> ∃ a u v,x = .ref a /\ SqT K H3 a [u,v] /\ tt (some u :: some v :: σ) H3 fun ok H4 => if ok = true then
    te (some u::some v::σ) H4 (fun y H5=>H5 D=some (.lst ys)/\ys.length<b5/\∃m',m'<m/\W (i+1) m' (ys++[y]) (upd H5 D (.lst (ys++[y]))))
    else ∃m',m'<m/\W (i+1) m' ys H4))
section
variable {x2:Str}{px py2 pt:Pos}{kt}
end
section
variable {x2:Str}{px py2 pt:Pos}{kt:Nat}
end
section
def b0R:List V->Hp->VK->Prop:=fun xs H Q=>match xs with
 | [.int i,.int j]=>Q (.int (if j<i then j else i)) H
 | _=>False
def b1b:List V->Hp->VK->Prop:=fun vs H Q=>match vs with
 | [.ref l]=>match H l with
  | some (.lst xs)=>∃bs,Y0 xs=some bs/\Q (.bl (bs.any id)) H
  | _=>False
 | _=>False
def a0X:List V->Option (List Int)
 | []=>some []
 | .int i::r=>(a0X r).map (i :: ·)
 | _=>none
def a8x:List V->Hp->VK->Prop:=fun vs H Q=>match vs with
 | [.ref l]=>match H l with
  | some (.lst xs)=>∃ns,a0X xs=some ns/\ns.length<64/\∀(p:Addr) (ms:List Int),ms.Perm ns->ms.Pairwise (· <= ·)->H p=none->Q (.ref p) (upd H p (.lst (ms.map V.int)))
  | _=>False
 | _=>False
def a9s:V->List V->Hp->VK->Prop:=fun x vs H Q=>match x,vs with
 | .ref l,[.int k]=>match H l with
  | some (.lst xs)=>∃ns,a0X xs=some ns/\ns.length<10000/\k∈ns/\Q (.int (ns.idxOf k:Nat)) H
  | _=>False
 | _,_=>False
def a8y:V->List V->Hp->VK->Prop:=fun x vs H Q=>match x,vs with
 | .ref l,[.ref b]=>match H l,H b with
  | some (.lst xs),some (.lst zs)=>xs.length+zs.length<=b5/\Q .non (upd H l (.lst (xs++zs)))
  | _,_=>False
 | _,_=>False
def b0O:V->List V->Hp->VK->Prop:=fun x vs H Q=>match x,vs with
 | .ref l,[]=>match H l with
  | some (.lst xs)=>∃y,xs[xs.length - 1]? = some y/\Q y (upd H l (.lst xs.dropLast))
  | _=>False
 | _,_=>False
def a9v:V->List V->Hp->VK->Prop:=fun x vs H Q=>match x,vs with
 | .ref l,[]=>match H l with
  | some (.lst _)=>Q .non (upd H l (.lst []))
  | _=>False
 | _,_=>False
def a9q:List V->Hp->VK->Prop:=fun xs H Q=>match xs with
 | [.ref p]=>match H p with
  | some (.dK kvs)=>∀l,H l=none->Q (.ref l) (upd H l (.lst (kvs.map fun kv=>kV kv.1)))
  | _=>False
 | _=>False
inductive Dq(K:Fg)(H:Hp):Nat->V->V->Prop
 | flat {n:Nat} {x:V}:k7 x=true->Dq K H n x x
 | tup {n:Nat} {a b:Addr} {xs ys:List V}:SqT K H a xs->SqT K H b ys->xs.length=ys.length->(∀(j:Nat) x y,xs[j]? = some x->ys[j]? = some y->Dq K H n x y)->Dq K H (n+1) (.ref a) (.ref b)
 | lst {n:Nat} {a b:Addr} {xs ys:List V}:SqL K H a xs->SqL K H b ys->xs.length=ys.length->(∀(j:Nat) x y,xs[j]? = some x->ys[j]? = some y->Dq K H n x y)->Dq K H (n+1) (.ref a) (.ref b)
theorem a3B{x:V}(h:k7 x=true):eqV x x=true:=by
 cases x with
 | non=>rfl
 | bl b=>simp[eqV]
 | int i=>simp[eqV]
 | str s=>simp[eqV]
 | byt b=>cases h
 | flt b=>cases h
 | ref a=>cases h
 | ty n=>cases h
theorem J4{n:Nat}:(u8 n).all (fun _=>true)=true:=by simp
theorem Dq.both(I:Inv X pins σ H s){n:Nat}{x y:V}(d:Dq X.K H n x y):∀ {A:d8} {v u:Value},A.units+n<cLine->f6 x v->f6 y u ->
  SeqAt.EqAt A s v u true/\(∀a b,x=.ref a->y=.ref b->SeqAt.RcAt A s v u true/\SeqAt.RcNeAt A s v u false):=by
 induction d with
 | @flat n x hf=>
  intro A v u hu rv ru
  refine⟨?_,fun a b e=>by subst e;cases hf⟩
  have:=a3C (A:=A) (s:=s) rv ru hf hf
  rwa [a3B hf]at this
 | @tup n a b xs ys ha hb hl hq ih=>
  intro A v u hu rv ru
  cases rv
  cases ru
  obtain⟨us,r1,t1,_⟩:=I.tuple ha
  obtain⟨ws,r2,t2,_⟩:=I.tuple hb
  have l1:=r1.length
  have l2:=r2.length
  have el:∀j (h1:j<us.toArray.size) (h2:j<ws.toArray.size),SeqAt.EqAt A.in1 s us.toArray[j] ws.toArray[j] true:=by
   intro j h1 h2
   have h1':j<xs.length:=by simpa[l1]using h1
   have h2':j<ys.length:=by simpa[l2]using h2
   obtain⟨u1,e1,q1⟩:=r1.get (i:=j) (x:=xs[j]) (by simp)
   obtain⟨u2,e2,q2⟩:=r2.get (i:=j) (x:=ys[j]) (by simp)
   have z1:us.toArray[j]=u1:=by
    have:=(c5.mp e1).2
    simpa using this
   have z2:ws.toArray[j]=u2:=by
    have:=(c5.mp e2).2
    simpa using this
   rw[z1,z2]
   exact(ih j _ _ (by simp) (by simp) (A:=A.in1) (by show A.units+1+n<cLine;omega) q1 q2).1
  have c1:SeqAt.RcAt A s (.ref a) (.ref b) true:=by
   have q:=SeqAt.RcAt.tuples (A:=A) (e:=fun _=>true) t1 t2 (by omega) el
   have e:us.toArray.size=ws.toArray.size:=by simp[<-l1,<-l2,hl]
   rw[J4,e,beq_self_eq_true]at q
   exact q
  have c2:SeqAt.RcNeAt A s (.ref a) (.ref b) false:=by
   have q:=SeqAt.RcNeAt.tuples (A:=A) (e:=fun _=>true) t1 t2 (by omega) el
   have e:us.toArray.size=ws.toArray.size:=by simp[<-l1,<-l2,hl]
   rw[J4,e,beq_self_eq_true]at q
   exact q
  refine⟨?_,fun _ _ _ _=>⟨c1,c2⟩⟩
  by_cases e:a=b
  ·subst e;exact SeqAt.EqAt.same _
  ·exact SeqAt.EqAt.of_refs e c1
 | @lst n a b xs ys ha hb hl hq ih=>
  intro A v u hu rv ru
  cases rv
  cases ru
  obtain⟨us,r1,t1,_⟩:=I.list ha
  obtain⟨ws,r2,t2,_⟩:=I.list hb
  have l1:=r1.length
  have l2:=r2.length
  have el:∀j (h1:j<us.toArray.size) (h2:j<ws.toArray.size),SeqAt.EqAt A.in1 s us.toArray[j] ws.toArray[j] true:=by
   intro j h1 h2
   have h1':j<xs.length:=by simpa[l1]using h1
   have h2':j<ys.length:=by simpa[l2]using h2
   obtain⟨u1,e1,q1⟩:=r1.get (i:=j) (x:=xs[j]) (by simp)
   obtain⟨u2,e2,q2⟩:=r2.get (i:=j) (x:=ys[j]) (by simp)
   have z1:us.toArray[j]=u1:=by
    have:=(c5.mp e1).2
    simpa using this
   have z2:ws.toArray[j]=u2:=by
    have:=(c5.mp e2).2
    simpa using this
   rw[z1,z2]
   exact(ih j _ _ (by simp) (by simp) (A:=A.in1) (by show A.units+1+n<cLine;omega) q1 q2).1
  have e:us.toArray.size=ws.toArray.size:=by simp[<-l1,<-l2,hl]
  have c1:SeqAt.RcAt A s (.ref a) (.ref b) true:=by
   have q:=SeqAt.RcAt.lists (A:=A) (e:=fun _=>true) t1.isList t2.isList e (by omega) el
   rw[J4]at q
   exact q
  have c2:SeqAt.RcNeAt A s (.ref a) (.ref b) false:=by
   have q:=SeqAt.RcNeAt.lists (A:=A) (e:=fun _=>true) t1.isList t2.isList e (by omega) el
   rw[J4]at q
   exact q
  refine⟨?_,fun _ _ _ _=>⟨c1,c2⟩⟩
  by_cases e:a=b
  ·subst e;exact SeqAt.EqAt.same _
  ·exact SeqAt.EqAt.of_refs e c1
def b0X(K:Fg):R2:=fun x y H Q=>∃a b n,x=.ref a/\y=.ref b/\n<=20/\Dq K H n x y/\Q (.bl true) H
def a9m(K:Fg):R2:=fun x y H Q=>∃a b n,x=.ref a/\y=.ref b/\n<=20/\Dq K H n x y/\Q (.bl false) H
def b0Y(K:Fg):R2:=fun x y H Q=>∃a b xs ys,x=.ref a/\y=.ref b/\SqT K H a xs/\SqT K H b ys/\xs.all k7=true/\ys.all k7=true/\Q (.bl (v9 xs ys)) H
def b0Q(K:Fg):R2:=fun x y H Q=>∃a b xs ys,x=.ref a/\y=.ref b/\SqT K H a xs/\SqT K H b ys/\xs.all k7=true/\ys.all k7=true/\Q (.bl (!v9 xs ys)) H
def a9Y(K:Fg):List V->Hp->VK->Prop:=fun vs H Q=>∃p xs,vs=[.ref p]/\SqT K H p xs/\Q (.int xs.length) H
def a7Q:V->List V->Hp->VK->Prop:=fun x vs H Q=>match x,vs with
 | .ref l,[]=>match H l with
  | some (.lst xs)=>Q .non (upd H l (.lst xs.reverse))
  | _=>False
 | _,_=>False
def b0W(K:Fg):R2:=fun x y H Q=>∃p xs,y=.ref p/\SqT K H p xs/\k7 x=true/\xs.all k7=true/\Q (.bl (inV x xs)) H
def b0S(K:Fg):R2:=fun x y H Q=>∃p i xs v,x=.ref p/\y=.int i/\SqT K H p xs/\atI xs i=some v/\Q v H
def b0a(K:Fg):List V->Hp->VK->Prop:=fun vs H Q=>∃p xs,vs=[.ref p,.ty "tuple"]/\SqT K H p xs/\Q (.bl true) H
structure b0l(P:b8)(w:World)(K:Fg)(mg:Str->Option Value)(base:Heap)(k:Nat)(x:Str)(C:Addr)(ps:List Str)(sp:Sp):Prop where
 ex:∃f fd,n8 P w K mg base CX0 k f fd ps sp/\mg x=some (.ref C)/\Mk K C f/\C5 K fd ps []
structure a8B(P:b8)(w:World)(K:Fg)(mg:Str->Option Value)(base:Heap)(k:Nat)(m:Str)(C:Addr)(ps:List Str)(sp:Sp):Prop where
 ex:∃f fd,n8 P w K mg base CX0 k f fd ps sp/\Cls K C/\a9E K C m f/\C5 K fd ps []
end
theorem J2{env:Env}:∀ {names:List (Str×F4)} {y:Str},names.lookup y=some .free ->
  (names.map fun(n,k)=>if(k == NameKind.free&&env.scope.kind == .function&&env.kindOf n == some .cell)then (n,NameKind.cell)else (n,k)).lookup y=some .cell \/
  (names.map fun(n,k)=>if(k == NameKind.free&&env.scope.kind == .function&&env.kindOf n == some .cell)then (n,NameKind.cell)else (n,k)).lookup y=some .free
 | [],_,h=>by cases h
 | (n,k0)::r,y,h=>by
  have ih := @J2 env r y
  rw[e8]at h
  rw[m7]
  dsimp only
  cases hx:y == n with
  | true=>
   rw[hx]at h
   cases h
   by_cases hc:(NameKind.free == NameKind.free&&env.scope.kind == .function&&env.kindOf n == some .cell)=true
   ·rw[if_pos hc,e8,hx];exact .inl rfl
   ·rw[if_neg hc,e8,hx];exact .inr rfl
  | false=>
   rw[hx]at h
   by_cases hc:(k0 == NameKind.free&&env.scope.kind == .function&&env.kindOf n == some .cell)=true
   ·rw[if_pos hc,e8,hx];exact ih h
   ·rw[if_neg hc,e8,hx];exact ih h
theorem a1r{sc1 sc:Scope}(h:∀y∈sc.names,y.2=.free->sc1.names.lookup y.1=some .free):∀y∈sc.names,y.2=.free->(a2D sc1 env).names.lookup y.1=some .cell\/(a2D sc1 env).names.lookup y.1=some .free:=
 fun y hy e=>J2 (h y hy e)
end L2
namespace PySem
open Sem (wp)
namespace F
end F
section
variable {prog:b8}{w:World}{A:d8}{E:Value->a5->Prop}{h:Heap}{g:Array GenState}{d:Drawn}{t:Nat}{os:OsState}{a:Addr}{xs:Array Value}{n:Nat}{sl:Array (Option Value)}
end
end PySem
namespace PySem
open Sem (wp)
namespace F
end F
section
variable {prog:b8}{w:World}{K:Type}[DecidableEq K]{knd:KeyKind prog w K}{A:d8}{s:a5}{R:a1c->a5->Prop}
def prsF(ps:List (K×Value)):List (K×Value):=ps.foldl (fun m p=>stored m p.1 p.2) []
end
section
variable {prog:b8}{w:World}{K:Type}[DecidableEq K]{knd:KeyKind prog w K}{A:d8}{E:Value->a5->Prop}{s:a5}
end
end PySem
namespace L2
open PySem PySem.Spec PyProof.Rows
section
variable {X:Cx}
def a6h:List V->Hp->VK->Prop:=fun xs H Q=>∃a vs kvs,xs=[.ref a]/\H a=some (.lst vs)/\vs.length=(kvs:List (Key×V)).length /\
 (∀(i:Nat) k x,kvs[i]? = some (k,x)->∃p,vs[i]? = some (.ref p)/\H p=some (.tup [kV k,x]))/\(kvs.map (·.1)).Nodup/\∀p,H p=none->Q (.ref p) (upd H p (.dK kvs))
end
section
variable {X:Cx}{tg:Expr}
def Itd(hi:Int)(n:Nat):It:=⟨fun i _=>i<n,fun i H x H'=>H'=H/\x=.int (hi - i),fun i _=>n<=i⟩
def b0g(ta:TA):TI:=fun σ H R=>ta σ H fun vs H1=>∃i j:Int,vs=[.int i,.int j,.int (-1)]/\(-(2 ^ 30)<=i/\i<2 ^ 30 /\ -(2 ^ 30)<=j/\j<2 ^ 30)/\R (Itd i (i - j).toNat) H1
end
section
variable {X:Cx}
def a5p(H:Hp)(xs:List V)(b:Addr):Bool:=match H b with
 | some (.tup zs)=>v9 zs xs
 | _=>false
def b0U(neg:Bool):R2:=fun x y H Q=>∃a p xs bs,x=.ref a/\y=.ref p/\H a=some (.tup xs)/\xs.all k7=true/\H p=some (.lst ((bs:List Addr).map V.ref)) /\
 (∀b∈bs,∃zs,H b=some (.tup zs)/\zs.all k7=true)/\Q (.bl (if neg then !(bs.any (a5p H xs))else bs.any (a5p H xs))) H
end
section
variable {X:Cx}
def a9l:List V->Hp->VK->Prop:=fun xs H Q=>match xs with
 | [.ref p]=>match H p with
  | some (.lst ys)=>∀l,H l=none->Q (.ref l) (upd H l (.tup ys))
  | _=>False
 | _=>False
def a9V:List V->Hp->VK->Prop:=fun xs H Q=>match xs with
 | [.int i]=>i.natAbs<2 ^ 40/\∀y:Str,Q (.str y) H
 | _=>False
def a9n:R2:=fun x y H Q=>match x,y with
 | .ref a,.ref b=>match H a,H b with
  | some (.dK k1),some (.dK k2)=>k1=k2/\(k1.map (·.1)).Nodup/\k1.all (fun p=>k7 p.2)=true/\Q (.bl false) H
  | _,_=>False
 | _,_=>False
def b0Z:R2:=fun x y H Q=>∃a b xs,x=.ref a/\y=.ref b/\H a=some (.lst xs)/\H b=some (.lst [])/\Q (.bl (decide (xs.length=0))) H
def b0P(K:Fg):R2:=fun x y H Q=>qNe x y H Q\/a9m K x y H Q\/a9n x y H Q
end
structure IsC(K:Fg)(C:Addr):Prop where
 cl:Cls K C
 ha:c7 K (.ref C) "__class__" = some (some (.builtin "object.__class__"))
 hn:A1 K (.builtin "object.__class__") "__get__" = some (some (.builtin "getset_descriptor.__get__"))
 htk:R8 K (.builtin "object.__class__")=some true
 hm:w6 K C (.type "object")=some true
def b0b(K:Fg):List V->Hp->VK->Prop:=fun vs H Q=>∃a C dx fs,vs=[.ref a,.ref C]/\H a=some (.ins C dx fs)/\IsC K C/\Q (.bl true) H
section
variable {P:b8}{w:World}{K:Type}[DecidableEq K]{knd:HeapKind P w K}{A:d8}{E:Value->a5->Prop}{s:a5}
def b0m(A:d8)(s:a5)(xs ys:List (K×Addr×Value)):Prop:=∀(i:Nat) k p v,xs[i]? = some (k,p,v)->∃(j:Nat) (q:Addr) (y:Value),ys[j]? = some (k,q,y)/\SeqAt.EqAt A s v y true
end
section
variable {X:Cx}
def a5y(k1 k2:List (List Key×V)):Prop:=k1.length=k2.length/\(k2.map (·.1)).Nodup/\∀p∈k1,D6 k2 p.1=some p.2/\k7 p.2=true
def b0c:R2:=fun x y H Q=>∃a b k1 k2,x=.ref a/\y=.ref b/\H a=some (.dT k1)/\H b=some (.dT k2)/\a5y k1 k2/\Q (.bl true) H
def a9W:R2:=fun x y H Q=>∃a b k1 k2,x=.ref a/\y=.ref b/\H a=some (.dT k1)/\H b=some (.dT k2)/\a5y k1 k2/\Q (.bl false) H
end
end L2
namespace PySem
open Sem (wp)
section
variable {prog:b8}{w:World}{A:d8}{E:Value->a5->Prop}{s:a5}
def Raw(h:Heap)(d:Addr)(es:Array O5)(ep:Nat):Prop:=∃o,h.get? d=some o/\o.ExactDict/\o.data=.dict es ep
theorem Raw.at{h h':Heap}{d:Addr}{es:Array O5}{ep:Nat}(x:Raw h d es ep)(e:∀o,h.get? d=some o->h'.get? d=some o):Raw h' d es ep:=let⟨o,h1,r⟩:=x; ⟨o,e _ h1,r⟩
theorem Raw.typeIs{d:Addr}{es:Array O5}{ep:Nat}(x:Raw s.heap d es ep):s.TypeIs (.ref d) "dict" := let⟨o,h1,h2,_⟩:=x; ⟨o,h1,h2.1⟩
end
end PySem
namespace L2
open PySem PySem.Spec PyProof.Rows
section
variable {X:Cx}
def a5z(H:Hp)(bs:List Addr)(ks:List (List Key)):Prop:=bs.length=ks.length/\∀(i:Nat) b k,bs[i]? = some b->ks[i]? = some k->H b=some (.tup (k.map kV))
def a9p:List V->Hp->VK->Prop:=fun xs H Q=>∃p kvs,xs=[.ref p]/\H p=some (.dT kvs)/\∀bs:List Addr,a5z H bs (kvs.map (·.1))->∀l,H l=none->Q (.ref l) (upd H l (.lst (bs.map V.ref)))
end
end L2
namespace PySem
open Sem (wp)
section
variable {prog:b8}{w:World}{K:Type}[DecidableEq K]{knd:HeapKind prog w K}{A:d8}{s:a5}{R:a1c->a5->Prop}
def Lasts(knd:HeapKind prog w K):Prop:=∀(h h':Heap) k a,knd.is h k a->(∀o,h.get? a=some o->h'.get? a=some o)->knd.is h' k a
end
section
variable {prog:b8}{w:World}{K:Type}[DecidableEq K]{knd:HeapKind prog w K}{A:d8}{E:Value->a5->Prop}{s:a5}
end
end PySem
namespace L2
open PySem PySem.Spec PyProof.Rows
variable{X:Cx}{pins:List (Addr×Obj)}{σ:St}{H:Hp}{s:a5}{a:Addr}
section
def a9t:List V->Hp->VK->Prop:=fun xs H Q=>∃a vs kvs,xs=[.ref a]/\H a=some (.lst vs)/\vs.length=(kvs:List (List Key×V)).length /\
 (∀(i:Nat) k x,kvs[i]? = some (k,x)->∃p c,vs[i]? = some (.ref p)/\H p=some (.tup [.ref c,x])/\H c=some (.tup (k.map kV)))/\(kvs.map (·.1)).Nodup/\∀p,H p=none->Q (.ref p) (upd H p (.dT kvs))
end
def a8N(trs:List (TE×TE)):TE:=fun σ H Q=>∀p,H p=none->W1 trs σ (upd H p (.dT [])) fun ps H2=>∃b k x,ps=[(.ref b,x)]/\H2 p=some (.dT [])/\H2 b=some (.tup (k.map kV))/\Q (.ref p) (upd H2 p (.dT [(k,x)]))
section
def Itf(ob:Obj)(a:Addr)(kvs:List (List Key×V))(bs:List Addr):It:=
 ⟨fun i H=>i<bs.length/\H a=some (.frz ob (.dT kvs)),fun i H x H'=>H'=H/\∃b,bs[i]? = some b/\x=.ref b,fun i H=>bs.length<=i/\H a=some (.frz ob (.dT kvs))⟩
def a6X(P:Addr->Prop)(ta:TE):TI:=fun σ H R=>ta σ H fun x H1=>∃a kvs,x=.ref a/\H1 a=some (.dT kvs)/\(P a->∀ob bs,a5z H1 bs (kvs.map (·.1))->R (Itf ob a kvs bs) (upd H1 a (.frz ob (.dT kvs))))
def a9N(ta:TE)(g:TG)(tb:TS):TS:=fun D σ H=>∀P:Addr->Prop,a2X (a6X P ta) g tb { D with nx:=fun σ H=>∃a o kvs,H a=some (.frz o (.dT kvs))/\P a/\D.nx σ (upd H a (.dT kvs)) } σ H
end
abbrev XE:=List Key×Addr×V
variable{xs:List XE}
def a8m(k:List Key):Prop:=∀y∈k,∃i:Int,y=Sum.inl i
abbrev XR:List XE->List (List Key×Addr×Value)->Prop:=Paired fun p q=>p.1=q.1/\p.2.1=q.2.1/\f6 p.2.2 q.2.2
def a0A(h:Heap)(a:Addr)(xs:List XE):Prop:=xs.length<=b5/\(a == sysModules)=false/\(xs.map (·.1)).Nodup/\(∀x∈xs,a8m x.1)/\∃ys,XR xs ys/\∃(P:b8) (w:World) (o:Obj) (es:Array O5) (ep:Nat),h.get? a=some o/\o.ExactDict/\o.data=.dict es ep/\es.toList=ys.map (entryOfKey (tupleKind (X2 P w)))
def dX(a:Addr)(xs:List XE):HO:=.ext fun h=>a0A h a xs
theorem a0A.there{h:Heap}(x:a0A h a xs):∃o,h.get? a=some o:=by
 obtain⟨_,_,_,_,_,_,_,_,o,_,_,e,_⟩:=x
 exact⟨o,e⟩
theorem a0A.stay{h h':Heap}(x:a0A h a xs)(k:∀o,h.get? a=some o->h'.get? a=some o):a0A h' a xs:=by
 obtain⟨z,y,nd,ik,ys,r,P,w,o,es,ep,e,c⟩:=x
 exact⟨z,y,nd,ik,ys,r,P,w,o,es,ep,k _ e,c⟩
theorem a0A.ok{P:b8}{w:World}{h:Heap}(x:a0A h a xs):n9 P w H h a (dX a xs):=⟨x,x.there,fun _ _ q k=>q.stay k⟩
def a3M(K:Fg)(H:Hp)(xs:List XE):Prop:=∀x∈xs,SqT K H x.2.1 (x.1.map kV)
section
variable {b:Addr}{k:List Key}
def a7q(xs:List XE)(k:List Key):Option V:=(xs.find? fun x=>decide (x.1=k)).map (·.2.2)
end
def b0q(K:Fg)(neg:Bool)(ti to:TE):TE:=fun σ H Q=>ti σ H fun y H1=>to σ H1 fun x H2=>∃a b xs k,x=.ref a/\y=.ref b/\H2 a=some (dX a xs)/\a3M K H2 xs/\SqT K H2 b (k.map kV)/\Q (.bl (if neg then !(a7q xs k).isSome else (a7q xs k).isSome)) H2
def a9o(K:Fg):List V->Hp->VK->Prop:=fun vs H Q=>∃a xs,vs=[.ref a]/\H a=some (dX a xs)/\a3M K H xs/\∀l,H l=none->Q (.ref l) (upd H l (.lst (xs.map fun x=>V.ref x.2.1)))
def a6g(K:Fg):List V->Hp->VK->Prop:=fun vs H Q=>∃a us xs,vs=[.ref a]/\H a=some (.lst us)/\us.length=(xs:List XE).length /\
 (∀(i:Nat) x,xs[i]? = some x->∃p,us[i]? = some (.ref p)/\H p=some (.tup [.ref x.2.1,x.2.2]))/\a3M K H xs/\(xs.map (·.1)).Nodup/\(∀x∈xs,a8m x.1)/\∀p,H p=none->Q (.ref p) (upd H p (dX p xs))
section
variable {i o:Expr}{ti to:TE}
end
section
def b0V(K:Fg)(neg:Bool):R2:=fun x y H Q=>∃a p xs bs zss,x=.ref a/\y=.ref p/\SqT K H a xs/\xs.all k7=true/\H p=some (.lst ((bs:List Addr).map V.ref))/\bs.length=(zss:List (List V)).length /\
 (∀(i:Nat) b zs,bs[i]? = some b->zss[i]? = some zs->SqT K H b zs/\zs.all k7=true)/\Q (.bl (if neg then !(zss.any fun zs=>v9 zs xs)else zss.any fun zs=>v9 zs xs)) H
def a9u(K:Fg):List V->Hp->VK->Prop:=fun xs H Q=>a6h xs H Q\/a6g K xs H Q
end
def Fly(h:Heap)(x T:Addr)(cls:Value)(dx:Option Addr)(fl:Value):Prop:=
 ∃oe vs oT ts,h.get? x=some oe/\(oe.cls=cls/\oe.dict=dx/\vs[2]? = some .none)/\oe.data=.fields vs/\vs[1]? = some (.ref T)/\T≠x/\h.get? T=some oT/\oT.data=.fields ts/\ts[3]? = some fl
def a8n(h:Heap)(x:Addr)(cls:Value)(dx:Option Addr):Prop:=∃oe vs,h.get? x=some oe/\(oe.cls=cls/\oe.dict=dx/\vs[2]? = some .none)/\oe.data=.fields vs/\vs[1]? = some .none
def Chg(fs:List Addr)(x T:Addr)(h h':Heap):Prop:=∀b o,h.get? b=some o->b≠x->b≠T->(b∉fs->h'.get? b=some o)/\∃sl,h'.get? b=some { o with slots:=sl }
section
variable {M:Model}{A:d8}{E:Value->a5->Prop}{base:Heap}{env:Env}{outer:List Env}{L x T:Addr}{cls fl:Value}{dx:Option Addr}
theorem a0r{oe:Obj}{vs:Array Value}{head:Value}{had:Bool}{Q:Unit->a5->Prop}(hfr:A.frames=some (env::outer))(hl:s.heap.FunFrames base (env::outer))(hf:env.frame=some L)(hx:s.heap.get? x=some oe)(hd:oe.data=.fields vs)(hsz:1<vs.size)(h2:vs[2]? = some .none)
  (nf:x∉frs (env::outer)) (h:∀h' T,s.heap.objs.size<=T->Fly h' x T oe.cls oe.dict (rawInt L)->Chg (frs (env::outer)) x T s.heap h'->Q () { s with heap:=h' }) :
  wpAny M A (do let a <-frameOf env;let pl <-entryPlaceOf L had;let b <-EntryCells.newEntry head a .none (rawInt L) .none pl;setField (.ref x) 1 b) Q E s:=by
 refine a6 (wpAny_frameOf_fun hfr hl hf fun h1 k1=>?_)
 refine a6 (wpAny_entryPlaceOf fun pl hpl=>?_)
 unfold EntryCells.newEntry newFields
 refine a6 (z7 ?_ (hpl.sizeOk5 _ _ _ _ _))
 have x1:h1.get? x=some oe:=(k1.2.1 x nf).trans hx
 obtain⟨ob,hob⟩:∃ob:Obj,ob={ cls:=.type "traceback",dict:=none,data:=.fields ([head,.ref L,.none,rawInt L,.none]++(if pl.isEmpty then G3 6 Value.none else pl)).toArray }:=⟨_,rfl⟩
 rw[<-hob]
 have ho3:∃ts,ob.data=.fields ts/\ts[3]? = some (rawInt L):=by
  subst hob
  refine⟨_,rfl,?_⟩
  first | (simp;done) | (rcases hpl with rfl | ⟨_,_,_,_,_,_,_,rfl⟩ <;> simp)
 have hnf:ob.isFreed=false:=by subst hob;rfl
 have x2:=a7 (h:=h1) ob x1
 have nT:h1.objs.size≠x:=A0 (a8 x1)
 refine wpAny_setField x2 hd hsz (h _ h1.objs.size (a2v k1.1.symm) ?_ fun b o e n1 n2=>?_)
 ·have d3:=Obj.data_mapFields hd (·.setIfInBounds 1 (Value.ref h1.objs.size))
  obtain⟨ts,t1,t2⟩:=ho3
  exact⟨_,_,ob,ts,j4 _ x2 (Obj.isFreed_of_fields d3),⟨Obj.cls_mapFields _ _,by obtain⟨c,d,dt,sl⟩:=oe;cases dt <;> rfl,by rw[Array.getElem?_setIfInBounds_ne (by decide)];exact h2⟩,d3,by simp[hsz],nT,by rw[g7 _ _ nT.symm];exact g9 h1 hnf,t1,t2⟩
 ·have go:∀o',h1.get? b=some o'->((h1.push ob).update x (Obj.mapFields (·.setIfInBounds 1 (Value.ref h1.objs.size)))).get? b=some o':=fun o' e'=>by
   rw[g7 _ _ (Ne.symm n1)];exact a7 _ e'
  refine⟨fun hb=>go o ((k1.2.1 b hb).trans e),?_⟩
  obtain⟨sl,e2⟩:=k1.2.2 b o e
  exact⟨sl,go _ e2⟩
theorem a4L{Q:Unit->a5->Prop}(hfr:A.frames=some (env::outer))(hl:s.heap.FunFrames base (env::outer))(hf:env.frame=some L)(nf:x∉frs (env::outer))
  (hx:a8n s.heap x cls dx\/∃T,Fly s.heap x T cls dx .none/\T∉frs (env::outer))
  (h:∀h' T',s.heap.objs.size<=T'->Fly h' x T' cls dx (rawInt L)->(∀b o,s.heap.get? b=some o->b≠x->(∀T,Fly s.heap x T cls dx .none->b≠T)->(b∉frs (env::outer)->h'.get? b=some o)/\∃sl,h'.get? b=some { o with slots:=sl })->(∀b o,s.heap.get? b=some o->∃o',h'.get? b=some o')->Q () { s with heap:=h' }) :
  wpAny M A (noteFrame (.ref x) env) Q E s:=by
 rcases hx with ⟨oe,vs,he,⟨rfl,rfl,h2⟩,hd,h1⟩ | ⟨T,⟨oe,vs,oT,ts,he,⟨rfl,rfl,h2⟩,hd,h1,hTx,hT,hdT,h3⟩,nfT⟩
 ·unfold noteFrame
  simp only[hf]
  refine a6 (D0 he hd h1 ?_)
  rw[if_neg (by decide)]
  refine a0r hfr hl hf he hd (p9.mp h1).1 h2 nf fun h' T' t1 t2 t3=>h h' T' t1 t2 (fun b o e n _=>t3 b o e n fun z=>e6 _ (a9 (a8 e) (by rw[z];exact t1))) fun b o e=>?_
  by_cases hb:b=x
  ·obtain⟨o',_,_,_,q,_⟩:=t2
   exact⟨o',by rw[hb];exact q⟩
  ·obtain⟨_,sl,q⟩:=t3 b o e hb fun z=>e6 _ (a9 (a8 e) (by rw[z];exact t1))
   exact⟨_,q⟩
 ·unfold noteFrame
  simp only[hf]
  refine a6 (D0 he hd h1 ?_)
  rw[if_pos (show(Value.ref T != Value.none)=true from by simp)]
  refine a6 (D0 hT hdT h3 ?_)
  rw[if_neg (show ¬((Value.none == rawInt L)=true)from by simp[rawInt])]
  refine a6 (wpAny_setField hT hdT (p9.mp h3).1 ?_)
  have oth:∀b,b≠T->(s.heap.update T (Obj.mapFields (·.setIfInBounds 3 Value.none))).get? b=s.heap.get? b:=fun b hb=>g7 _ _ (Ne.symm hb)
  have tT:∃o',(s.heap.update T (Obj.mapFields (·.setIfInBounds 3 Value.none))).get? T=some o':=⟨_,j4 _ hT (Obj.isFreed_of_fields (Obj.data_mapFields hdT _))⟩
  have isT:∀T2,Fly s.heap x T2 oe.cls oe.dict .none->T2=T:=fun T2 ⟨oe',vs',_,_,a1,_,a2,a3,_⟩=>by
   rw[he]at a1;cases a1
   rw[hd]at a2;cases a2
   rw[h1]at a3;cases a3
   rfl
  have hsz:(s.heap.update T (Obj.mapFields (·.setIfInBounds 3 Value.none))).objs.size=s.heap.objs.size:=a5D ..
  refine a0r hfr (hl.of_keeps fun b o hb hnf=>⟨o,(oth b fun q=>by rw[q,hT]at hb;cases hb;exact hnf ts hdT).trans hb,rfl⟩) hf ((oth x (Ne.symm hTx)).trans he) hd (p9.mp h1).1 h2 nf fun h' T' t1 t2 t3=>h h' T' (by rw[<-hsz];exact t1) t2 (fun b o e n n2=>?_) fun b o e=>?_
  ·have nb:b≠T:=n2 T ⟨oe,vs,oT,ts,he,⟨rfl,rfl,h2⟩,hd,h1,hTx,hT,hdT,h3⟩
   exact t3 b o ((oth b nb).trans e) n fun z=>e6 _ (a9 (a8 e) (by rw[z,<-hsz];exact t1))
  ·by_cases hb:b=x
   ·obtain⟨o',_,_,_,q,_⟩:=t2
    exact⟨o',by rw[hb];exact q⟩
   ·by_cases hbT:b=T
    ·obtain⟨o',q⟩:=tT
     rw[hbT]
     obtain⟨_,sl,q2⟩:=t3 T o' q hTx fun z=>e6 _ (a9 (a8 q) (k6 t1 (a2v z.symm)))
     exact⟨_,q2⟩
    ·obtain⟨_,sl,q2⟩:=t3 b o ((oth b hbT).trans e) hb fun z=>e6 _ (a9 (a8 e) (by rw[z,<-hsz];exact t1))
     exact⟨_,q2⟩
theorem a2o{Q:Unit->a5->Prop}(hx:Fly s.heap x T cls dx fl)(h:∀h',Fly h' x T cls dx .none->(∀b,b≠T->h'.get? b=s.heap.get? b)->h'.objs.size=s.heap.objs.size->Q () { s with heap:=h' }):wpAny M A (setFlight (.ref x) none) Q E s:=by
 obtain⟨oe,vs,oT,ts,he,hc,hd,h1,hTx,hT,hdT,h3⟩:=hx
 have hsz:3<ts.size:=(p9.mp h3).1
 have oth:∀b,b≠T->(s.heap.update T (Obj.mapFields (·.setIfInBounds 3 Value.none))).get? b=s.heap.get? b:=fun b hb=>g7 _ _ (Ne.symm hb)
 refine wpAny_setFlight_none he hd h1 hT hdT hsz (h _ ⟨oe,vs,_,_,(oth x (Ne.symm hTx)).trans he,hc,hd,h1,hTx,j4 _ hT (Obj.isFreed_of_fields (Obj.data_mapFields hdT _)),Obj.data_mapFields hdT _,by simp[hsz]⟩ oth (a5D ..))
end
section
variable {x T:Addr}{cls fl:Value}{dx:Option Addr}
theorem Inv.flown{h':Heap}{ch:List Addr}(I:Inv X pins σ H s)(hch:∀b∈ch,u5 X pins H b)
  (k:∀b o,s.heap.get? b=some o->b∉ch->(b∉frs X.stack->h'.get? b=some o)/\∃sl,h'.get? b=some { o with slots:=sl }):Inv X pins σ H { s with heap:=h' }:=by
 have nc:∀c u,H c=some u->c∉ch:=fun c u e z=>by
  have:=(hch c z).1
  rw[e]at this;cases this
 have nf:∀c u,H c=some u->c∉frs X.stack:=fun c u e z=>by
  have:=I.stkFree c z
  rw[e]at this;cases this
 refine I.call (H':=H) (g':=s.gens) (t':=s.toks) (d':=s.drawn) (ch:=ch) ⟨fun b o e n hb hc=>(k b o e hc).1 hb,fun b o e n hb hc=>(k b o e hc).2,fun b o e n hc=>n,fun b o e hc=>let⟨_,q⟩:=(k b o e hc).2; ⟨_,q⟩,fun _ _ e=>e,fun _ _ _ e=>e,fun b ps e=>⟨#[],by rw[e];simp⟩⟩ (fun b u e=>?_) I.bare fun b hb=>?_
 ·refine(I.hok b u e).stay (fun c v hc q=>?_) (fun _ q=>q) fun _ _ q=>q
  rcases hc with z | z
  ·subst z
   exact(k c v q (nc c u e)).1 (nf c u e)
  ·exact(k c v q (nc c _ z)).1 (nf c _ z)
 ·obtain⟨_,n1,_,n3,n4,n5⟩:=hch b hb
  exact⟨n3,n1,n4,n5⟩
theorem u5.nst(I:Inv X pins σ H s)(f:u5 X pins H x):x∉frs X.stack:=fun z=>by
 rcases j8.mp (I.stkSub x z)with e | e
 ·exact f.2.1 e
 ·exact f.2.2.1 e
structure Out(X:Cx)(pins:List (Addr×Obj))(σ:St)(H:Hp)(s:a5)(x:Addr)(cls:Value)(dx:Option Addr):Prop where
 inv:Inv X pins σ H s
 fx:u5 X pins H x
 fl:a8n s.heap x cls dx\/∃T,u5 X pins H T/\Fly s.heap x T cls dx .none
structure a7h(X:Cx)(pins:List (Addr×Obj))(σ:St)(H:Hp)(s:a5)(x:Addr)(cls:Value)(dx:Option Addr)(fl:Value):Prop where
 inv:Inv X pins σ H s
 fx:u5 X pins H x
 fl:∃T,u5 X pins H T/\Fly s.heap x T cls dx fl
theorem a0m{M:Model}{E:Value->a5->Prop}{Q:Unit->a5->Prop}(hst:X.stack=X.env::X.outer)(hf:X.env.frame=some X.env.locals)(o:Out X pins σ H s x cls dx)(h:∀s',a7h X pins σ H s' x cls dx (rawInt X.env.locals)->Q () s'):wpAny M X.A (noteFrame (.ref x) X.env) Q E s:=by
 have I:=o.inv
 have hl:=I.stack
 have hfr:=I.ok.frames
 have nx:=o.fx.nst I
 rw[hst]at hl hfr nx
 refine a4L hfr hl hf nx (o.fl.imp id fun⟨T,f1,f2⟩=>⟨T,f2,by rw[<-hst];exact f1.nst I⟩) fun h' T' t1 t2 t3 t4=>?_
 have nT:H T'=none:=I.hok.fresh t1
 rcases o.fl with f | ⟨T,f1,f2⟩
 ·have J:Inv X pins σ H { s with heap:=h' }:=I.flown (ch:=[x]) (fun b hb=>by rw[u9.mp hb];exact o.fx) fun b ob e n=>by
   rw[hst]
   refine t3 b ob e (fun z=>n (by simp[z])) fun T g z=>?_
   obtain⟨oe,vs,a1,_,a2,a3⟩:=f
   obtain⟨oe',vs',_,_,b1,_,b2,b3,_⟩:=g
   rw[a1]at b1;cases b1
   rw[a2]at b2;cases b2
   rw[a3]at b3;cases b3
  exact h _ ⟨J,o.fx,T',I.fpOk t1 nT,t2⟩
 ·have J:Inv X pins σ H { s with heap:=h' }:=I.flown (ch:=[x,T]) (fun b hb=>by
   simp only[j8,a5A,or_false]at hb
   rcases hb with rfl | rfl
   ·exact o.fx
   ·exact f1) fun b ob e n=>by
   rw[hst]
   refine t3 b ob e (fun z=>n (by simp[z])) fun T2 f z=>n ?_
   obtain⟨oe,vs,_,_,a1,_,a2,a3,_⟩:=f2
   obtain⟨oe',vs',_,_,b1,_,b2,b3,_⟩:=f
   rw[a1]at b1;cases b1
   rw[a2]at b2;cases b2
   rw[a3]at b3;cases b3
   simp[z]
  exact h _ ⟨J,o.fx,T',I.fpOk t1 nT,t2⟩
theorem G1{M:Model}{A:d8}{E:Value->a5->Prop}{Q:Unit->a5->Prop}(o:a7h X pins σ H s x cls dx fl)(h:∀s',a7h X pins σ H s' x cls dx .none->Q () s'):wpAny M A (setFlight (.ref x) none) Q E s:=by
 obtain⟨T,f1,f2⟩:=o.fl
 refine a2o f2 fun h' g1 g2 g3=>h _ ⟨o.inv.flown (ch:=[T]) (fun b hb=>by rw[u9.mp hb];exact f1) fun b ob e n=>?_,o.fx,T,f1,g1⟩
 have q:=(g2 b fun z=>n (by simp[z])).trans e
 exact⟨fun _=>q,ob.slots,q⟩
end
def CX1(P:b8)(w:World):CXT:=fun outer H s E e s'=>∃x T cls dx H',e=.ref x/\s'.os=s.os/\O6 s'.gens/\Un (frs outer) [] H H' s.heap s'.heap/\HOk P w H' s'.heap/\(s.heap.objs.size<=x/\s.heap.objs.size<=T)/\(H' x=none/\H' T=none)/\Fly s'.heap x T cls dx .none/\E cls dx H'
def Wi(X:Cx)(E:St->XK):Prop:=∀(pins:List (Addr×Obj)) (σ:St) (H:Hp) (s:a5) (x:Addr) (cls:Value) (dx:Option Addr),Out X pins σ H s x cls dx->E σ cls dx H->X.xe (.ref x) s
theorem a3q{s':a5}{E:XK}{e:Value}(I:Inv X pins σ H s)(c:CX1 X.prog X.w X.stack H s E e s'):∃x cls dx H',e=.ref x/\Out X pins σ H' s' x cls dx/\E cls dx H':=by
 obtain⟨x,T,cls,dx,H',rfl,os,bare,un,hok,⟨n1,n2⟩,⟨m1,m2⟩,f,e⟩:=c
 have J:Inv X pins σ H' s':=I.call' os un hok bare (ch:=[]) fun b z=>absurd z (by simp)
 exact⟨x,cls,dx,H',rfl,⟨J,I.fpOk n1 m1,.inr ⟨T,I.fpOk n2 m2,f⟩⟩,e⟩
theorem P0{P:b8}{w:World}{K:Fg}{mg:Str->Option Value}{base:Heap}{N:List Str}{qual:Str}{scope:Scope}{f:Addr}{cd:Value}{A:d8}{outer:List Env}{s₀:a5}{H₀:Hp}{E:XK} :
  Wi (L7 (CX1 P w) P w K mg base N qual scope f cd A outer s₀ H₀ E) fun _=>E:=by
 intro pins σ H s x cls dx o q
 show wpAny _ _ (leaving _ _) _ _ _
 unfold leaving
 refine a6 (a0m (X:=L7 (CX1 P w) P w K mg base N qual scope f cd A outer s₀ H₀ E) rfl rfl o fun s1 h1=>?_)
 refine G1 h1 fun s2 h2=>?_
 obtain⟨T,g1,g2⟩:=h2.fl
 have old:∀b,u5 (L7 (CX1 P w) P w K mg base N qual scope f cd A outer s₀ H₀ E) pins H b->s₀.heap.objs.size<=b:=fun b h=>h.2.2.2.1.elim (fun z=>absurd z (by simp[L7])) id
 exact⟨x,T,cls,dx,H,rfl,h2.inv.os,h2.inv.bare,h2.inv.base,h2.inv.hok,⟨old _ h2.fx,old _ g1⟩,⟨h2.fx.1,g1.1⟩,g2,q⟩
theorem Wi.passes{E:XK}(h:Wi X fun _=>E):Y4 (CX1 X.prog X.w) X E:=fun pins σ H s e s' I c=>by
 obtain⟨x,cls,dx,H',rfl,o,q⟩:=a3q I c
 exact h pins σ H' s' x cls dx o q
end L2
namespace L2
open PySem PySem.Spec PyProof.Rows PySem.W
def VEs:List Value:=[.type "ValueError",.type "Exception",.type "BaseException",.type "object"]
def a0R:List Value->Bool
 | .ref _::r=>a0R r
 | l=>l == VEs
theorem U6(self:Value):∀ {l:List Value},a0R l=true->refuseLoop self "__setattr__" l=pure ()
 | .ref c::r,e=>by rw[refuseLoop_ref];exact U6 self (l:=r) e
 | [],e=>by cases (beq_iff_eq.mp (show(([]:List Value) == VEs)=true from e))
 | .none::r,e=>by have:=beq_iff_eq.mp (show((Value.none::r) == VEs)=true from e);cases this
 | .type n::r,e=>by
  have:=beq_iff_eq.mp (show((Value.type n::r) == VEs)=true from e)
  rw[this]
  exact PySem.F.store_ValueError.passes self
 | .bool n::r,e=>by have:=beq_iff_eq.mp (show((Value.bool n::r) == VEs)=true from e);cases this
 | .int n t::r,e=>by have:=beq_iff_eq.mp (show((Value.int n t::r) == VEs)=true from e);cases this
 | .float n t::r,e=>by have:=beq_iff_eq.mp (show((Value.float n t::r) == VEs)=true from e);cases this
 | .str n t::r,e=>by have:=beq_iff_eq.mp (show((Value.str n t::r) == VEs)=true from e);cases this
 | .bytes n t::r,e=>by have:=beq_iff_eq.mp (show((Value.bytes n t::r) == VEs)=true from e);cases this
 | .builtin n::r,e=>by have:=beq_iff_eq.mp (show((Value.builtin n::r) == VEs)=true from e);cases this
 | .ellipsis::r,e=>by have:=beq_iff_eq.mp (show((Value.ellipsis::r) == VEs)=true from e);cases this
 | .notImplemented::r,e=>by have:=beq_iff_eq.mp (show((Value.notImplemented::r) == VEs)=true from e);cases this
def V7(K:Frag)(C:Addr):Bool:=(clsIn K C).any fun cd=>a0R cd.mro&&cd.mro.contains (.type "object") && !cd.mro.isEmpty
section
variable {prog:b8}{w:World}{A:d8}{E:Value->a5->Prop}{R:a1c->a5->Prop}{s:a5}{K:Frag}{x C:Addr}{name:Str}{v:Value}
theorem a4D{ox:Obj}{od:Option Obj}{tk:Tok}(X:K.In s.heap)(I:InstAt s.heap x ox C od)(hp:V7 K C=true)(ht:findIn K (.ref C) name=some none)
  (h:wpAny (model prog w) A.in1 (Builtin.ObjectAttr.storeInOwnDict (.ref x) (.ref C) (.str name tk) name v false)
   (fun fin s'=>match fin with | .done f=>R (.ok f) s' | .again c'=>c'.quiet=true/\D3 (model prog w) A c' R s') (fun e s'=>R (.error e) s') s) :
  D3 (model prog w) A (.call (.builtin "object.__setattr__") ⟨[.ref x,.str name tk,v],[]⟩) R s:=by
 have SF:=PySem.F.store_object
 obtain⟨cd,hc,ho⟩:=any_some hp
 simp only[a5E,a5h]at ho
 obtain⟨⟨ho,hob⟩,ne⟩:=ho
 have sub:Looks (model prog w) s.heap (isInstance (.ref x) (.type "object")) true:=I.type.andThen (looks_mroIn X (by unfold mroIn;rw[hc,O1,if_neg (by rw[ne];decide),hob]))
 refine codeAny_call_builtin SF.slot.plain SF.entry (@check_slot (model prog w) _ _ s "object.__setattr__" "object" "__setattr__" (.ref x) [.str name tk,v] [] _ SF.kind SF.split sub (SF.args (.ref x) (.str name tk) v) ?_)
 have hm:Looks (model prog w) s.heap (mroOf (.ref C)) cd.mro:=(looks_clsIn X hc).andThen .now
 rw[osa_eq,refuse_eq]
 refine a6 (a6 (I.type.here (a6 (hm.here ?_))))
 rw[U6 _ ho]
 refine d7 (a6 (I.type.here (a6 ((looks_findIn X ht).here (a6 (d7 ?_))))))
 exact h
end
end L2
namespace L2
open PySem PySem.Spec PyProof.Rows PySem.W
section
variable {prog:b8}{w:World}{A:d8}{E:Value->a5->Prop}{R:a1c->a5->Prop}{s:a5}{K:Frag}{x C:Addr}{name:Str}{v:Value}
theorem a4e{vs:Array Value}{sl:Array (Option Value)}{Q:Unit->a5->Prop}(X:K.In s.heap)(hx:s.heap.get? x=some ⟨.ref C,none,.fields vs,sl⟩)
  (hs:findIn K (.ref C) "__setattr__" = some (some (.builtin "object.__setattr__"))) (hp:V7 K C=true) (ht:findIn K (.ref C) name=some none) (hh:hasDictIn K C=true)
  (h:∀h' tk,h'.get? x=some ⟨.ref C,some s.heap.objs.size,.fields vs,sl⟩->h'.Ns1 s.heap.objs.size (fun y=>if y=name then some v else none)->(∀b o,b≠x->s.heap.get? b=some o->h'.get? b=some o)->Q () { s with heap:=h',toks:=tk }) :
  wpAny (model prog w) A (setAttr (.ref x) name v) Q E s:=by
 have J:InstAt s.heap x ⟨.ref C,none,.fields vs,sl⟩ C none:=⟨hx,rfl,rfl,trivial⟩
 refine set_plain X J hs (a4D (s:={ s with toks:=s.toks+1 }) X J hp ht ?_)
 obtain⟨cd,hc,hd'⟩:=any_some hh
 refine a6 (d7 (a6 (a6 (wpAny_loadPart hx (a6 (Looks.here (s:={ s with toks:=s.toks+1 }) (looks_clsIn X hc) ?_))))))
 rw[hd']
 have hxs:x≠s.heap.objs.size:=d9 (a8 hx)
 have hx1:(s.heap.push { cls:=.type "dict",data:=.dict #[] }).get? x=some ⟨.ref C,none,.fields vs,sl⟩:=a7 _ hx
 refine a6 (wpAny_alloc ?_)
 refine a6 (wpAny_update hx1 ?_)
 refine d7 ?_
 have hgd:((s.heap.push { cls:=.type "dict",data:=.dict #[] }).update x fun o=>{ o with dict:=some s.heap.objs.size }).get? s.heap.objs.size=some { cls:=.type "dict",data:=.dict #[] }:=
  (a3O _ _ _ _ hxs.symm).trans (Heap.get?_push_at rfl rfl)
 have hnd:((s.heap.push { cls:=.type "dict",data:=.dict #[] }).update x fun o=>{ o with dict:=some s.heap.objs.size }).Ns s.heap.objs.size (fun _=>none):=
  ⟨_,#[],_,hgd,rfl,fun e he=>absurd he (by simp),fun _=>rfl⟩
 unfold Builtin.ObjectAttr.storeInDict Builtin.ObjectAttr.newKeyGuard
 refine a6 (d7 (a6 (wpAny_nsSet1 (Heap.Ns1.of_empty hnd) fun h' hn' hs'=>?_)))
 obtain⟨oD,esD,epD,hoD,hdD,hcD⟩:=hn'.count (Within.cons name v Within.nil)
 refine a6 (wpAny_lookBehind hoD (by rw[hdD];exact pastItsLine_dict (k6 hcD (by rw[List.length_cons,List.length_nil,sizeLine_eq];omega))) ?_)
 refine d7 ?_
 refine h h' _ ((hs'.2 x hxs).trans (j4 _ hx1 rfl)) hn' fun b o nb hb=>?_
 exact(hs'.2 b (d9 (a8 hb))).trans ((a3O _ _ _ _ nb).trans (a7 _ hb))
end
end L2
namespace L2
open PySem PySem.Spec PyProof.Rows PySem.W
variable{h:Heap}
def I0(K:Frag)(C:Addr):Bool:=match K.lookup C with
 | some ⟨.type "type",_,.cls cd,sl⟩=>(match cd.mro,sl.toList with
  | .ref C'::bm,[_,_,_,_,some (.builtin n),_]=>C' == C&&n == "ValueError.__new__" && !cd.hasDel&&tailIn K VEs bm
  | _,_=>false)
 | _=>false
theorem U2{K:Frag}{C:Addr}(X:K.In h)(e:I0 K C=true):∃bm N nm q bs hd sn sub ab col dd k0 k1 k2 k3 k5,h.get? C=some (excClassObj nm q C N bs bm hd sn sub ab col dd k0 k1 k2 k3 k5 "ValueError.__new__")/\OwnTail h VEs bm:=by
 unfold I0 at e
 split at e
 ·rename_i dd cd sl ho
  split at e
  ·rename_i C' bm k0 k1 k2 k3 n k5 hm hs
   simp only[a5E,beq_iff_eq,a5h]at e
   obtain⟨⟨⟨rfl,rfl⟩,hdel⟩,ht⟩:=e
   obtain⟨nm,bs,mro,ns,qn,hd,sn,sub,ab,col,del⟩:=cd
   dsimp only at hm hdel
   subst hm hdel
   have hsl:sl = #[k0,k1,k2,k3,some (.builtin "ValueError.__new__"),k5]:=by
    obtain⟨l⟩:=sl
    simp only at hs
    rw[hs]
   subst hsl
   exact⟨bm,ns,nm,qn,bs,hd,sn,sub,ab,col,dd,k0,k1,k2,k3,k5,X _ _ ho,tail_of_in X ht⟩
  ·cases e
 ·cases e
section
variable {prog:b8}{w:World}{A:d8}{E:Value->a5->Prop}{s:a5}{K:Frag}{C:Addr}
def k8(h:Heap)(C:Addr)(rest:List Value):Heap:=(h.push { cls:=.type "tuple",data:=.seq rest.toArray }).push { cls:=.ref C,data:=.fields #[.ref h.objs.size,.none,.none,.none,.bool false,.none] }
theorem m9{rest:List Value}{b:Addr}{o:Obj}(e:h.get? b=some o):(k8 h C rest).get? b=some o:=a7 _ (a7 _ e)
theorem G2{rest:List Value}:(k8 h C rest).get? (h.objs.size+1)=some ⟨.ref C,none,.fields #[.ref h.objs.size,.none,.none,.none,.bool false,.none],#[]⟩:=by
 unfold k8;heap_get
variable {g:Array GenState}{d:Drawn}{t:Nat}{os:OsState}
theorem S3{fI:Addr}{rest:List Value}{Q:Fin->a5->Prop}(X:K.In h)(hx:I0 K C=true)(hi:findIn K (.ref C) "__init__" = some (some (.ref fI)))(hf:typeIn K (.ref fI)=some (.type "function"))(hrest:rest.length<=b5)
  (hq:wpAny (model prog w) A (call (.ref fI) (.ref (h.objs.size+1)::rest)) (fun r s'=>r=.none/\Q (.done (.ret (.ref (h.objs.size+1)))) s') E ⟨k8 h C rest,g,d,t,os⟩) :
  wpAny (model prog w) A (Builtin.«type.__call__» ⟨.ref C::rest,[]⟩) Q E ⟨h,g,d,t,os⟩:=by
 obtain⟨bm,N,nm,q,bs,hd,sn,sub,ab,col,dd,k0,k1,k2,k3,k5,hC,T⟩:=U2 X hx
 have F:=T8
 have hBn:VEs.contains (.type "ValueError")=true:=by decide +kernel
 have X1:K.In (k8 h C rest):=X.keeps fun b o e=>m9 e
 repeat (first | with_reducible refine wpAny_loadPart_at hC ?_ | with_reducible refine wpAny_madeBy_exc hC ?_ | wp_step)
 refine codeAny_call_builtin_code (Code.quiet_builtin _ F.quiet) (wpAny_check_new_subU F hBn T hC ?_)
 refine codeAny_exc_new_subU F hBn F T hC ?_ hrest
 show wpAny _ _ _ _ _ ⟨k8 h C rest,g,d,t,os⟩
 have hC1:(k8 h C rest).get? C=some (excClassObj nm q C N bs bm hd sn sub ab col dd k0 k1 k2 k3 k5 "ValueError.__new__"):=m9 hC
 have hget:(k8 h C rest).get? (h.objs.size+1)=some ⟨.ref C,none,.fields #[.ref h.objs.size,.none,.none,.none,.bool false,.none],#[]⟩:=G2
 have hcC:(Value.ref C::bm).contains (.ref C)=true:=by simp
 unfold isInstance
 repeat (first | with_reducible refine wpAny_loadPart_at hget ?_ | (with_reducible refine wpAny_isSubtype_exc hC1 ?_;rw[hcC]) | wp_step)
 show wpAny _ _ (typeLookup (.ref C) _) _ _ _
 refine(looks_findIn X1 hi).at ?_
 refine l7 (a6 ((bind_fn X1 _ hf).at ?_))
 refine a6 (j7 hq (fun r s' hr=>?_) fun _ _ x=>x)
 obtain⟨rfl,hQ⟩:=hr
 wp_walk
 exact hQ
theorem X9{fI:Addr}{rest:List Value}{Q:Value->a5->Prop}(X:K.In h)(hx:I0 K C=true)(hi:findIn K (.ref C) "__init__" = some (some (.ref fI)))(hf:typeIn K (.ref fI)=some (.type "function"))(hrest:rest.length<=b5)
  (hq:wpAny (model prog w) (A.under (.builtin "type.__call__" ⟨.ref C::rest,[]⟩)) (call (.ref fI) (.ref (h.objs.size+1)::rest)) (fun r s'=>r=.none/\Q (.ref (h.objs.size+1)) s') E ⟨k8 h C rest,g,d,t,os⟩) :
  wpAny (model prog w) A (call (.ref C) rest) Q E ⟨h,g,d,t,os⟩:=by
 obtain⟨bm,N,nm,q,bs,hd,sn,sub,ab,col,dd,k0,k1,k2,k3,k5,hC,T⟩:=U2 X hx
 have f1:=tc_lookup
 have f2:=tc_bind (.ref C)
 have hT:(⟨h,g,d,t,os⟩:a5).TypeIs (.ref C) "type" := ⟨_,hC,rfl⟩
 refine wpAny_call (codeAny_of_tree ?_)
 show wpAny _ _ (callAny (.ref C) _) _ _ _
 repeat (any_goals (first | assumption | with_reducible refine wpAny_loadPart_at hC ?_ | wp_step))
 refine⟨rfl,?_⟩
 exact codeAny_call_builtin_at (Code.quiet_builtin _ (by decide +kernel)) entry_typeCall (wpAny_check_type_call_sub hC (S3 X hx hi hf hrest hq))
theorem P4{rest:List Value}{Q:Fin->a5->Prop}(X:K.In h)(hx:I0 K C=true)(hi:findIn K (.ref C) "__init__" = some (some (.builtin "ValueError.__init__")))(hrest:rest.length<=b5)
  (hq:∀h',(∀b o,h.get? b=some o->h'.get? b=some o)->(∃tu,h'.get? (h.objs.size+1)=some ⟨.ref C,none,.fields #[.ref tu,.none,.none,.none,.bool false,.none],#[]⟩)->Q (.done (.ret (.ref (h.objs.size+1)))) ⟨h',g,d,t,os⟩) :
  wpAny (model prog w) A (Builtin.«type.__call__» ⟨.ref C::rest,[]⟩) Q E ⟨h,g,d,t,os⟩:=by
 obtain⟨bm,N,nm,q,bs,hd,sn,sub,ab,col,dd,k0,k1,k2,k3,k5,hC,T⟩:=U2 X hx
 have F:=T8
 have hBn:VEs.contains (.type "ValueError")=true:=by decide +kernel
 have X1:K.In (k8 h C rest):=X.keeps fun b o e=>m9 e
 repeat (first | with_reducible refine wpAny_loadPart_at hC ?_ | with_reducible refine wpAny_madeBy_exc hC ?_ | wp_step)
 refine codeAny_call_builtin_code (Code.quiet_builtin _ F.quiet) (wpAny_check_new_subU F hBn T hC ?_)
 refine codeAny_exc_new_subU F hBn F T hC ?_ hrest
 show wpAny _ _ _ _ _ ⟨k8 h C rest,g,d,t,os⟩
 have hC1:(k8 h C rest).get? C=some (excClassObj nm q C N bs bm hd sn sub ab col dd k0 k1 k2 k3 k5 "ValueError.__new__"):=m9 hC
 have hget:(k8 h C rest).get? (h.objs.size+1)=some ⟨.ref C,none,.fields #[.ref h.objs.size,.none,.none,.none,.bool false,.none],#[]⟩:=G2
 have hcC:(Value.ref C::bm).contains (.ref C)=true:=by simp
 have T1:OwnTail (k8 h C rest) VEs bm:=T.keeps fun b o e=>m9 e
 unfold isInstance
 repeat (first | with_reducible refine wpAny_loadPart_at hget ?_ | (with_reducible refine wpAny_isSubtype_exc hC1 ?_;rw[hcC]) | wp_step)
 show wpAny _ _ (typeLookup (.ref C) _) _ _ _
 refine(looks_findIn X1 hi).at ?_
 refine l7 (a6 (wpAny_of_eq (F.init.bind _) ?_))
 refine a6 (wpAny_call (codeAny_call_builtin F.init.plain F.initEntry (wpAny_check_init_subU F T1 hC1 hget rfl ?_)))
 wp_walk
 have sz:(k8 h C rest).objs.size=h.objs.size+2:=by unfold k8;rw[G7,G7]
 refine hq _ (fun b o hb=>?_) ⟨h.objs.size+2,?_⟩
 ·rw[g7 _ _ (A0 (S0 (a8 hb)))]
  exact a7 _ (m9 hb)
 ·rw[j4 _ (a7 _ hget) rfl,sz]
  rfl
theorem S9{rest:List Value}{Q:Value->a5->Prop}(X:K.In h)(hx:I0 K C=true)(hi:findIn K (.ref C) "__init__" = some (some (.builtin "ValueError.__init__")))(hrest:rest.length<=b5)
  (hq:∀h',(∀b o,h.get? b=some o->h'.get? b=some o)->(∃tu,h'.get? (h.objs.size+1)=some ⟨.ref C,none,.fields #[.ref tu,.none,.none,.none,.bool false,.none],#[]⟩)->Q (.ref (h.objs.size+1)) ⟨h',g,d,t,os⟩) :
  wpAny (model prog w) A (call (.ref C) rest) Q E ⟨h,g,d,t,os⟩:=by
 obtain⟨bm,N,nm,q,bs,hd,sn,sub,ab,col,dd,k0,k1,k2,k3,k5,hC,T⟩:=U2 X hx
 have f1:=tc_lookup
 have f2:=tc_bind (.ref C)
 have hT:(⟨h,g,d,t,os⟩:a5).TypeIs (.ref C) "type" := ⟨_,hC,rfl⟩
 refine wpAny_call (codeAny_of_tree ?_)
 show wpAny _ _ (callAny (.ref C) _) _ _ _
 repeat (any_goals (first | assumption | with_reducible refine wpAny_loadPart_at hC ?_ | wp_step))
 refine⟨rfl,?_⟩
 exact codeAny_call_builtin_at (Code.quiet_builtin _ (by decide +kernel)) entry_typeCall (wpAny_check_type_call_sub hC (P4 X hx hi hrest hq))
end
end L2
namespace L2
open PySem PySem.Spec PyProof.Rows PySem.W
def xo(x C:Addr)(dx:Option Addr):HO:=.ext fun h=>∃tu,h.get? x=some ⟨.ref C,dx,.fields #[.ref tu,.none,.none,.none,.bool false,.none],#[]⟩
structure Y2(K:Frag)(C:Addr):Prop where
 xc:I0 K C=true
 sa:findIn K (.ref C) "__setattr__" = some (some (.builtin "object.__setattr__"))
 ve:V7 K C=true
 hd:hasDictIn K C=true
 kp:keepIn K (.ref C)=true
section
variable {P:b8}{w:World}{X:Cx}{pins:List (Addr×Obj)}{σ:St}{H:Hp}{s:a5}{a C:Addr}{f:Str}
theorem a5n{h:Heap}{dx:Option Addr}(e:∃tu,h.get? a=some ⟨.ref C,dx,.fields #[.ref tu,.none,.none,.none,.bool false,.none],#[]⟩):n9 P w H h a (xo a C dx):=
 ⟨e,let⟨_,q⟩:=e; ⟨_,q⟩,fun _ _ ⟨tu,q⟩ k=>⟨tu,k _ q⟩⟩
theorem a4d{A:d8}{E:Value->a5->Prop}{y:V}{u:Value}{Q:Unit->a5->Prop}(I:Inv X pins σ H s)(e:H a=some (xo a C none))(c:Y2 X.K C)(n:findIn X.K (.ref C) f=some none)(ry:f6 y u)
  (h:∀s' d,H d=none->d≠a->Inv X pins σ (upd (upd H d (.xd [(f,y)])) a (xo a C (some d))) s'->Q () s'):wpAny (model X.prog X.w) A (setAttr (.ref a) f u) Q E s:=by
 obtain⟨⟨tu,hx⟩,_⟩:n9 X.prog X.w H s.heap a (xo a C none):=I.hok a _ e
 refine a4e I.kIn hx c.sa c.ve n c.hd fun h' tk e1 e2 e3=>?_
 have hd:H s.heap.objs.size=none:=I.hok.fresh (e7 _)
 have nd:s.heap.objs.size≠a:=A0 (a8 hx)
 have na:∀b u,H b=some u->(∀φ,u≠.ext φ)->b≠a:=fun b u q z1 z2=>by
  subst z2
  rw[e]at q
  cases q
  exact z1 _ rfl
 refine h _ s.heap.objs.size hd nd (I.un (h':=h') (t':=tk) ⟨fun b o q z _ _=>e3 b o (fun z2=>by rw[z2,e]at z;cases z) q,fun b o q z _ _=>⟨o.slots,e3 b o (fun z2=>by rw[z2,e]at z;cases z) q⟩,fun b o q z _=>?_,fun b o q _=>?_,fun b xs q=>?_,fun b o u q=>?_,fun b ps q=>⟨#[],?_⟩⟩ fun b o q=>?_)
 ·rw[c8 (fun z2=>by rw[z2,e]at z;cases z),c8 (d9 (a8 q))];exact z
 ·by_cases hb:b=a
  ·subst hb;exact⟨_,e1⟩
  ·exact⟨o,e3 b o hb q⟩
 ·rw[c8 (na b _ q fun φ z=>by cases z),c8 (c9 q hd)];exact q
 ·rw[c8 (na b _ q fun φ z=>by cases z),c8 (c9 q hd)];exact q
 ·rw[c8 (na b _ q fun φ z=>by cases z),c8 (c9 q hd),q];simp
 ·by_cases hb:b=a
  ·subst hb
   rw[j3]at q
   cases q
   exact a5n ⟨tu,e1⟩
  ·rw[c8 hb]at q
   by_cases hbd:b=s.heap.objs.size
   ·subst hbd
    rw[j3]at q
    cases q
    refine⟨_,e2,fun g=>?_⟩
    by_cases hg:g=f
    ·subst hg
     simp only[if_true]
     show M0 (G5 g [(g,y)]) (some u)
     simp[G5,M0]
     exact ry
    ·simp only[hg,if_false]
     show M0 (G5 g [(f,y)]) none
     have:(g == f)=false:=beq_eq_false_iff_ne.mpr hg
     simp[G5,this,M0]
   ·rw[c8 hbd]at q
    refine(I.hok b o q).stay (fun c v hc z=>e3 c v ?_ z) (fun c z=>?_) fun c xs z=>?_
    ·rcases hc with rfl | hc
     ·exact hb
     ·exact na c _ hc fun φ z=>by cases z
    ·rw[c8 (na c _ z fun φ z=>by cases z),c8 (c9 z hd)];exact z
    ·rw[c8 (na c _ z fun φ z=>by cases z),c8 (c9 z hd)];exact z
end
end L2
namespace L2
open PySem PySem.Spec PyProof.Rows PySem.W
def del(H:Hp)(a:Addr):Hp:=fun b=>if b=a then none else H b
theorem R3{H:Hp}{a:Addr}:del H a a=none:=by unfold del;rw[if_pos rfl]
theorem B8{H:Hp}{a b:Addr}(h:b≠a):del H a b=H b:=by unfold del;rw[if_neg h]
def U5(K:Frag)(ta tv:TE)(f:Str):TS:=fun D σ H=>tv σ H fun y H1=>ta σ H1 fun x H2=>∃a C,x=.ref a/\H2 a=some (xo a C none)/\Y2 K C/\findIn K (.ref C) f=some none /\
 ∀d,H2 d=none->d≠a->D.nx σ (upd (upd H2 d (.xd [(f,y)])) a (xo a C (some d)))
section
variable {X:Cx}{pins:List (Addr×Obj)}{σ:St}{H:Hp}{s:a5}{a C:Addr}{f:Str}{o value:Expr}{ta tv:TE}{pos pos':Pos}
theorem a4o(ha:PE X o ta)(hv:PE X value tv)(hs:O3 value (some (.Attribute o f pos')) pos.line X.env=pure false):PS X (.Assign [.Attribute o f pos'] value pos) (U5 X.K ta tv f):=by
 intro pins s σ H D I h
 refine plainObj_wpAny_Assign_Attribute (thn (hv pins s σ H _ I h) fun u s1 ⟨y,H1,I1,ry,q⟩=>thn (ha pins s1 σ H1 _ I1 q) fun ov s2 ⟨x,H2,I2,rx,a,C,ex,ea,c,n,q2⟩=>?_) hs
 subst ex
 obtain rfl:ov=Value.ref a:=rx
 exact a4d I2 ea c n ry fun s3 d d1 d2 I3=>⟨σ,_,I3,q2 d d1 d2⟩
theorem Inv.del{dx:Option Addr}(I:Inv X pins σ H s)(e:H a=some (xo a C dx)):Inv X pins σ (del H a) s:=by
 have na:∀b u,H b=some u->(∀φ,u≠.ext φ)->b≠a:=fun b u q z1 z2=>by
  subst z2
  rw[e]at q
  cases q
  exact z1 _ rfl
 have no:∀b,H b=none->L2.del H a b=none:=fun b q=>by
  by_cases hb:b=a
  ·rw[hb];exact R3
  ·rw[B8 hb];exact q
 refine⟨I.ok,I.os,I.bare,⟨I.base.keep,I.base.slot,fun b o q z hx=>no b (I.base.free b o q z hx),I.base.there,fun b xs q=>?_,fun b o u q=>?_,fun b ps q=>?_⟩,I.loc,I.cell,no _ I.free,fun x c q=>no _ (I.freeC x c q),fun p hp=>?_,fun b u q=>?_,I.len⟩
 ·have:=I.base.tups b xs q
  rw[B8 (na b _ this fun φ z=>by cases z)];exact this
 ·have:=I.base.frzs b o u q
  rw[B8 (na b _ this fun φ z=>by cases z)];exact this
 ·obtain⟨m,this⟩:=I.base.tbls b ps q
  exact⟨m,by rw[B8 (na b _ this fun φ z=>by cases z)];exact this⟩
 ·obtain⟨p1,p2,p3⟩:=I.pin p hp
  exact⟨p1,no _ p2,p3⟩
 ·have hb:b≠a:=fun z=>by rw[z,R3]at q;cases q
  rw[B8 hb]at q
  refine(I.hok b u q).stay (fun c v _ z=>z) (fun c z=>?_) fun c xs z=>?_
  ·rw[B8 (na c _ z fun φ z=>by cases z)];exact z
  ·rw[B8 (na c _ z fun φ z=>by cases z)];exact z
end
section
variable {M:Model}{A:d8}{E:Value->a5->Prop}{env:Env}{K:Frag}{C:Addr}
theorem Q5{s:a5}{x:Sem Value}{Q:Flow->a5->Prop}(hh:A.handled=none)(hx:I0 K C=true)
  (h:wpAny M A x (fun v s1=>∃e tu dx,v=.ref e/\K.In s1.heap/\s1.heap.get? e=some ⟨.ref C,dx,.fields #[.ref tu,.none,.none,.none,.bool false,.none],#[]⟩/\E (.ref e) s1) E s):wpAny M A (raiseStmt env (some x) none) Q E s:=by
 unfold raiseStmt
 refine a6 (j7 h (fun v s1 h1=>?_) fun _ _ x=>x)
 obtain⟨e,tu,dx,rfl,X,he,hE⟩:=h1
 obtain⟨hp,g,d,tk,os⟩:=s1
 obtain⟨bm,N,nm,q,bs,hd,sn,sub,ab,col,dd,k0,k1,k2,k3,k5,hC,T⟩:=U2 X hx
 have hcB:(Value.ref C::bm).contains (.type "BaseException")=true:=by rw[a3U,T.hasType (b:=true) (by decide +kernel),a8D]
 repeat (first | with_reducible refine wpAny_loadPart_at he ?_ | with_reducible refine wpAny_loadPart_at hC ?_ | (with_reducible refine wpAny_isSubtype_exc hC ?_;rw[hcB]) | wp_step)
 exact wpAny_raiseNew_none hh hE
end
end L2
namespace L2
open PySem PySem.Spec PyProof.Rows PySem.W
def D7(C:Addr)(sp:Sp)(E:St->XK)(t:TA):TS:=fun _ σ H=>t σ H fun vs H1=>vs.length<=b5/\∀a,H1 a=none->sp (.ref a::vs) (upd H1 a (xo a C none)) (fun v H2=>v=.non/\∃dx,H2 a=some (xo a C dx)/\E σ (.ref C) dx (del H2 a)) E0
def W0(C:Addr)(E:St->XK):TS:=fun _ σ H=>E σ (.ref C) none H
section
variable {X:Cx}{k:Nat}{f C:Addr}{fd:o5}{ps:List Str}{sp:Sp}{E:St->XK}{x:Str}{np cpos pos:Pos}{e:Expr}{es:List Expr}{t:TA}
theorem a2a(hc:X.calm=true)(W:Wi X E)(c:Y2 X.K C)(hi:findIn X.K (.ref C) "__init__" = some (some (.ref f)))(hf:typeIn X.K (.ref f)=some (.type "function"))(F:n8 X.prog X.w X.K X.mg X.base CX0 k f fd ps sp)(hr:n0 (k+1) X.A)(hg:Gl X x)
  (hm:X.mg x=some (.ref C)) (hb:C5 X.K fd ps []) (ha:PA X (e::es) t) (hdb:(x == ("__debug__" : Str))=false:=by decide) (he:b7 (e::es) X.env=(false,eval e X.env)::b7 es X.env:=by rfl) (hpl:(F3 cpos (b7 es X.env)).any (·.1)=false:=by rfl) :
  PS X (.Raise (some (.Call (.Name x np) (e::es) [] cpos)) none pos) (D7 C sp E t):=by
 intro pins s σ H D I h
 have go:wpAny (model X.prog X.w) X.A (eval (.Call (.Name x np) (e::es) [] cpos) X.env) (fun v s1=>∃e tu dx,v=.ref e/\X.K.In s1.heap/\s1.heap.get? e=some ⟨.ref C,dx,.fields #[.ref tu,.none,.none,.none,.bool false,.none],#[]⟩/\X.xe (.ref e) s1) X.xe s:=by
  refine y3 (E7 I hg hm ?_ hdb)
  refine J7 (h₀:=X.base) I.ok.mod.kin c.kp (thn (ha cpos pins s σ H _ I h) fun us s1 ⟨vs,H1,I1,r,hz,q⟩=>⟨I1.kIn,?_⟩) he hpl
  have I2:Inv X pins σ (upd H1 (s1.heap.objs.size+1) (xo (s1.heap.objs.size+1) C none)) { s1 with heap:=k8 s1.heap C us }:=
   I1.laid (a:=s1.heap.objs.size+1) (h':=k8 s1.heap C us) (t':=s1.toks) (fun b u q=>m9 q) (J9 _) (a5n ⟨_,G2⟩)
  have hq:=q (s1.heap.objs.size+1) (I1.hok.fresh (J9 _))
  have r2:f9 (V.ref (s1.heap.objs.size+1)::vs) (Value.ref (s1.heap.objs.size+1)::us):=.cons rfl r
  have hl:(Value.ref (s1.heap.objs.size+1)::us++[]).length=ps.length:=by
   have e:=r2.length
   rw[F.len _ _ _ _ hq]at e
   rw[u7]
   exact e.symm
  have hbi:=hb { s1 with heap:=k8 s1.heap C us } (Value.ref (s1.heap.objs.size+1)::us) I2.kIn hl
  rw[u7]at hbi
  obtain⟨h1,g1,d1,t1,os1⟩:=s1
  refine X9 (rest:=us) I1.kIn c.xc hi hf (by rw[<-r.length];exact hz) ?_
  refine wpAny_call (O4 (F.run _ X.stack _ _ ⟨Value.ref (h1.objs.size+1)::us,[]⟩ (Value.ref (h1.objs.size+1)::us) _ _ E0 (hr.make C us []) (I2.env0.make C us []) hbi r2 hq) fun r s' hq'=>?_)
  cases r with
  | error e=>exact False.elim hq'
  | ok fl=>
   cases fl with
   | ret u=>
    obtain⟨v,H',I3,rv,ev,dx,e3,q3⟩:=I2.after hq'
    subst ev
    obtain⟨⟨tu,ho⟩,_⟩:n9 X.prog X.w H' s'.heap _ (xo _ C dx):=I3.hok _ _ e3
    refine⟨rv,_,tu,dx,rfl,I3.kIn,ho,W pins σ _ s' _ _ dx ⟨I3.del e3,I1.fpOk (J9 _) R3,.inl ⟨_,_,ho,⟨rfl,rfl,rfl⟩,rfl,rfl⟩⟩ q3⟩
   | next=>exact False.elim hq'
   | brk=>exact False.elim hq'
   | cont=>exact False.elim hq'
 rw[arm_exec_Raise]
 exact a6 (C6 (Q5 (I.ok.hd hc) c.xc (a6 (j7 go (fun v s3 h3=>a6 (C6 (d7 h3))) fun _ _ z=>z))))
theorem a0O(hc:X.calm=true)(W:Wi X E)(c:Y2 X.K C)(hi:findIn X.K (.ref C) "__init__" = some (some (.builtin "ValueError.__init__")))(hg:Gl X x)(hm:X.mg x=some (.ref C))(hdb:(x == ("__debug__" : Str))=false:=by decide) :
  PS X (.Raise (some (.Call (.Name x np) [] [] cpos)) none pos) (W0 C E):=by
 intro pins s σ H D I h
 have go:wpAny (model X.prog X.w) X.A (eval (.Call (.Name x np) [] [] cpos) X.env) (fun v s1=>∃e tu dx,v=.ref e/\X.K.In s1.heap/\s1.heap.get? e=some ⟨.ref C,dx,.fields #[.ref tu,.none,.none,.none,.bool false,.none],#[]⟩/\X.xe (.ref e) s1) X.xe s:=by
  refine y3 (E7 I hg hm ?_ hdb)
  refine PySem.W.callWith_K0 I.kIn c.kp ?_
  obtain⟨h1,g1,d1,t1,os1⟩:=s
  refine S9 (rest:=[]) I.kIn c.xc hi (by rw[sizeLine_eq];decide) fun h' k1 ⟨tu,k2⟩=>?_
  have I2:Inv X pins σ H ⟨h',g1,d1,t1,os1⟩:=I.kept (h':=h') (t':=t1) k1
  exact⟨_,tu,none,rfl,I2.kIn,k2,W pins σ H _ _ _ none ⟨I2,I.fpOk (J9 _) (I.hok.fresh (J9 _)),.inl ⟨_,_,k2,⟨rfl,rfl,rfl⟩,rfl,rfl⟩⟩ h⟩
 rw[arm_exec_Raise]
 exact a6 (C6 (Q5 (I.ok.hd hc) c.xc (a6 (j7 go (fun v s3 h3=>a6 (C6 (d7 h3))) fun _ _ z=>z))))
end
end L2
namespace L2
open PySem PySem.Spec PyProof.Rows PySem.W
section
variable {X:Cx}{pins:List (Addr×Obj)}{σ:St}{H:Hp}{s:a5}{i:Nat}{n:Str}
theorem a1M{M:Model}{A:d8}{E:Value->a5->Prop}{v:V}{Q:Unit->a5->Prop}(I:Inv X pins σ H s)(hN:X.N.Nodup)(hi:X.N[i]? = some n)(hl:X.env.scope.names.lookup n=some .local)(hv:σ[i]? = some (some v))
  (k:∀s',Inv X pins (σ.set i none) H s'->Q () s'):wpAny M A (unbindName X.env n) Q E s:=by
 obtain⟨m,hm,hL⟩:=I.loc
 have hk:X.env.kindOf n=some .local:=hl
 obtain⟨u,_,q⟩:=hL i n v hi hv (.inl hl)
 have hmn:m n=some u:=by
  rcases q with q | ⟨q,_⟩
  ·exact q.2
  ·rcases q with q | q <;> (rw[hk]at q;cases q)
 refine wpAny_unbindName_local hk hm hmn (by simp[I.ok.kind]) fun h' u' hn' hs=>k _ ?_
 have nl:∀b o,X.s₀.heap.get? b=some o->b≠X.env.locals:=fun b o e=>d9 (a9 (a8 e) I.ok.above)
 refine⟨I.ok,I.os,I.bare,⟨fun b o e z hb hx=>(hs.2 b (nl b o e)).trans (I.base.keep b o e z hb hx),fun b o e z hb hx=>?_,I.base.free,fun b o e hx=>?_,I.base.tups,I.base.frzs,I.base.tbls⟩,⟨_,hn',fun j y v' e1 e2 e3=>?_⟩,fun y c e=>?_,I.free,I.freeC,fun p hp=>?_,fun b o q=>?_,by simpa using I.len⟩
 ·obtain⟨sl,q⟩:=I.base.slot b o e z hb hx
  exact⟨sl,(hs.2 b (nl b o e)).trans q⟩
 ·obtain⟨o',q⟩:=I.base.there b o e hx
  exact⟨o',(hs.2 b (nl b o e)).trans q⟩
 ·have hj:j≠i:=fun z=>by
   subst z
   rw[List.getElem?_set]at e2
   simp only[if_true]at e2
   split at e2 <;> cases e2
  rw[G6 (Ne.symm hj)]at e2
  obtain⟨u2,r,q⟩:=hL j y v' e1 e2 e3
  refine⟨u2,r,?_⟩
  rcases q with ⟨q1,q2⟩ | ⟨q1,c,q2,q3⟩
  ·refine .inl ⟨q1,?_⟩
   have:y≠n:=fun z=>by
    subst z
    exact hj (Q8 hN e1 hi)
   simp only[this,if_false]
   exact q2
  ·exact .inr ⟨q1,c,q2,q3.sameBut hs (I.cne y c q2)⟩
 ·obtain⟨w',z⟩:=I.cell y c e
  exact⟨w',z.sameBut hs (I.cne y c e)⟩
 ·obtain⟨e,z,ne,nf,d⟩:=I.pin p hp
  exact⟨(hs.2 p.1 ne).trans e,z,ne,nf,d⟩
 ·refine(I.hok b o q).stay (fun c v' hc z=>(hs.2 c fun z2=>?_).trans z) (fun _ z=>z) fun _ _ z=>z
  rcases hc with rfl | hc
  ·rw[z2,I.free]at q;cases q
  ·rw[z2,I.free]at hc;cases hc
theorem E8{M:Model}{A:d8}{E:Value->a5->Prop}{pos:Pos}{Q:Unit->a5->Prop}(I:Inv X pins σ H s)(hN:X.N.Nodup)(hi:X.N[i]? = some n)(hl:X.env.scope.names.lookup n=some .local)
  (k:∀s',Inv X pins (σ.set i none) H s'->Q () s'):wpAny M A (do bindName X.env n .none;unbindBehindTheSuite X.env n pos) Q E s:=by
 have hlt:i<σ.length:=by rw[I.len];exact(c5.mp hi).1
 refine a6 (wpAny_bindName (A6 (v:=.non) I hN hi (.inl hl) rfl (fun s1 I1=>?_) (.inr hl)))
 unfold unbindBehindTheSuite
 refine wpAny_onRaise (a1M I1 hN hi hl (E9 hlt) fun s2 I2=>?_)
 rw[List.set_set]at I2
 exact k s2 I2
end
end L2
namespace L2
open PySem PySem.Spec PyProof.Rows PySem.W
theorem a0S{M:Model}{A:d8}{E:Value->a5->Prop}{K:Frag}{h:Heap}{g:Array GenState}{d:Drawn}{t:Nat}{os:OsState}{C C1 e:Addr}{oe:Obj}{Q:Bool->a5->Prop}(X:K.In h)(h1:I0 K C1=true)(hsub:mroIn K C (.ref C1)=some true)
  (he:h.get? e=some oe) (hcls:oe.cls=.ref C) (hq:Q true ⟨h,g,d,t,os⟩):wpAny M A (excMatches (.ref e) (.ref C1)) Q E ⟨h,g,d,t,os⟩:=by
 obtain⟨bm,N,nm,q,bs,hd,sn,sub,ab,col,dd,k0,k1,k2,k3,k5,hC1,T⟩:=U2 X h1
 have hcB:(Value.ref C1::bm).contains (.type "BaseException")=true:=by rw[a3U,T.hasType (b:=true) (by decide +kernel),a8D]
 have L:=looks_mroIn (M:=M) X hsub
 have f:=tc_notTuple
 unfold excMatches
 repeat (first | (with_reducible refine wpAny_loadPart_at he ?_;rw[hcls]) | with_reducible refine wpAny_loadPart_at hC1 ?_ | (with_reducible refine wpAny_isSubtype_exc hC1 ?_;rw[hcB]) | with_reducible refine L.at ?_ | wp_step)
 exact hq
abbrev Cx.tryB(X:Cx)(pins:List (Addr×Obj))(E:Value->a5->Prop):Cx:={ X with pn:=X.pn++pins,xe:=E }
abbrev Cx.suite(X:Cx)(pins:List (Addr×Obj))(x:Addr)(oe:Obj):Cx:={ X with A:=X.A.mark (some (.ref x)),calm:=false,pn:=X.pn++(pins++[(x,oe)]),xe:=fun _ _=>False }
section
variable {X:Cx}{pins pins':List (Addr×Obj)}{σ:St}{H:Hp}{s:a5}{x:Addr}{oe:Obj}{E:Value->a5->Prop}
theorem Inv.tryB(I:Inv X pins σ H s)(E:Value->a5->Prop):Inv (X.tryB pins E) [] σ H s:=
 ⟨⟨I.ok.mod,I.ok.kind,I.ok.glob,I.ok.blt,I.ok.above,I.ok.inj,I.ok.has,I.ok.cab,I.ok.hd,I.ok.frames,I.ok.stk,I.ok.exf,I.ok.bs,I.ok.bsz,I.ok.noex,I.ok.exfs,I.ok.funs,I.ok.frf⟩,I.os,I.bare,I.base,I.loc,I.cell,I.free,I.freeC,fun p hp=>I.pin p (by simpa using hp),I.hok,I.len⟩
theorem Inv.untryB(I:Inv (X.tryB pins E) pins' σ H s):Inv X pins σ H s:=
 ⟨⟨I.ok.mod,I.ok.kind,I.ok.glob,I.ok.blt,I.ok.above,I.ok.inj,I.ok.has,I.ok.cab,I.ok.hd,I.ok.frames,I.ok.stk,I.ok.exf,I.ok.bs,I.ok.bsz,I.ok.noex,I.ok.exfs,I.ok.funs,I.ok.frf⟩,I.os,I.bare,I.base,I.loc,I.cell,I.free,I.freeC,fun p hp=>I.pin p (g6 _ hp),I.hok,I.len⟩
theorem u5.untryB{b:Addr}(f:u5 (X.tryB pins E) pins' H b):u5 X pins H b:=⟨f.1,f.2.1,f.2.2.1,f.2.2.2.1,f.2.2.2.2.1,fun p hp=>f.2.2.2.2.2 p (g6 _ hp)⟩
theorem Out.untryB{cls:Value}{dx:Option Addr}(o:Out (X.tryB pins E) pins' σ H s x cls dx):Out X pins σ H s x cls dx:=⟨o.inv.untryB,o.fx.untryB,o.fl.imp id fun⟨T,f1,f2⟩=>⟨T,f1.untryB,f2⟩⟩
theorem Inv.suite(I:Inv X pins σ H s)(f:u5 X pins H x)(he:s.heap.get? x=some oe)(hd:∀v,oe.data≠.cell v):Inv (X.suite pins x oe) [] σ H s:=
 ⟨⟨I.ok.mod,I.ok.kind,I.ok.glob,I.ok.blt,I.ok.above,I.ok.inj,I.ok.has,I.ok.cab,(fun z=>by cases z),I.ok.frames,I.ok.stk,I.ok.exf,I.ok.bs,I.ok.bsz,I.ok.noex,I.ok.exfs,I.ok.funs,I.ok.frf⟩,I.os,I.bare,I.base,I.loc,I.cell,I.free,I.freeC,fun p hp=>by
  have hp:p∈(X.pn++(pins++[(x,oe)]))++[]:=hp
  rw[u7,<-a5g]at hp
  rcases V5.mp hp with z | z
  ·exact I.pin p z
  ·rw[u9.mp z]
   exact⟨he,f.1,f.2.1,f.2.2.1,hd⟩,I.hok,I.len⟩
theorem Inv.unsuite(hh:X.calm=true->X.A.handled=none)(I:Inv (X.suite pins x oe) pins' σ H s):Inv X pins σ H s:=
 ⟨⟨I.ok.mod,I.ok.kind,I.ok.glob,I.ok.blt,I.ok.above,I.ok.inj,I.ok.has,I.ok.cab,hh,I.ok.frames,I.ok.stk,I.ok.exf,I.ok.bs,I.ok.bsz,I.ok.noex,I.ok.exfs,I.ok.funs,I.ok.frf⟩,I.os,I.bare,I.base,I.loc,I.cell,I.free,I.freeC,fun p hp=>I.pin p (by
  show p∈(X.pn++(pins++[(x,oe)]))++pins'
  rw[<-a5g]
  exact g6 _ (g6 _ hp)),I.hok,I.len⟩
end
def a1h(K:Frag)(C1:Addr)(i:Nat)(tb:(St->XK)->TS)(th:Addr->Addr->Option Addr->TS):TS:=fun D σ H=>tb (fun σ' cls dx H'=>∃C,cls=.ref C/\mroIn K C (.ref C1)=some true/\∀x,H' x=none ->
 th x C dx { nx:=fun σ2 H2=>D.nx (σ2.set i none) H2,rt:=D.rt,bk:=fun σ2 H2=>D.bk (σ2.set i none) H2,ct:=fun σ2 H2=>D.ct (σ2.set i none) H2 } (σ'.set i (some (.ref x))) H') D σ H
section
variable {X:Cx}{C1:Addr}{i:Nat}{n c1:Str}{np hpos pos:Pos}{body:List Stmt}{b0:Stmt}{suite:List Stmt}{tb:(St->XK)->TS}{th:Addr->Addr->Option Addr->TS}
theorem a4p(hc:X.calm=true)(hst:X.stack=X.env::X.outer)(hf:X.env.frame=some X.env.locals)(hN:X.N.Nodup)(hi:X.N[i]? = some n)(hl:X.env.scope.names.lookup n=some .local)(hg:Gl X c1)(hm:X.mg c1=some (.ref C1))(h1:I0 X.K C1=true)
  (hb:∀(E:St->XK) (pins:List (Addr×Obj)) (xe:Value->a5->Prop),Wi (X.tryB pins xe) E->PSs (X.tryB pins xe) body (tb E))
  (hs:∀(pins:List (Addr×Obj)) (x C:Addr) (dx:Option Addr) (oe:Obj) (vs:Array Value),oe.cls=.ref C->oe.dict=dx->oe.data=.fields vs->vs[2]? = some .none->PSs (X.suite pins x oe) (b0::suite) (th x C dx))
  (hdb:(c1 == ("__debug__" : Str))=false:=by decide) :
  PS X (.Try body [.ExceptHandler (some (.Name c1 np)) (some n) (b0::suite) hpos] [] [] pos) (a1h X.K C1 i tb th):=by
 intro pins s σ H D I h
 have hh:=I.ok.hd
 obtain⟨XE,hXE⟩:∃XE:Value->a5->Prop,XE=fun e s1=>wpAny (model X.prog X.w) X.A (noteFrame e X.env) (fun _ s2=>wpAny (model X.prog X.w) X.A (setFlight e none) (fun _ s3=>wpAny (model X.prog X.w) X.A (handleBy e X.env [.ExceptHandler (some (.Name c1 np)) (some n) (b0::suite) hpos]) (SP X pins D) X.xe s3) X.xe s2) X.xe s1:=⟨_,rfl⟩
 refine wpAny_Try_except ?_
 rw[<-hXE]
 have W:Wi (X.tryB pins XE) fun σ' cls dx H'=>∃C,cls=.ref C/\mroIn X.K C (.ref C1)=some true/\∀x,H' x=none ->
   th x C dx { nx:=fun σ2 H2=>D.nx (σ2.set i none) H2,rt:=D.rt,bk:=fun σ2 H2=>D.bk (σ2.set i none) H2,ct:=fun σ2 H2=>D.ct (σ2.set i none) H2 } (σ'.set i (some (.ref x))) H':=by
  rintro pins' σ' H' s' x cls dx o ⟨C,rfl,hsub,hth⟩
  show XE (.ref x) s'
  rw[hXE]
  have o:=o.untryB
  refine a0m hst hf o fun s2 o2=>G1 o2 fun s3 o3=>?_
  refine wpAny_handleBy_cons (codeAny_handlers_test ?_) (by intro q;cases q)
  obtain⟨T,f1,oe,vs,oT,ts,he,⟨hcls,hdx,h2⟩,hd,hr⟩:=o3.fl
  have I3:Inv (X.suite pins x oe) [] σ' H' s3:=o3.inv.suite o3.fx he fun v z=>by rw[hd]at z;cases z
  refine E7 (X:=X.suite pins x oe) I3 hg hm ?_ hdb
  obtain⟨hp3,g3,d3,t3,os3⟩:=s3
  refine a0S I3.kIn h1 hsub he hcls ?_
  refine codeAny_handlers_suite_as ?_
  refine G1 o3 fun s4 o4=>?_
  obtain⟨T4,f4,oe4,vs4,oT4,ts4,he4,⟨hcls4,hdx4,h24⟩,hd4,hr4⟩:=o4.fl
  have I4:Inv (X.suite pins x oe4) [] σ' H' s4:=o4.inv.suite o4.fx he4 fun v z=>by rw[hd4]at z;cases z
  refine A6 (X:=X.suite pins x oe4) (v:=.ref x) I4 hN hi (.inl hl) rfl (fun s5 I5=>?_) (.inr hl)
  refine j7 (hs pins x C dx oe4 vs4 hcls4 hdx4 hd4 h24 [] s5 _ H' _ I5 (hth x o4.fx.1)) (fun f s6 q=>?_) fun _ _ z=>False.elim z
  show wpAny _ _ _ _ _ _
  cases f with
  | next=>
   obtain⟨σ2,H2,I6,q⟩:=q
   exact E8 (I6.unsuite hh) hN hi hl fun s7 I7=>⟨_,_,I7,q⟩
  | brk=>
   obtain⟨σ2,H2,I6,q⟩:=q
   exact E8 (I6.unsuite hh) hN hi hl fun s7 I7=>⟨_,_,I7,q⟩
  | cont=>
   obtain⟨σ2,H2,I6,q⟩:=q
   exact E8 (I6.unsuite hh) hN hi hl fun s7 I7=>⟨_,_,I7,q⟩
  | ret u=>
   obtain⟨v,σ2,H2,I6,r,q⟩:=q
   exact E8 (I6.unsuite hh) hN hi hl fun s7 I7=>⟨v,_,_,I7,r,q⟩
 refine j7 (hb _ pins XE W [] s σ H D (I.tryB XE) h) (fun f s1 q=>?_) fun _ _ z=>z
 cases f with
 | next=>
  obtain⟨σ2,H2,I6,q⟩:=q
  exact O2 ⟨σ2,H2,I6.untryB,q⟩
 | brk=>
  obtain⟨σ2,H2,I6,q⟩:=q
  exact⟨σ2,H2,I6.untryB,q⟩
 | cont=>
  obtain⟨σ2,H2,I6,q⟩:=q
  exact⟨σ2,H2,I6.untryB,q⟩
 | ret u=>
  obtain⟨v,σ2,H2,I6,r,q⟩:=q
  exact⟨v,σ2,H2,I6.untryB,r,q⟩
end
end L2
namespace L2
open PySem PySem.Spec PyProof.Rows PySem.W
section
variable {prog:b8}{w:World}{A:d8}{E:Value->a5->Prop}{s:a5}{K:Frag}{x C:Addr}{ox:Obj}{od:Option Obj}{name:Str}{v:Value}
variable {h:Heap}{g:Array GenState}{d:Drawn}{t:Nat}{os:OsState}
structure a5a(K:Frag)(C:Addr):Prop where
 ga:findIn K (.ref C) "__getattribute__" = some (some (.builtin "BaseException.__getattribute__"))
 gg:findIn K (.ref C) "__getattr__" = some none
 be:mroIn K C (.type "BaseException")=some true
theorem a2S{tk:Tok}{R:a1c->a5->Prop}(X:K.In h)(I:InstAt h x ox C od)(c:a5a K C)(hf:findObj K C od name=some (.value v))(hq:R (.ok (.ret v)) ⟨h,g,d,t,os⟩) :
  D3 (model prog w) A (.call (.builtin "BaseException.__getattribute__") ⟨[.ref x,.str name tk],[]⟩) R ⟨h,g,d,t,os⟩:=by
 have hk:builtinKind "BaseException.__getattribute__" = some .slot:=by decide +kernel
 have hs:splitId "BaseException.__getattribute__" = some ("BaseException","__getattribute__"):=by decide +kernel
 have L0:=I.type (M:=model prog w)
 have L1:=looks_find (M:=model prog w) X I hf
 have sub:Looks (model prog w) h (isInstance (.ref x) (.type "BaseException")) true:=L0.andThen (looks_mroIn X c.be)
 refine codeAny_call_builtin t8.ga.plain a0D (@check_slot (model prog w) _ _ ⟨h,g,d,t,os⟩ "BaseException.__getattribute__" "BaseException" "__getattribute__" (.ref x) [.str name tk] [] _ hk hs sub (a1b _ _) ?_)
 refine a6 (d7 (a6 (d7 (a6 (L0.at (a6 (L1.at ?_)))))))
 exact d7 hq
theorem a3Z{tk:Tok}{fill expr:Bool}{Q:Value->a5->Prop}(X:K.In h)(I:InstAt h x ox C od)(c:a5a K C)(hf:findObj K C od name=some (.value v))(hh:handedIn v=true)(hq:Q v ⟨h,g,d,t,os⟩) :
  wpAny (model prog w) A (getAttrBy (.ref x) (.str name tk) fill expr) Q E ⟨h,g,d,t,os⟩:=by
 have L0:=I.type (M:=model prog w)
 have L1:=looks_findIn (M:=model prog w) X c.ga
 have L2:=looks_findIn (M:=model prog w) X c.gg
 have f3:=t8.ga.bind (.ref x)
 have hx0:(expr&&onTheHeap (Value.builtin "BaseException.__getattribute__"))=false:=by cases expr <;> rfl
 have hx2:(Value.builtin "BaseException.__getattribute__" == Value.builtin "object.__getattribute__")=false:=by decide +kernel
 have hx1:(onTheHeap (Value.ref C)&&Value.builtin "BaseException.__getattribute__" == Value.builtin "object.__getattribute__")=false:=by rw[hx2];rfl
 unfold getAttrBy
 refine l7 (a6 (L0.at (a6 (L1.at ?_))))
 show wpAny _ _ (if(onTheHeap (Value.ref C)&&Value.builtin "BaseException.__getattribute__" == Value.builtin "object.__getattribute__")=true then _ else _) _ _ _
 rw[if_neg (by rw[hx1];decide)]
 unfold getAttrByItsOwn hookBefore
 refine a6 (L2.at ?_)
 refine a6 (wpAny_attempt (l7 ?_))
 unfold callGetattribute
 rw[hx0,if_neg (by decide)]
 unfold boundAndCalled
 refine a6 (wpAny_of_eq f3 (wpAny_call (a2S X I c hf ?_)))
 show wpAny _ _ (handedOut v) _ _ _
 rw[handedOut_of hh]
 exact d7 hq
theorem a4S{expr:Bool}{Q:Value->a5->Prop}(X:K.In s.heap)(I:InstAt s.heap x ox C od)(c:a5a K C)(hf:findObj K C od name=some (.value v))(hh:handedIn v=true)(hq:Q v { s with toks:=s.toks+1 }) :
  wpAny (model prog w) A (getAttr (.ref x) name expr) Q E s:=by
 obtain⟨h,g,d,t,os⟩:=s
 unfold getAttr
 exact a6 (wpAny_mkText (a3Z X I c hf hh hq))
end
end L2
namespace L2
open PySem PySem.Spec PyProof.Rows PySem.W
structure XIs(K:Frag)(C:Addr):Prop extends a5a K C where
 hd:hasDictIn K C=true
 ha:findIn K (.ref C) "__class__" = some (some (.builtin "object.__class__"))
 hn:specialIn K (.builtin "object.__class__") "__get__" = some (some (.builtin "getset_descriptor.__get__"))
 tk:takesIn K (.builtin "object.__class__")=some true
 ob:mroIn K C (.type "object")=some true
section
variable {prog:b8}{w:World}{A:d8}{E:Value->a5->Prop}{s:a5}{K:Frag}{x C:Addr}{ox:Obj}{od:Option Obj}{name:Str}{v:Value}
variable {h:Heap}{g:Array GenState}{d:Drawn}{t:Nat}{os:OsState}
theorem Z9{tk:Tok}{R:a1c->a5->Prop}(X:K.In h)(I:InstAt h x ox C od)(c:XIs K C)(hq:R (.ok (.ret (.ref C))) ⟨h,g,d,t,os⟩) :
  D3 (model prog w) A (.call (.builtin "BaseException.__getattribute__") ⟨[.ref x,.str "__class__" tk],[]⟩) R ⟨h,g,d,t,os⟩:=by
 have hk:builtinKind "BaseException.__getattribute__" = some .slot:=by decide +kernel
 have hs:splitId "BaseException.__getattribute__" = some ("BaseException","__getattribute__"):=by decide +kernel
 have hf:findObj K C od "__class__" = some (.bind (.builtin "getset_descriptor.__get__") (.builtin "object.__class__")):=by
  obtain⟨cd,hc,_⟩:=any_some c.hd
  unfold findObj
  rw[hc,O1,c.ha,O1]
  simp[c.hn,c.tk]
 have L0:=I.type (M:=model prog w)
 have L1:=looks_find (M:=model prog w) X I hf
 have sub:Looks (model prog w) h (isInstance (.ref x) (.type "BaseException")) true:=L0.andThen (looks_mroIn X c.be)
 refine codeAny_call_builtin t8.ga.plain a0D (@check_slot (model prog w) _ _ ⟨h,g,d,t,os⟩ "BaseException.__getattribute__" "BaseException" "__getattribute__" (.ref x) [.str "__class__" tk] [] _ hk hs sub (a1b _ _) ?_)
 refine a6 (d7 (a6 (d7 (a6 (L0.at (a6 (L1.at ?_)))))))
 show wpAny _ _ (K7 [Value.builtin "object.__class__"] (call (.builtin "getset_descriptor.__get__") [.builtin "object.__class__",.ref x,.ref C]) >>= ret) _ _ _
 refine a6 (l7 (wpAny_call (class_get (s:=⟨h,g,d,t,os⟩) (ox:=ox) (od:=od) X I c.ob ?_)))
 exact d7 hq
theorem a1L{tk:Tok}{fill expr:Bool}{Q:Value->a5->Prop}(X:K.In h)(I:InstAt h x ox C od)(c:XIs K C)(hq:Q (.ref C) ⟨h,g,d,t,os⟩) :
  wpAny (model prog w) A (getAttrBy (.ref x) (.str "__class__" tk) fill expr) Q E ⟨h,g,d,t,os⟩:=by
 have L0:=I.type (M:=model prog w)
 have L1:=looks_findIn (M:=model prog w) X c.ga
 have L2:=looks_findIn (M:=model prog w) X c.gg
 have f3:=t8.ga.bind (.ref x)
 have hx0:(expr&&onTheHeap (Value.builtin "BaseException.__getattribute__"))=false:=by cases expr <;> rfl
 have hx2:(Value.builtin "BaseException.__getattribute__" == Value.builtin "object.__getattribute__")=false:=by decide +kernel
 have hx1:(onTheHeap (Value.ref C)&&Value.builtin "BaseException.__getattribute__" == Value.builtin "object.__getattribute__")=false:=by rw[hx2];rfl
 unfold getAttrBy
 refine l7 (a6 (L0.at (a6 (L1.at ?_))))
 show wpAny _ _ (if(onTheHeap (Value.ref C)&&Value.builtin "BaseException.__getattribute__" == Value.builtin "object.__getattribute__")=true then _ else _) _ _ _
 rw[if_neg (by rw[hx1];decide)]
 unfold getAttrByItsOwn hookBefore
 refine a6 (L2.at ?_)
 refine a6 (wpAny_attempt (l7 ?_))
 unfold callGetattribute
 rw[hx0,if_neg (by decide)]
 unfold boundAndCalled
 refine a6 (wpAny_of_eq f3 (wpAny_call (Z9 X I c ?_)))
 show wpAny _ _ (handedOut (.ref C)) _ _ _
 rw[handedOut_of rfl]
 exact d7 hq
theorem a3x(c:XIs K C):KitX K (.ref x) (.ref C) (fun h=>InstAt h x ox C od) where
 ty:=fun _ _ _ I=>I.type
 it:=fun _ _ X _=>by
  obtain⟨cdD,hcD,_⟩:=any_some c.hd
  unfold clsIn at hcD
  split at hcD
  ·rename_i c' d' cd' sl' ho
   intro A' Q' E' s' k q
   unfold isType loadHead
   exact a6 (wpAny_loadPart (k _ _ (X _ _ ho)) (d7 q))
  ·cases hcD
 ne:=fun h tp dd its n sl X htp=>by
  obtain⟨cdD,hcD,_⟩:=any_some c.hd
  refine Bool.eq_false_iff.mpr fun q=>?_
  have e:C=tp:=Value.ref.inj (beq_iff_eq.mp q)
  subst e
  unfold clsIn at hcD
  split at hcD
  ·rename_i c' d' cd' sl' ho
   have z:=(X _ _ ho).symm.trans htp
   cases z
  ·cases hcD
 ca:=fun {prog w A E Q s} X I k=>by
  obtain⟨h,g,d,t,os⟩:=s
  unfold getAttr? getAttrBy?
  exact a6 (wpAny_mkText (a6 (wpAny_attempt (a1L X I c (d7 k)))))
end
structure Y5(X:Cx)(x C:Addr)(dx:Option Addr):Prop where
 ex:∃oe vs,(x,oe)∈X.pn/\oe.cls=.ref C/\oe.dict=dx/\oe.data=.fields vs/\vs[2]? = some .none
theorem a1P{X:Cx}{pins:List (Addr×Obj)}{x C:Addr}{dx:Option Addr}{oe:Obj}{vs:Array Value}(h1:oe.cls=.ref C)(h2:oe.dict=dx)(h3:oe.data=.fields vs)(h4:vs[2]? = some .none):Y5 (X.suite pins x oe) x C dx:=
 ⟨oe,vs,by simp,h1,h2,h3,h4⟩
def a6f(K:Frag)(x C:Addr):List V->Hp->VK->Prop:=fun vs H Q=>∃c u b,vs=[.ref x,c]/\f6 c u/\kitOne K (.ref C) u=some b/\(∀u',f6 c u'->u'=u)/\XIs K C/\Q (.bl b) H
section
variable {X:Cx}{x C:Addr}{dx:Option Addr}{f:Str}{pos:Pos}{e:Expr}{ta:TE}
theorem a0p{pins:List (Addr×Obj)}{σ:St}{H:Hp}{s:a5}(I:Inv X pins σ H s)(hx:Y5 X x C dx)(hd:∀d,dx=some d->∃fs,H d=some (.xd fs)):∃oe od,InstAt s.heap x oe C od/\∀d,dx=some d->∃o,od=some o/\s.heap.get? d=some o:=by
 obtain⟨oe,vs,hm,h1,h2,h3,_⟩:=hx.ex
 have ho:=(I.pin (x,oe) (g6 _ hm)).1
 have hn:notCls oe=true:=by unfold notCls;rw[h3]
 cases hdx:dx with
 | none=>exact⟨oe,none,⟨ho,h1,hn,by rw[h2,hdx];trivial⟩,fun d z=>by cases z⟩
 | some d=>
  obtain⟨fs,hf⟩:=hd d hdx
  obtain⟨mA,⟨o,es,ep,e1,r⟩,_⟩:n9 X.prog X.w H s.heap d (.xd fs):=I.hok d _ hf
  exact⟨oe,some o,⟨ho,h1,hn,by rw[h2,hdx];exact e1⟩,fun d' z=>by cases z;exact⟨o,rfl,e1⟩⟩
def a0z(dx:Option Addr)(H:Hp):Prop:=∀d,dx=some d->∃fs,H d=some (.xd fs)
theorem a3H(hx:Y5 X x C dx):x9 X (.builtin "isinstance") (fun vs H Q=>a0z dx H/\a6f X.K x C vs H Q):=by
 rintro pins s σ H vs us Q I r ⟨hd,c,u,b,rfl,rc,e,un,xi,q⟩
 obtain⟨u1,u2,rfl,r1,r2⟩:=a5o r
 obtain rfl:u1=Value.ref x:=r1
 obtain rfl:=un _ r2
 obtain⟨oe,od,J,_⟩:=a0p I hx hd
 exact kia_one (a3x xi) I.kIn J e (fun z=>nomatch z) fun tk=>⟨.bl b,H,I.tok tk,rfl,q⟩
def a0b(K:Frag)(x C:Addr)(dx:Option Addr)(ta:TE)(f:Str):TE:=fun σ H Q=>ta σ H fun y H1=>y=.ref x/\∃d fs v,dx=some d/\H1 d=some (.xd fs)/\fs.lookup f=some v/\XIs K C/\findIn K (.ref C) f=some none/\Q v H1
theorem a4w(hx:Y5 X x C dx)(he:PE X e ta)(hb:K8 e f X.env (eval e X.env)=eval e X.env:=by rfl):PE X (.Attribute e f pos) (a0b X.K x C dx ta f):=by
 intro pins s σ H Q I h
 refine a4V hb (thn (he pins s σ H _ I h) fun ov s1 ⟨y,H1,I1,ry,ey,d,fs,v,edx,ed,l,xi,na,q⟩=>?_)
 subst ey
 obtain rfl:ov=Value.ref x:=ry
 obtain⟨oe,od,J,hod⟩:=a0p I1 hx fun d' z=>by rw[edx]at z;cases z;exact⟨fs,ed⟩
 obtain⟨o,rfl,ho⟩:=hod d edx
 obtain⟨mA,hns,hr⟩:n9 X.prog X.w H1 s1.heap d (.xd fs):=I1.hok d _ ed
 obtain⟨o',ho',hlk⟩:=U8 hns
 rw[ho]at ho'
 cases ho'
 have hf:=hr f
 rw[l]at hf
 obtain⟨u,hu,ru⟩:∃u,mA f=some u/\f6 v u:=by
  cases hm:mA f with
  | none=>rw[hm]at hf;exact hf.elim
  | some u=>rw[hm]at hf;exact⟨u,rfl,hf⟩
 exact a4S I1.kIn J ⟨xi.ga,xi.gg,xi.be⟩ (findObj_own xi.hd na rfl (by rw[hlk,hu])) (a2l ru) ⟨v,H1,I1.tok _,ru,q⟩
end
end L2
namespace L2
open PySem PySem.Spec PyProof.Rows PySem.W
theorem S8:entryFor table "proto.unchain" = some Builtin.«proto.unchain» := entryFor_of_tree (by kernel_rfl)
section
variable {prog:b8}{w:World}{A:d8}{E:Value->a5->Prop}{s:a5}
theorem S5{α:Type}{e y:Addr}{oe oy:Obj}{vs vy:Array Value}{Q:α->a5->Prop}(hh:A.handled=some (.ref y))(hne:y≠e)(hy:s.heap.get? y=some oy)(hdy:oy.data=.fields vy)(h2:vy[2]? = some .none)
  (he:s.heap.get? e=some oe) (hd:oe.data=.fields vs) (hsz:2<vs.size) (h:E (.ref e) { s with heap:=s.heap.update e (Obj.mapFields (·.setIfInBounds 2 (.ref y))) }):wpAny (model prog w) A (raiseNew (.ref e):Sem α) Q E s:=by
 unfold raiseNew
 refine a6 (wpAny_handled ?_)
 rw[hh]
 show wpAny _ _ (if(Value.ref y != Value.ref e)=true then _ else _) _ _ _
 rw[if_pos (by simp[bne_iff_ne];exact hne)]
 refine a6 (l7 (wpAny_runValue (codeAny_builtin S8 ?_)))
 unfold Builtin.«proto.unchain»
 refine a6 (D0 hy hdy h2 ?_)
 rw[if_pos (by decide)]
 refine d7 ?_
 show wpAny _ _ _ _ _ _
 exact a6 (show wpAny _ _ (setField (.ref e) 2 (.ref y)) _ _ _ from wpAny_setField he hd hsz (wpAny_throw h))
theorem Q4{it y:Addr}{x left step:Int}{oy:Obj}{vy:Array Value}{Q:Option Value->a5->Prop}(hh:A.handled=some (.ref y))(hy:s.heap.get? y=some oy)(hdy:oy.data=.fields vy)(h2:vy[2]? = some .none)(hit:K9 s.heap it x left step)(hleft:left<=0)
  (hQ:∀h',Heap.ExtBut it s.heap h'->Q none { s with heap:=h' }):wpAny (model prog w) A (a7o (.ref it)) Q E s:=by
 have hT:s.TypeIs (.ref it) "range_iterator" := ⟨_,hit,rfl⟩
 unfold a7o
 refine a6 (wpAny_attempt (wpAny_callSpecial?_slot (name:=Str.ofString "__next__") hT F.slot_range_iterator_next
  (wpAny_call_entry F.slot_range_iterator_next hT F.entry_range_iterator_next ?_ (F.args_range_iterator_next_1 _))))
 show wpAny _ _ (field (.ref it) 0 >>= _) _ _ s
 refine a6 (D0 hit rfl (x:=rawInt x) rfl ?_)
 show wpAny _ _ (field (.ref it) 1 >>= _) _ _ s
 refine a6 (D0 hit rfl (x:=rawInt left) rfl ?_)
 show wpAny _ _ (field (.ref it) 2 >>= _) _ _ s
 refine a6 (D0 hit rfl (x:=rawInt step) rfl ?_)
 show wpAny _ _ (if left<=0 then _ else _) _ _ s
 rw[if_pos hleft]
 refine a6 (wpAny_rule ?_)
 refine a6 ?_
 show wpAny _ _ (newExc (.type "StopIteration") [] >>= _) _ _ _
 refine a6 ?_
 simp only[newExc,newTuple]
 refine a6 (z7 ?_ (by size_fits))
 refine a6 (m:=firstArgMember _ _) (wpAny_of_eq (a:=Value.none) (by first | rfl | (simp only[firstArgMember];rfl)) ?_)
 refine z7 ?_ (by size_fits)
 have ey:((s.heap.push { cls:=.type "tuple",data:=.seq ([]:List Value).toArray }).push { cls:=.type "StopIteration",data:=.fields (#[Value.ref s.heap.objs.size,.none,.none,.none,.bool false,.none]++ownMembersOf (.type "StopIteration") []) }).get? y=some oy:=a7 _ (a7 _ hy)
 have ne:y≠(s.heap.push { cls:=.type "tuple",data:=.seq ([]:List Value).toArray }).objs.size:=by
  rw[G7]
  exact d9 (S0 (a8 hy))
 refine S5 (show A.in1.handled=some (.ref y)from hh) ne ey hdy h2 (g9 _ rfl) rfl (show 2<6 by decide) ?_
 refine a6 (wpAny_isInstance (T := "StopIteration") (b:=true) ⟨_,j4 _ (g9 _ rfl) rfl,rfl⟩ isSubtype_stop ?_)
 refine d7 (hQ _ fun b o nb hb=>?_)
 rw[g7 _ _ (Ne.symm (by rw[G7];exact d9 (S0 (a8 hb))))]
 exact a7 _ (a7 _ hb)
end
structure a8k(P:b8)(w:World)(fp:List Addr)(it:Addr)(tn:Nat->Heap->Prop):Prop where
 obj:∀i h,tn i h->∀b∈fp,∃o,h.get? b=some o/\∀v,o.data≠.cell v
 keep:∀i h h',tn i h->(∀b∈fp,∀o,h.get? b=some o->h'.get? b=some o)->tn i h'
 self:∀(A:d8) (i:Nat) (s:a5) (Q:Value->a5->Prop) (E:Value->a5->Prop),tn i s.heap->Q (.ref it) s->wpAny (model P w) A (pyIter (.ref it)) Q E s
structure a8j(X:Cx)(tg:Expr)(J:It)(fp:List Addr)(it:Addr)(tn:Nat->Heap->Prop):Prop where
 item:∀(i:Nat) (pins:List (Addr×Obj)) (s:a5) (σ:St) (H:Hp) (E:Value->a5->Prop),Inv X pins σ H s->(∀b∈fp,u5 X pins H b)->tn i s.heap->J.go i H ->
  wpAny (model X.prog X.w) X.A (a7o (.ref it)) (fun r s1=>∃u,r=some u /\
   wpAny (model X.prog X.w) X.A (D2 tg (.ref it) u) (fun _ s2=>∃x H',Inv X pins σ H' s2/\f6 x u/\J.yld i H x H'/\tn (i+1) s2.heap/\∀b∈fp,H' b=none) E s1) E s
 done:∀(i:Nat) (pins:List (Addr×Obj)) (s:a5) (σ:St) (H:Hp) (E:Value->a5->Prop),Inv X pins σ H s->(∀b∈fp,u5 X pins H b)->tn i s.heap->J.stop i H ->
  wpAny (model X.prog X.w) X.A (a7o (.ref it)) (fun r s1=>r=none/\Inv X pins σ H s1) E s
section
variable {X:Cx}{elt iter:Expr}{x:Str}{px pos:Pos}{ifs:List Expr}{scope:Scope}
theorem a0v{pins:List (Addr×Obj)}{σ:St}{H1:Hp}{s2:a5}{cl:List (Str×Addr)}{fp:List Addr}{it:Addr}{tn:Nat->Heap->Prop}{J:It}{tt:TT}{te:TE}{Q:VK}{E:Value->a5->Prop}
  {RR:Value->Addr->a1c->a5->Prop} (hc:z9 X.N X.env.scope scope x) 
  (hcl:∀y c,cl.lookup y=some c->X.env.cells.lookup y=some c) (hcl2:∀y,(y,NameKind.free)∈scope.names->(cl.lookup y).isSome=true)
  (ht:∀C fp s3 H3,PTs (g8 X scope cl C x fp s3 H3) ifs tt) (he:∀C fp s3 H3,PE (g8 X scope cl C x fp s3 H3) elt te)
  (I:Inv X pins σ H1 s2) (T:a8k X.prog X.w fp it tn) (TA:∀s3 H3,Inv X pins σ H3 s3->a8j (g8 X scope cl s3.heap.objs.size x fp s3 H3) (.Name x px) J fp it tn) (st:tn 0 s2.heap) (fpo:∀b∈fp,u5 X pins H1 b)
  (h:∀D,H1 D=none->∃W:Nat->Nat->List V->Hp->Prop,
   (∃m,W 0 m [] (upd H1 D (.lst [])))/\∀i m ys H2,W i m ys H2->H2 D=some (.lst ys) /\
   ((J.stop i H2 /\ Q (.ref D) H2) \/ (J.go i H2 /\ ∀ x H3,J.yld i H2 x H3 -> tt (some x :: σ) H3 fun ok H4 => if ok = true then
     te (some x::σ) H4 (fun y H5=>H5 D=some (.lst ys)/\ys.length<b5/\∃m',m'<m/\W (i+1) m' (ys++[y]) (upd H5 D (.lst (ys++[y]))))
     else ∃m',m'<m/\W (i+1) m' ys H4)))
  (hRR:∀D C s' H' m,Inv X pins σ H' s'->s'.heap.Ns C m->H' C=none->C≠X.env.locals->X.s₀.heap.objs.size<=C->(∀y c,X.env.cells.lookup y=some c->c≠C)->(∀p∈X.pn++pins,p.1≠C)->Q (.ref D) H'->RR (.ref D) C (.ok .next) s') :
  wpAny (model X.prog X.w) X.A (newList []) (fun acc s₃=>wpAny (model X.prog X.w) X.A (newFunctionEnv scope X.env.globals cl [] X.env.qual none .none (some X.env)) (fun cenv s₄=>
   D3 (model X.prog X.w) X.A (.compStart (.ListComp elt [⟨.Name x px,iter,ifs,0⟩] scope pos) 0 (.ref it) acc { cenv with scope:=a2D scope X.env }) (RR acc cenv.locals) s₄) E s₃) E s2:=by
 refine z7 (hd:=by size_fits) ?_
 have I3:=I.lnew (ys:=[]) (its:=[]) (t':=s2.toks) .nil (by show 0<=b5;exact J8 _)
 obtain⟨W,⟨m0,w0⟩,turn⟩:=h _ I.fresh
 generalize hD:s2.heap.objs.size=D at I3 w0 turn ⊢
 generalize hs3:({ s2 with heap:=s2.heap.push { cls:=.type "list",data:=.seq ([]:List Value).toArray } }:a5)=s3
 have hs3':({ s2 with heap:=s2.heap.push { cls:=.type "list",data:=.seq ([]:List Value).toArray },toks:=s2.toks }:a5)=s3:=hs3
 rw[hs3']at I3
 have keep3:∀b o,s2.heap.get? b=some o->s3.heap.get? b=some o:=fun b o e=>by rw[<-hs3];exact a7 _ e
 have fpl:∀b∈fp,b<s3.heap.objs.size:=fun b hb=>by
  obtain⟨o,e,_⟩:=T.obj _ _ st b hb
  exact a8 (keep3 b o e)
 have fpD:∀b∈fp,b≠D:=fun b hb z=>by
  obtain⟨o,e,_⟩:=T.obj _ _ st b hb
  exact absurd (a8 e) (by rw[z,hD];exact e6 _)
 have fpo3:∀b∈fp,u5 X pins (upd H1 D (.lst [])) b:=fun b hb=>⟨by rw[c8 (fpD b hb)];exact(fpo b hb).1,(fpo b hb).2⟩
 show wpAny _ _ _ _ _ s3
 refine a8s hc.cell (by intro y hy;simp at hy) (fun h₁ hns₁ hsb₁=>?_) hc.kind
 dsimp only[newEnv]at hns₁ hsb₁ ⊢
 have keep4:∀b o,s3.heap.get? b=some o->h₁.get? b=some o:=fun b o e=>hsb₁.extBut b o (d9 (a8 e)) (a7 _ e)
 have I4:=a0u (tk:=s3.toks+([]:List (Str×Value)).length) hc I3 hcl hcl2 fpo3 fpl hns₁ keep4
 have st4:tn 0 h₁:=T.keep _ _ _ st fun b hb o e=>keep4 b o (keep3 b o e)
 have loop:∀s₄:a5,s₄={ s3 with heap:=h₁,toks:=s3.toks+([]:List (Str×Value)).length } ->
   D3 (model X.prog X.w) X.A (.compLoop (.ListComp elt [⟨.Name x px,iter,ifs,0⟩] scope pos) 0 (.ref it) (.ref D) (a2w scope cl s3.heap.objs.size X.env)) (RR (.ref D) s3.heap.objs.size) s₄:=by
  rintro s₄ rfl
  have stat:∀ {H':Hp},(∀b∈fp,H' b=none)->∀b∈fp,u5 (g8 X scope cl s3.heap.objs.size x fp s3 (upd H1 D (.lst []))) [] H' b:=fun hn b hb=>
   ⟨hn b hb,d9 (fpl b hb),fun hf=>by
    rcases j8.mp (I3.stkSub b hf)with e | e
    ·exact(fpo b hb).2.1 e
    ·exact(fpo b hb).2.2.1 e,.inl hb,fun y c e=>(fpo b hb).2.2.2.2.1 y c (hcl y c e),fun p hp=>absurd (show p∈([]:List (Addr×Obj))from hp) (by simp)⟩
  refine U9 (env:=a2w scope cl s3.heap.objs.size X.env) (fun n s'=>∃i ys H',Inv (g8 X scope cl s3.heap.objs.size x fp s3 (upd H1 D (.lst []))) [] (none::σ) H' s'/\tn i s'.heap/\(∀b∈fp,H' b=none)/\W i n ys H') ?_ m0
   ⟨0,[],_,I4,st4,fun b hb=>(fpo3 b hb).1,w0⟩
  rintro n s5 ⟨i,ys,H5,I5,st5,fr5,w5⟩
  obtain⟨hDy,alt⟩:=turn i n ys H5 w5
  rcases alt with ⟨stop,q⟩ | ⟨go,step⟩
  ·refine j7 ((TA s3 _ I3).done i [] s5 _ H5 (fun _ _=>False) I5 (stat fr5) st5 stop) (fun r s6 ⟨hr,I6⟩=>?_) fun _ _ f=>f
   subst hr
   obtain⟨m6,n6,_⟩:=I6.loc
   have J6:Inv X pins σ H5 s6:=by
    refine I3.call' (ch:=fp) I6.os I6.base I6.hok I6.bare fun b hb=>?_
    obtain⟨_,f1,f2,f3,f4,f5⟩:=fpo3 b hb
    exact⟨f3,f1,f4,f5⟩
   refine hRR D _ s6 H5 m6 J6 n6 I6.free (A0 I3.lt) I3.sz (fun y c e z=>?_) (fun p hp z=>?_) q
   ·obtain⟨v,q⟩:=I3.cell y c e
    exact absurd q.lt (by rw[z];exact e6 _)
   ·exact absurd (a8 (I3.pin p hp).1) (by rw[z];exact e6 _)
  ·refine j7 ((TA s3 _ I3).item i [] s5 _ H5 (fun _ _=>False) I5 (stat fr5) st5 go) (fun r s6 ⟨u,hr,h6⟩=>?_) fun _ _ f=>f
   subst hr
   refine thn h6 fun _ s6 ⟨xv,H6,I6,r6,y6,st6,fr6⟩=>?_
   have I6':=I6.pinned (stat fr6) (T.obj _ _ st6)
   refine a0F (A6 (i:=0) I6' ?nd rfl (.inl ?loc) r6 (fun s7 I7=>?_) (.inr ?loc))
   case nd=>exact hc.nd
   case loc=>exact a8t hc.own
   have I7:Inv (g8 X scope cl s3.heap.objs.size x fp s3 (upd H1 D (.lst []))) ([]++D8 fp s6.heap) (some xv::σ) H6 s7:=I7
   have again:∀ {s8:a5} {H8:Hp} {ys8:List V},Inv (g8 X scope cl s3.heap.objs.size x fp s3 (upd H1 D (.lst []))) ([]++D8 fp s6.heap) (some xv::σ) H8 s8->(∃m',m'<n/\W (i+1) m' ys8 H8) ->
     ∃m,m<n/\∃i ys H',Inv (g8 X scope cl s3.heap.objs.size x fp s3 (upd H1 D (.lst []))) [] (none::σ) H' s8/\tn i s8.heap/\(∀b∈fp,H' b=none)/\W i m ys H':=by
    rintro s8 H8 ys8 I8 ⟨m',hm,w8⟩
    refine⟨m',hm,i+1,ys8,H8,(I8.unpinned (pins:=[])).weak rfl (fun j v e=>?_),T.keep _ _ _ st6 fun b hb o e=>(I8.pin (b,o) (c4 _ (c4 _ (v8 hb e)))).1,fun b hb=>?_,w8⟩
    ·cases j with
     | zero=>cases e
     | succ j=>exact e
    ·obtain⟨o,e,d⟩:=T.obj _ _ st6 b hb
     exact(I8.pin (b,o) (c4 _ (c4 _ (v8 hb e)))).2.1
   refine thn (ht _ fp s3 _ _ s7 _ H6 _ I7 (step xv H6 y6)) (fun ok s8 ⟨H8,I8,q8⟩=>?_)
   cases ok with
   | false=>exact again I8 (by simpa using q8)
   | true=>
    rw[if_pos rfl]at q8
    rw[if_pos rfl]
    refine thn (he _ fp s3 _ _ s8 _ H8 _ I8 q8) (fun v s9 ⟨y,H9,I9,r9,hD9,hz9,w9⟩=>?_)
    refine j7 (U7 (X:=g8 X scope cl s3.heap.objs.size x fp s3 (upd H1 D (.lst []))) _ s9 _ H9 (.ref D) [y] (.ref D) [v] (fun _ H'=>H'=upd H9 D (.lst (ys++[y]))) I9 rfl (.cons r9 .nil) ⟨D,ys,y,rfl,rfl,hD9,hz9,rfl⟩) (fun _ s10 ⟨_,H10,I10,_,e10⟩=>?_) fun _ _ f=>f
    subst e10
    exact again I10 w9
 exact a7m (loop _ rfl) (T.self X.A 0 _ _ _ st4 (loop _ rfl))
end
section
variable {X:Cx}{elt:Expr}{x:Str}{px pos:Pos}{ifs:List Expr}{scope:Scope}{y C:Addr}{dx:Option Addr}
abbrev rgT(it:Addr)(lo:Int)(n:Nat):Nat->Heap->Prop:=fun i h=>K9 h it (lo+(i:Nat) * 1) ((n:Int) - (i:Nat)) 1
theorem a7H{pins:List (Addr×Obj)}{σ:St}{H:Hp}{s:a5}{R:It->Hp->Prop}{E:Value->a5->Prop}{lo hi:Int}{t u v:Tok}{tk:Nat}(I:Inv X pins σ H s)(h1 : -(2 ^ 62)<=lo)(h2:lo<2 ^ 62)(h3 : -(2 ^ 62)<=hi)(h4:hi<2 ^ 62)
  (q:R (Itr lo (hi - lo).toNat) H):wpAny (model X.prog X.w) X.A (pyIter (.ref s.heap.objs.size)) (fun itv s2=>∃it lo n H',itv=.ref it/\Inv X pins σ H' s2/\rgT it lo n 0 s2.heap/\u5 X pins H' it/\R (Itr lo n) H') E { s with heap:=s.heap.push { cls:=.type "range",data:=.fields #[.int lo t,.int hi u,.int 1 v] },toks:=tk }:=by
 refine wpAny_pyIter_range (IsRange.new ..) (small_one h1 h2 h3 h4) ?_
 have I1:Inv X pins σ H { s with heap:=s.heap.push { cls:=.type "range",data:=.fields #[.int lo t,.int hi u,.int 1 v] },toks:=tk }:=I.kept fun b o e=>a7 _ e
 refine⟨(s.heap.push { cls:=.type "range",data:=.fields #[.int lo t,.int hi u,.int 1 v] }).objs.size,lo,(hi - lo).toNat,H,rfl,I1.kept (t':=tk) fun b o e=>a7 _ e,?_,I1.fpOk (e7 _) (I1.hok.fresh (e7 _)),q⟩
 have e1:lo+((0:Nat):Int) * 1=lo:=by simp
 have e2:(((hi - lo).toNat:Nat):Int) - ((0:Nat):Int)=Builtin.Range.rangeSize lo hi 1:=by rw[rangeSize_one];split <;> omega
 show K9 _ _ (lo+((0:Nat):Int) * 1) ((((hi - lo).toNat:Nat):Int) - ((0:Nat):Int)) 1
 rw[e1,e2]
 exact g9 _ rfl
theorem a3m{a:Expr}{ta:TA}{p rpos:Pos}{tt:TT}{te:TE}(hx:Y5 X y C dx)(hh:X.A.handled=some (.ref y))(hc:z9 X.N X.env.scope scope x)(hg:Gl X "range")(hm:X.mg "range" = none)(ha:PA X [a] ta)
  (ht:∀cl C fp s3 H3,PTs (g8 X scope cl C x fp s3 H3) ifs tt) (he:∀cl C fp s3 H3,PE (g8 X scope cl C x fp s3 H3) elt te)
  (hs0:b7 [a] X.env=[(false,eval a X.env)]:=by rfl) (hs:∀x,v0 (.Call (.Name "range" p) [a] [] rpos) X.env x=pure x:=by intro _;rfl) :
  PE X (.ListComp elt [⟨.Name x px,.Call (.Name "range" p) [a] [] rpos,ifs,0⟩] scope pos) (P8 (R1 ta) tt te):=by
 intro pins s σ H Q I h
 obtain⟨cl,hclos,hcl,hcl2⟩:=R5 (R4 hc I)
 rw[eval_ListComp]
 obtain⟨R0,hR0⟩:∃R0:It->Hp->Prop,R0=fun J H1=>∀D,H1 D=none->∃W:Nat->Nat->List V->Hp->Prop,
   (∃m,W 0 m [] (upd H1 D (.lst [])))/\∀i m ys H2,W i m ys H2->H2 D=some (.lst ys) /\
   ((J.stop i H2 /\ Q (.ref D) H2) \/ (J.go i H2 /\ ∀ x H3,J.yld i H2 x H3 -> tt (some x :: σ) H3 fun ok H4 => if ok = true then
     te (some x::σ) H4 (fun y H5=>H5 D=some (.lst ys)/\ys.length<b5/\∃m',m'<m/\W (i+1) m' (ys++[y]) (upd H5 D (.lst (ys++[y]))))
     else ∃m',m'<m/\W (i+1) m' ys H4)):=⟨_,rfl⟩
 have hi:wpAny (model X.prog X.w) X.A (eval (.Call (.Name "range" p) [a] [] rpos) X.env) (fun v s1=>wpAny (model X.prog X.w) X.A (pyIter v) (fun itv s2=>∃it lo n H',itv=.ref it/\Inv X pins σ H' s2/\rgT it lo n 0 s2.heap/\u5 X pins H' it/\R0 (Itr lo n) H') X.xe s1) X.xe s:=by
  refine Call_ (X3 I hg hm boot_range (M5 (thn (ha rpos pins s σ H _ I h) fun us s1 ⟨vs,H1,I1,r1,q1⟩=>?_) hs0 rfl))
  obtain⟨j,e,q1,q2,q⟩:=q1
  subst e
  cases r1 with
  | cons r rr=>
   cases rr
   obtain⟨t,rfl⟩:=r
   exact call_range_1 (a7H (R:=R0) (lo:=0) (hi:=j) I1 (by omega) (by omega) q1 q2 (by rw[hR0];simpa using q))
 refine a5i (use:=none) rfl hs hclos hc.kind hc.names (thn hi fun v s1 h1=>thn h1 fun itv s2 ⟨it,lo,n,H2,e,I2,st,fpo,R⟩=>?_)
 subst e
 subst hR0
 obtain⟨oe,vs,hm',h1,h2,h3,h4⟩:=hx.ex
 have T:=P3 (P:=X.prog) (w:=X.w) (K:=X.K) (tg:=.Name x px) it lo n
 refine a0v (fp:=[it]) (tn:=rgT it lo n) (J:=Itr lo n) (RR:=fun acc C=>compPost (model X.prog X.w) X.A X.xe none (EP X pins σ Q) acc C) (Q:=Q) hc hcl hcl2 (ht cl) (he cl) I2 ⟨T.obj,T.keep,T.self⟩ (fun s3 H3 I3=>⟨?_,?_⟩) st (fun b hb=>by rw[u9.mp hb];exact fpo) R ?_
 ·intro i pins' s5 σ' H5 E I5 hf st5 hg5
  obtain⟨f0,f1,f2,f3,f4,f5⟩:=hf it (by simp)
  have hlt:i<n:=hg5
  refine wpAny_pyNext_range_item st5 (by omega) fun h' st' sb=>?_
  have I6:Inv (g8 X scope cl s3.heap.objs.size x [it] s3 H3) pins' σ' H5 { s5 with heap:=h',toks:=s5.toks+1 }:=I5.turned (fun b o hb e=>(sb.2 b hb).trans e) f0 f1 f3 f4 f5
  refine⟨_,rfl,a3A (s:={ s5 with heap:=h',toks:=s5.toks+1 }) (n := "range_iterator") st' rfl rfl (by decide) ⟨.int (lo+i),H5,I6,⟨_,by rw[Int.mul_one]⟩,⟨rfl,rfl⟩,?_,fun b hb=>(hf b hb).1⟩⟩
  show K9 _ _ (lo+((i+1:Nat):Int) * 1) ((n:Int) - ((i+1:Nat):Int)) 1
  have e1:lo+((i+1:Nat):Int) * 1=lo+(i:Int) * 1+1:=by omega
  have e2:(n:Int) - ((i+1:Nat):Int)=(n:Int) - (i:Int) - 1:=by omega
  rw[e1,e2]
  exact st'
 ·intro i pins' s5 σ' H5 E I5 hf st5 hg5
  obtain⟨f0,f1,f2,f3,f4,f5⟩:=hf it (by simp)
  have hge:n<=i:=hg5
  obtain⟨p1,p2,p3,p4,_⟩:=I3.pin (y,oe) (g6 _ hm')
  have hy:s5.heap.get? y=some oe:=I5.base.keep y oe p1 p2 (fun z=>by
   rcases j8.mp (I3.stkSub y z)with e | e
   ·exact p3 e
   ·exact p4 e) fun z=>fpo.2.2.2.2.2 (y,oe) (g6 _ hm') (u9.mp z)
  refine Q4 (A:=X.A) hh hy h3 h4 st5 (by omega) fun h' eb=>⟨rfl,I5.turned (t':=s5.toks) (fun b o hb e=>eb b o hb e) f0 f1 f3 f4 f5⟩
 ·intro D C s' H' m I' n f1 f2 f3 f4 f5 q
  exact⟨m,n,fun h' sb=>⟨.ref D,H',I'.turned (t':=s'.toks) (fun b o hb e=>(sb.2 b hb).trans e) f1 f2 (.inr f3) f4 f5,rfl,q⟩⟩
end
end L2
namespace Y
open PySem PySem.Spec PyProof.Rows L2
structure y'E(X:Cx)(e:Expr)(t:TE):Prop where h:PE X e t
structure y'A(X:Cx)(e:List Expr)(t:TA):Prop where h:PA X e t
structure y'S(X:Cx)(e:Stmt)(t:TS):Prop where h:PS X e t
structure M8(X:Cx)(e:List Stmt)(t:TS):Prop where h:PSs X e t
structure y'T(X:Cx)(e:Expr)(t:TT):Prop where h:PT X e t
structure y'W(X:Cx)(e:Expr)(t:TT):Prop where h:PW X e t
structure a5K(X:Cx)(e:List Expr)(t:TT):Prop where h:PTs X e t
structure a3Y(X:Cx)(tg e:Expr)(t:TI):Prop where h:PI X tg e t
structure y'G(X:Cx)(e:Expr)(t:TG):Prop where h:PG X e t
structure b0p(X:Cx)(e:List Expr)(t:TGs):Prop where h:PGs X e t
structure y'O(X:Cx)(e:Option Expr)(t:TO):Prop where h:PO X e t
structure w4(X:Cx)(f:Value->Value->Sem Value)(r:R2):Prop where h:OpR X f r
structure a9H(X:Cx)(f:Value->Sem Value)(r:V->Hp->VK->Prop):Prop where h:UnR X f r
structure H0(X:Cx)(f:Value)(r:List V->Hp->VK->Prop):Prop where h:x9 X f r
structure a9I(X:Cx)(id:String)(r:V->List V->Hp->VK->Prop):Prop where h:MtR X id r
structure a5l(X:Cx)(r:R2):Prop where h:IxR X r
structure a5k(X:Cx)(r:V->Option Int->Option Int->Hp->VK->Prop):Prop where h:SlR X r
structure a0I(X:Cx)(t:T0):Prop where h:a3L X t
structure a2R(X:Cx)(t:V->V->Hp->VK->Prop):Prop where h:a7f X t
structure a5m(X:Cx)(op:Y9)(t:TIp):Prop where h:PIp X op t
section
variable {X:Cx}{st:Stmt}{rest:List Stmt}{t u:TS}{e a b c o i:Expr}{es more:List Expr}{te ta tb tc to ti:TE}{tt tu:TT}{tr:TA}{pos p pos':Pos}{x:Str}
theorem k9:M8 X [] A5:=⟨L2.a4n⟩
theorem c6(h1:y'S X st t)(h2:M8 X rest u):M8 X (st::rest) (r0 t u):=⟨L2.a3j h1.h h2.h⟩
theorem d4(h1:y'S X st t):M8 X [st] t:=⟨L2.a4m h1.h⟩
theorem a2G{n:Nat}(hN:X.N.Nodup)(hi:X.N[n]? = some x)(hx:Loc X.env.scope x)(he:y'E X e te)(hs:O3 e (some (.Name x pos')) pos.line X.env=pure false:=by rfl)(hf:X.fn x=true\/X.env.scope.names.lookup x=some .local:=by first | exact .inl rfl | exact .inr rfl) :
  y'S X (.Assign [.Name x pos'] e pos) (y0 te (o9 n)):=⟨L2.a6m hN hi hx he.h hs hf⟩
theorem O7{tg:Expr}{g:TG}(he:y'E X e te)(hg:y'G X tg g)(hs:swapsWithSole [tg] e pos.line X.env=pure false:=by rfl)(hw:swappedStores [tg] e X.env=pure none:=by rfl)
  (h1:(assignEach [tg] X.env).map (·.2)=[assign tg X.env]:=by rfl):y'S X (.Assign [tg] e pos) (y0 te g):=⟨L2.a6p he.h hg.h hs hw h1⟩
theorem a1C{tget:V->V->Hp->VK->Prop}{tip:TIp}{tset:T0}{op:Y9}(ho:y'E X o to)(hi:y'E X i ti)(hg:a2R X tget)(he:y'E X e te)(hp:a5m X op tip)(hs:a0I X tset)
  (ha:∀ov iv new,augStore i ov iv new=(do K7 [new,ov,iv] (a8E ov iv new);release [new,ov,iv] [];pure .next):=by intros;rfl):y'S X (.AugAssign (.Subscript o i p) op e pos) (a1k to ti te tget tip tset):=⟨L2.a4r ho.h hi.h hg.h he.h hp.h hs.h ha⟩
theorem p6{la lb:List Stmt}(hc:y'T X c tt)(ha:M8 X la t)(hb:M8 X lb u):y'S X (.If c la lb pos) (L5 tt t u):=⟨L2.a7T hc.h ha.h hb.h⟩
theorem u0(he:y'E X e te):y'S X (.Return (some e) pos) (M9 te):=⟨L2.a6n he.h⟩
theorem a1B(he:y'E X e te)(hs:O3 e none pos.line X.env=pure false:=by rfl):y'S X (.Expr e pos) (a0c te):=⟨L2.a4q he.h hs⟩
theorem a2I{tg:Expr}{wi:TI}{g:TG}{body:List Stmt}(hp:PassesOwn (model X.prog X.w) X.A X.env X.xe)(hc:X.calm=true)(hi:a3Y X tg e wi)(hg:y'G X tg g)(hb:M8 X body t)
  (hs:∀x,v0 e X.env x=pure x:=by intro _;rfl):y'S X (.For tg e body [] pos) (a2X wi g t):=⟨L2.a6o hp hc hi.h hg.h hb.h hs⟩
theorem a1G{n:Nat}(hN:X.N.Nodup)(hi:X.N[n]? = some x)(hx:Loc X.env.scope x)(hf:X.fn x=true\/X.env.scope.names.lookup x=some .local:=by first | exact .inl rfl | exact .inr rfl):y'G X (.Name x pos) (o9 n):=⟨L2.a4v hN hi hx hf⟩
theorem O8{ts:T0}(ho:y'E X o to)(hi:y'E X i ti)(hs:a0I X ts)
  (ha:∀v,assign (.Subscript o i pos) X.env v=(do
   let ov <-K7 [v] (eval o X.env)
   let iv <-K7 [v,ov] (eval i X.env)
   standAt pos
   K7 [v,ov,iv] (a8E ov iv v)
   release [v,ov,iv] []):=by intro _;rfl):y'G X (.Subscript o i pos) (a2m to ti ts):=⟨L2.a6q ho.h hi.h hs.h ha⟩
theorem Z3{tg:Expr}(hg:Gl X "range")(hm:X.mg "range" = none)(ha:y'A X [a] tr)(hs:b7 [a] X.env=[(false,eval a X.env)]:=by rfl):a3Y X tg (.Call (.Name "range" p) [a] [] pos) (R1 tr):=⟨L2.a2c hg hm ha.h hs⟩
theorem a1F{tg:Expr}(h:y'E X e te):a3Y X tg e (a1q X.K te):=⟨L2.a4u h.h⟩
theorem O9:y'A X [] t7:=⟨L2.a6y⟩
theorem v6(ha:y'E X e te)(hr:y'A X es tr)(hs:b7 (e::es) X.env=(false,eval e X.env)::b7 es X.env:=by rfl):y'A X (e::es) (f8 te tr):=⟨L2.a4C ha.h hr.h hs⟩
theorem U0:a5K X [] P7:=⟨L2.a4k⟩
theorem a1H{elt iter:Expr}{px:Pos}{ifs:List Expr}{scope:Scope}{wi:TI}(hc:z9 X.N X.env.scope scope x)(hcalm:X.calm=true)(hi:a3Y X (.Name x px) iter wi)
  (ht:∀cl C fp s3 H3,a5K (g8 X scope cl C x fp s3 H3) ifs tt) (he:∀cl C fp s3 H3,y'E (g8 X scope cl C x fp s3 H3) elt te)
  (hs:∀x,v0 iter X.env x=pure x:=by intro _;rfl):y'E X (.ListComp elt [⟨.Name x px,iter,ifs,0⟩] scope pos) (P8 wi tt te):=
 ⟨L2.a4y hc hcalm hi.h (fun cl C fp s3 H3=>(ht cl C fp s3 H3).h) (fun cl C fp s3 H3=>(he cl C fp s3 H3).h) hs⟩
theorem b4{n:Int}{j}:y'E X (.Constant (.int n) j pos) (tC (.int n)):=⟨L2.a6w⟩
theorem a1e{v:Bool}{j}:y'E X (.Constant (.bool v) j pos) (tC (.bl v)):=⟨L2.a7W⟩
theorem a2L{j}:y'E X (.Constant .none j pos) (tC .non):=⟨L2.a6u⟩
theorem e9(n:Nat)(hN:X.N[n]? = some x:=by rfl)(hv:Vis X.env.scope x:=by first | exact Or.inl rfl | exact Or.inr (Or.inl rfl) | exact Or.inr (Or.inr rfl))(hd:(x == ("__debug__" : Str))=false:=by decide)
  (hcd:(x == ("__classdict__" : Str))=false:=by decide):y'E X (.Name x pos) (f7 n):=⟨L2.a3k hN hv hd hcd⟩
theorem L3{v:V}{u:Value}(hg:Gl X x)(hm:X.mg x=none)(hv:x6 x=some u)(r:f6 v u)(hn:x ≠ "__name__" := by decide)(hd:(x == ("__debug__" : Str))=false:=by decide):y'E X (.Name x pos) (tC v):=⟨L2.a4B hg hm hv r hn hd⟩
theorem y8{v:V}(hm:∃u,X.mg x=some u/\f6 v u)(hg:Gl X x)(hd:(x == ("__debug__" : Str))=false:=by decide):y'E X (.Name x pos) (tC v):=by
 obtain⟨u,h1,h2⟩:=hm
 exact⟨L2.a4x hg h1 h2 hd⟩
theorem i9{op:Y9}{r:R2}(ho:w4 X (o1 op) r)(ha:y'E X a ta)(hb:y'E X b tb):y'E X (.BinOp a op b pos) (tOp r ta tb):=⟨L2.a7U ho.h ha.h hb.h⟩
theorem a2K(ha:y'E X a ta):y'E X (.UnaryOp .Not a pos) (a1j ta):=⟨L2.a6t ha.h⟩
theorem a1I{op:CmpOp}{r:R2}(ho:w4 X (h9 op) r)(ha:y'E X a ta)(hb:y'E X b tb)(hm:v3 op b=false):y'E X (.Compare a [op] [b] pos) (tOp r ta tb):=⟨L2.a4z ho.h ha.h hb.h hm⟩
theorem a1z{op:CmpOp}{r:R2}(ho:w4 X (h9 op) r)(ha:y'E X a ta)(hb:y'E X b tb)(hm:v3 op b=false):y'T X (.Compare a [op] [b] pos) (z0 (tOp r ta tb)):=⟨L2.a4l ho.h ha.h hb.h hm⟩
theorem Z4{op}(h:y'E X a te):y'E X (.BoolOp op [a] pos) te:=⟨L2.a6s h.h⟩
theorem Z5(ha:y'E X a ta)(hb:y'E X (.BoolOp .And (b::more) pos) tb):y'E X (.BoolOp .And (a::b::more) pos) (a0d ta tb):=⟨L2.a6x ha.h hb.h⟩
theorem G9(h:y'A X es tr):y'E X (.List es pos) (a0J tr):=⟨L2.a6v h.h⟩
theorem a1E:y'O X none N7:=⟨L2.a4t⟩
theorem a1D(h:y'E X e te):y'O X (some e) (a1i te):=⟨L2.a4s h.h⟩
theorem a0G{lo hi:Option Expr}{tl th:TO}{r:V->Option Int->Option Int->Hp->VK->Prop}(hr:a5k X r)(he:y'E X e te)(hl:y'O X lo tl)(hu:y'O X hi th):y'E X (.Subscript e (.Slice lo hi none p) pos) (tSl r te tl th):=⟨L2.a3l hr.h he.h hl.h hu.h⟩
theorem a3W{r:R2}(hr:a5l X r)(ha:y'E X a ta)(hb:y'E X b tb)(hs:Y3 b):y'E X (.Subscript a b pos) (tOp r ta tb):=⟨L2.a7V hr.h ha.h hb.h hs⟩
theorem a2J{k j:Nat}{ps:List Str}{sp:Sp}(C:C0 X.prog X.w X.K X.mg X.base k x ps sp)(hr:n0 j X.A)(hk:k<=j)(hg:Gl X x)(ha:y'A X (e::es) tr)
  (hdb:(x == ("__debug__" : Str))=false:=by decide) (he:b7 (e::es) X.env=(false,eval e X.env)::b7 es X.env:=by rfl) (hpl:(F3 pos (b7 es X.env)).any (·.1)=false:=by rfl) :
  y'E X (.Call (.Name x p) (e::es) [] pos) (C3 sp [] E0 tr):=⟨L2.a6r C hr hk hg ha.h hdb he hpl⟩
theorem l8{id:String}{r:List V->Hp->VK->Prop}(hc:H0 X (.builtin id) r)(hg:Gl X x)(hm:X.mg x=none)(hv:x6 x=some (.builtin id))(ha:y'A X (e::es) tr)(hn:x ≠ "__name__" := by decide)(hdb:(x == ("__debug__" : Str))=false:=by decide)
  (he:b7 (e::es) X.env=(false,eval e X.env)::b7 es X.env:=by rfl) (hpl:(F3 pos (b7 es X.env)).any (·.1)=false:=by rfl):y'E X (.Call (.Name x p) (e::es) [] pos) (tCB r tr):=⟨L2.a3o hc.h hg hm hv ha.h hn hdb he hpl⟩
theorem Z2(ha:y'T X a tt):y'T X (.UnaryOp .Not a pos) (a2W tt):=⟨L2.a6l ha.h⟩
theorem Z0(ha:y'T X a tt):y'W X (.BoolOp .Or [a] pos) tt:=⟨L2.a6i ha.h⟩
theorem V6(ha:y'T X a tt)(hb:y'W X (.BoolOp .Or (b::more) pos) tu):y'W X (.BoolOp .Or (a::b::more) pos) (tOr tt tu):=⟨L2.a7S ha.h hb.h⟩
theorem a1d(h:y'W X e tt):y'T X e tt:=⟨PW.pt h.h⟩
theorem Z1(h:y'E X e te)(he:∀whole,isTrue e X.env whole=(do let v <-whole;standAt e.pos;K7 [v] (truthy v)):=by intro _;rfl):y'T X e (tB te):=⟨L2.a6k h.h he⟩
theorem y1:w4 X (o1 .Add) N0:=⟨L2.a4I⟩
theorem E3:w4 X (o1 .Mult) a1W:=⟨L2.a4F⟩
theorem t6:w4 X (o1 .Mod) S6:=⟨L2.a4G⟩
theorem L4:w4 X (o1 .FloorDiv) a3h:=⟨L2.a4H⟩
theorem a1J:w4 X (o1 .Pow) a6e:=⟨L2.a4E⟩
theorem A3{k:Nat}(hr:n0 k X.A):w4 X (h9 .Eq) qEq:=⟨L2.a3s hr.units0⟩
theorem a7p{k:Nat}(hr:n0 k X.A):w4 X (h9 .NotEq) qNe:=⟨L2.a3r hr.units0⟩
theorem a2O:w4 X (h9 .Lt) qLt:=⟨L2.a6z⟩
theorem Z6:w4 X (h9 .Gt) qGt:=⟨L2.a6A⟩
theorem a2P:w4 X (h9 .GtE) qGe:=⟨L2.a6B⟩
theorem a5J:a5l X qIx:=⟨L2.a9B⟩
theorem a1y:a5k X (a6a X.K):=⟨L2.a4c⟩
theorem N3:a0I X W6:=⟨L2.a7s⟩
theorem a3X:a2R X a1Z:=⟨L2.a8f⟩
theorem a2Q:a5m X .Add (ipI fun i j=>i+j):=⟨L2.a6W⟩
theorem Z7:H0 X (.builtin "len") a1X:=⟨L2.a2r⟩
theorem Z8:H0 X (.builtin "abs") a3i:=⟨L2.a2t⟩
theorem M6:H0 X (.builtin "isinstance") a1Y:=⟨L2.a2s⟩
end
theorem A4{P:b8}{w:World}{K:Fg}{mg:Str->Option Value}{base:Heap}{x qual:Str}{st:Stmt}{f:Addr}{fd:o5}{N ps:List Str}{k:Nat}{sp:Sp}(F:Fun K x qual st f fd)(y'S:l9 N ps (d0 st))(len:∀vs H Q y'E,sp vs H Q y'E->vs.length=ps.length)
  (hbody:∀(cdv:Value) (y'A:d8) (outer:List Env) (s:a5) (H:Hp) (vs:List V) (Q:VK) (y'E:XK),n0 k (y'A.deeper (T9 qual (d0 st) s.heap.objs.size f cdv))->sp vs H Q y'E ->
   ∃t,M8 (L7 CX0 P w K mg base N qual (d0 st) f cdv y'A outer s H y'E).nox (u4 st) t/\t { nx:=fun _ H'=>Q .non H',rt:=Q } (F5 N vs) H):n8 P w K mg base CX0 (k+1) f fd ps sp:=
 F.ok y'S len fun cdv y'A outer s H vs Q y'E hr h=>let⟨t,a,b⟩:=hbody cdv y'A outer s H vs Q y'E hr h; ⟨t,a.h,b⟩
end Y
namespace Y
open PySem PySem.Spec PyProof.Rows L2
section
variable {X:Cx}{st:Stmt}{rest:List Stmt}{t u:TS}{e a b c o i:Expr}{es more:List Expr}{te ta tb tc to ti:TE}{tt tu:TT}{tr:TA}{pos p pos':Pos}{x y:Str}
structure b0o(X:Cx)(pos:Pos)(ks:List (Option Expr))(vs:List Expr)(trs:List (TE×TE)):Prop where h:PPs X pos ks vs trs
end
end Y
namespace Y
open PySem PySem.Spec PyProof.Rows L2
end Y
namespace Y
open PySem PySem.Spec PyProof.Rows L2
end Y
namespace Y
open PySem PySem.Spec PyProof.Rows L2
end Y
namespace Y
open PySem PySem.Spec PyProof.Rows L2
end Y
namespace Y
open PySem PySem.Spec PyProof.Rows L2
end Y
namespace Y
open PySem PySem.Spec PyProof.Rows L2
section
variable {X:Cx}{e0 e1 e2 e3 e4:Expr}{t0 t1 t2 t3 t4:TE}
theorem D4(h0:y'E X e0 t0)(s0:b7 [e0] X.env=(false,eval e0 X.env)::b7 [] X.env:=by rfl):y'A X [e0] (f8 t0 t7):=(v6 h0 O9 s0)
theorem y9(h0:y'E X e0 t0)(h1:y'E X e1 t1)(s0:b7 [e0,e1] X.env=(false,eval e0 X.env)::b7 [e1] X.env:=by rfl)(s1:b7 [e1] X.env=(false,eval e1 X.env)::b7 [] X.env:=by rfl):y'A X [e0,e1] (f8 t0 (f8 t1 t7)):=(v6 h0 (v6 h1 O9 s1) s0)
theorem a5j(h0:y'E X e0 t0)(h1:y'E X e1 t1)(h2:y'E X e2 t2)(h3:y'E X e3 t3)(s0:b7 [e0,e1,e2,e3] X.env=(false,eval e0 X.env)::b7 [e1,e2,e3] X.env:=by rfl)(s1:b7 [e1,e2,e3] X.env=(false,eval e1 X.env)::b7 [e2,e3] X.env:=by rfl)(s2:b7 [e2,e3] X.env=(false,eval e2 X.env)::b7 [e3] X.env:=by rfl)(s3:b7 [e3] X.env=(false,eval e3 X.env)::b7 [] X.env:=by rfl):y'A X [e0,e1,e2,e3] (f8 t0 (f8 t1 (f8 t2 (f8 t3 t7)))):=(v6 h0 (v6 h1 (v6 h2 (v6 h3 O9 s3) s2) s1) s0)
end
end Y
local macro_rules | `(tactic| walk_at "sc") => `(tactic| exact ⟨rfl, rfl, rfl, by decide +kernel, rfl, by decide +kernel, by decide +kernel⟩)
namespace Y
open PySem PySem.Spec PyProof.Rows L2
section
variable {X:Cx}{e a b o:Expr}{es:List Expr}{te ta tb to:TE}{tr:TA}{pos p pos':Pos}{x:Str}
theorem q9(n:Nat)(hN:X.N.Nodup)(he:y'E X e te)(hi:X.N[n]? = some x:=by rfl)(hx:Loc X.env.scope x:=by first | exact Or.inl rfl | exact Or.inr rfl)(hs:O3 e (some (.Name x pos')) pos.line X.env=pure false:=by rfl)(hf:X.fn x=true\/X.env.scope.names.lookup x=some .local:=by first | exact .inl rfl | exact .inr rfl) :
  y'S X (.Assign [.Name x pos'] e pos) (y0 te (o9 n)):=a2G hN hi hx he hs hf
theorem a5I(n:Nat)(hN:X.N.Nodup)(hi:X.N[n]? = some x:=by rfl)(hx:Loc X.env.scope x:=by first | exact Or.inl rfl | exact Or.inr rfl)(hf:X.fn x=true\/X.env.scope.names.lookup x=some .local:=by first | exact .inl rfl | exact .inr rfl):y'G X (.Name x pos) (o9 n):=a1G hN hi hx hf
theorem F7{k j:Nat}{ps:List Str}{sp:Sp}(C:C0 X.prog X.w X.K X.mg X.base k x ps sp)(hr:n0 j X.A)(ha:y'A X (e::es) tr)(hk:k<=j:=by decide)(hg:Gl X x:=by rfl)
  (hdb:(x == ("__debug__" : Str))=false:=by decide) (he:b7 (e::es) X.env=(false,eval e X.env)::b7 es X.env:=by rfl) (hpl:(F3 pos (b7 es X.env)).any (·.1)=false:=by rfl) :
  y'E X (.Call (.Name x p) (e::es) [] pos) (C3 sp [] E0 tr):=a2J C hr hk hg ha hdb he hpl
theorem v5(ha:y'E X a ta)(hb:y'E X b tb)(hs:Y3 b:=by exact fun _ _=>rfl):y'E X (.Subscript a b pos) (tOp qIx ta tb):=a3W a5J ha hb hs
theorem a2M{op:CmpOp}{r:R2}(ho:w4 X (h9 op) r)(ha:y'E X a ta)(hb:y'E X b tb)(hm:v3 op b=false:=by exact a3u _):y'E X (.Compare a [op] [b] pos) (tOp r ta tb):=a1I ho ha hb hm
theorem t9{op:CmpOp}{r:R2}(ho:w4 X (h9 op) r)(ha:y'E X a ta)(hb:y'E X b tb)(hm:v3 op b=false:=by exact a3u _):y'T X (.Compare a [op] [b] pos) (z0 (tOp r ta tb)):=a1z ho ha hb hm
end
end Y
namespace Y
open PySem PySem.Spec PyProof.Rows L2
section
variable {X:Cx}{e o i:Expr}{te to ti:TE}{t:TS}{pos p:Pos}{k:Nat}
end
end Y
namespace Y
open PySem PySem.Spec PyProof.Rows L2
end Y
namespace Y
open PySem PySem.Spec PyProof.Rows L2
section
variable {X:Cx}{i o:Expr}{ti to:TE}{pos:Pos}{k:Nat}
end
end Y
namespace L2
open PySem PySem.Spec PyProof.Rows PySem.W
structure O0(P:b8)(w:World)(K:Frag)(mg:Str->Option Value)(base:Heap)(k:Nat)(x:Str)(ps:List Str)(sp:Sp):Prop where
 ex:∃f fd,n8 P w K mg base (CX1 P w) k f fd ps sp/\mg x=some (.ref f)/\keepIn K (.ref f)=true/\C5 K fd ps []
structure z8(P:b8)(w:World)(K:Frag)(mg:Str->Option Value)(base:Heap)(k:Nat)(x:Str)(C:Addr)(ps:List Str)(sp:Sp):Prop where
 ex:∃f fd,n8 P w K mg base CX0 k f fd ps sp/\mg x=some (.ref C)/\Y2 K C/\findIn K (.ref C) "__init__" = some (some (.ref f))/\typeIn K (.ref f)=some (.type "function")/\C5 K fd ps []
structure a1a(K:Frag)(mg:Str->Option Value)(x:Str)(C:Addr):Prop where
 ex:mg x=some (.ref C)/\Y2 K C/\findIn K (.ref C) "__init__" = some (some (.builtin "ValueError.__init__"))
def W2(sp:Sp)(E:St->XK)(t:TA):TE:=fun σ H Q=>t σ H fun vs H1=>sp vs H1 Q (E σ)
section
variable {X:Cx}{k j:Nat}{ps:List Str}{sp:Sp}{E:St->XK}{x:Str}{p pos:Pos}{e:Expr}{es:List Expr}{t:TA}
theorem a3n(W:Wi X E)(C:O0 X.prog X.w X.K X.mg X.base k x ps sp)(hr:n0 j X.A)(hk:k<=j)(hg:Gl X x)(ha:PA X (e::es) t)
  (hdb:(x == ("__debug__" : Str))=false:=by decide) (he:b7 (e::es) X.env=(false,eval e X.env)::b7 es X.env:=by rfl) (hpl:(F3 pos (b7 es X.env)).any (·.1)=false:=by rfl) :
  PE X (.Call (.Name x p) (e::es) [] pos) (W2 sp E t):=by
 intro pins s σ H Q I h
 obtain⟨f,fd,F,hm,hkp,hb⟩:=C.ex
 refine y3 (E7 I hg hm ?_ hdb)
 refine J7 (h₀:=X.base) I.ok.mod.kin hkp (thn (ha pos pins s σ H _ I h) fun us s1 ⟨vs,H1,I1,r,q⟩=>⟨I1.kIn,?_⟩) he hpl
 have hl:(us++[]).length=ps.length:=by rw[u7,<-r.length];exact F.len _ _ _ _ q
 have hbi:=hb s1 us I1.kIn hl
 rw[u7]at hbi
 refine wpAny_call (O4 (F.run X.A X.stack s1 H1 ⟨us,[]⟩ us vs Q (E σ) (hr.mono hk) I1.env0 hbi r q) fun r s' hq=>?_)
 cases r with
 | error e=>
  obtain⟨y,cls,dx,H',rfl,o,q'⟩:=a3q I1 hq
  exact W pins σ H' s' y cls dx o q'
 | ok fl=>
  cases fl with
  | ret u=>exact I1.after hq
  | next=>exact False.elim hq
  | brk=>exact False.elim hq
  | cont=>exact False.elim hq
end
end L2
namespace Y
open PySem PySem.Spec PyProof.Rows L2
theorem a1K{P:b8}{w:World}{K:Fg}{mg:Str->Option Value}{base:Heap}{x qual:Str}{st:Stmt}{f:Addr}{fd:o5}{N ps:List Str}{k:Nat}{sp:Sp}(F:Fun K x qual st f fd)(y'S:l9 N ps (d0 st))(len:∀vs H Q y'E,sp vs H Q y'E->vs.length=ps.length)
  (hbody:∀(cdv:Value) (y'A:d8) (outer:List Env) (s:a5) (H:Hp) (vs:List V) (Q:VK) (y'E:XK),n0 k (y'A.deeper (T9 qual (d0 st) s.heap.objs.size f cdv))->sp vs H Q y'E ->
   ∃t,M8 (L7 (CX1 P w) P w K mg base N qual (d0 st) f cdv y'A outer s H y'E) (u4 st) t/\t { nx:=fun _ H'=>Q .non H',rt:=Q } (F5 N vs) H):n8 P w K mg base (CX1 P w) (k+1) f fd ps sp:=by
 obtain⟨oc,od,kV,doc,pm,an,cdv,ct,osl,rfl,lk,hcd⟩:=F.ex
 refine a5x lk hcd y'S len fun y'A outer s H vs Q y'E hr hsp=>?_
 obtain⟨t,h,q⟩:=hbody cdv y'A outer s H vs Q y'E hr hsp
 exact⟨t,h.h,q⟩
section
variable {X:Cx}{k j:Nat}{C C1:Addr}{dx:Option Addr}{ps:List Str}{sp:Sp}{EE:L2.St->XK}{x c1 n:Str}{p np cpos hpos pos pos':Pos}{e o value elt:Expr}{es ifs:List Expr}{tr:TA}{ta tv te:TE}{tt:TT}{f:Str}{y:Addr}
theorem E2(ha:y'E X o ta)(hv:y'E X value tv)(hs:O3 value (some (.Attribute o f pos')) pos.line X.env=pure false:=by rfl):y'S X (.Assign [.Attribute o f pos'] value pos) (U5 X.K ta tv f):=⟨L2.a4o ha.h hv.h hs⟩
theorem N4(M:z8 X.prog X.w X.K X.mg X.base k x C ps sp)(y'W:Wi X EE)(hr:n0 j X.A)(ha:y'A X (e::es) tr)(hk:k+1<=j:=by decide)(hc:X.calm=true:=by rfl)(hg:Gl X x:=by rfl)(hdb:(x == ("__debug__" : Str))=false:=by decide)
  (he:b7 (e::es) X.env=(false,eval e X.env)::b7 es X.env:=by rfl) (hpl:(F3 cpos (b7 es X.env)).any (·.1)=false:=by rfl):y'S X (.Raise (some (.Call (.Name x np) (e::es) [] cpos)) none pos) (D7 C sp EE tr):=by
 obtain⟨g,fd,F,hm,c,hi,hf,hb⟩:=M.ex
 exact⟨L2.a2a hc y'W c hi hf F (hr.mono hk) hg hm hb ha.h hdb he hpl⟩
theorem a2H(M:a1a X.K X.mg x C)(y'W:Wi X EE)(hc:X.calm=true:=by rfl)(hg:Gl X x:=by rfl)(hdb:(x == ("__debug__" : Str))=false:=by decide):y'S X (.Raise (some (.Call (.Name x np) [] [] cpos)) none pos) (W0 C EE):=by
 obtain⟨hm,c,hi⟩:=M.ex
 exact⟨L2.a0O hc y'W c hi hg hm hdb⟩
theorem a3V(y'W:Wi X EE)(M:O0 X.prog X.w X.K X.mg X.base k x ps sp)(hr:n0 j X.A)(ha:y'A X (e::es) tr)(hk:k<=j:=by decide)(hg:Gl X x:=by rfl)(hdb:(x == ("__debug__" : Str))=false:=by decide)
  (he:b7 (e::es) X.env=(false,eval e X.env)::b7 es X.env:=by rfl) (hpl:(F3 pos (b7 es X.env)).any (·.1)=false:=by rfl):y'E X (.Call (.Name x p) (e::es) [] pos) (W2 sp EE tr):=⟨L2.a3n y'W M hr hk hg ha.h hdb he hpl⟩
theorem a1A{i:Nat}{body suite:List Stmt}{b0:Stmt}{tb:(L2.St->XK)->TS}{th:Addr->Addr->Option Addr->TS}(hc:X.calm=true)(hst:X.stack=X.env::X.outer)(hf:X.env.frame=some X.env.locals)(hN:X.N.Nodup)(hi:X.N[i]? = some n)(hl:X.env.scope.names.lookup n=some .local)(hg:Gl X c1)(hm:X.mg c1=some (.ref C1))(h1:I0 X.K C1=true)
  (hb:∀(EE:L2.St->XK) (pins:List (Addr×Obj)) (xe:Value->a5->Prop),Wi (X.tryB pins xe) EE->M8 (X.tryB pins xe) body (tb EE))
  (hs:∀(pins:List (Addr×Obj)) (x C:Addr) (dx:Option Addr) (oe:Obj),Y5 (X.suite pins x oe) x C dx->M8 (X.suite pins x oe) (b0::suite) (th x C dx)) (hdb:(c1 == ("__debug__" : Str))=false:=by decide) :
  y'S X (.Try body [.ExceptHandler (some (.Name c1 np)) (some n) (b0::suite) hpos] [] [] pos) (a1h X.K C1 i tb th):=
 ⟨L2.a4p hc hst hf hN hi hl hg hm h1 (fun EE pins xe y'W=>(hb EE pins xe y'W).h) (fun pins x C dx oe vs a b c d=>(hs pins x C dx oe (a1P a b c d)).h) hdb⟩
theorem v7(hx:Y5 X y C dx):H0 X (.builtin "isinstance") (fun vs H Q=>a0z dx H/\a6f X.K y C vs H Q):=⟨L2.a3H hx⟩
theorem U1(hx:Y5 X y C dx)(he:y'E X e ta)(hb:K8 e f X.env (eval e X.env)=eval e X.env:=by rfl):y'E X (.Attribute e f pos) (a0b X.K y C dx ta f):=⟨L2.a4w hx he.h hb⟩
theorem a2N(hu:X.A.units<cLine):w4 X (h9 .NotEq) qNe:=⟨L2.a3r hu⟩
theorem D5(hu:X.A.units<cLine):w4 X (h9 .Eq) qEq:=⟨L2.a3s hu⟩
theorem a0H{a:Expr}{px rpos:Pos}{scope:Scope}(hx:Y5 X y C dx)(hh:X.A.handled=some (.ref y))(hc:z9 X.N X.env.scope scope x)(hg:Gl X "range")(hm:X.mg "range" = none)(ha:y'A X [a] tr)
  (ht:∀cl C fp s3 H3,a5K (g8 X scope cl C x fp s3 H3) ifs tt) (he:∀cl C fp s3 H3,y'E (g8 X scope cl C x fp s3 H3) elt te)
  (hs0:b7 [a] X.env=[(false,eval a X.env)]:=by rfl) (hs:∀x,v0 (.Call (.Name "range" p) [a] [] rpos) X.env x=pure x:=by intro _;rfl) :
  y'E X (.ListComp elt [⟨.Name x px,.Call (.Name "range" p) [a] [] rpos,ifs,0⟩] scope pos) (P8 (R1 tr) tt te):=
 ⟨L2.a3m hx hh hc hg hm ha.h (fun a b c d e=>(ht a b c d e).h) (fun a b c d e=>(he a b c d e).h) hs0 hs⟩
end
end Y
namespace RD
open PySem PySem.Spec L2
variable{a b c p:Addr}{H H' H1:Hp}{o:HO}{xs ys:List V}{D:R6}{σ:St}{Q:VK}{v:V}{n:Nat}{ns:List Int}
def t5(b:Addr)(H H':Hp):Prop:=(∀a o,H a=some o->a≠b->H' a=some o)/\∀o,H b=some o->∃o',H' b=some o'
theorem t5.refl(b:Addr)(H:Hp):t5 b H H:=⟨fun _ _ h _=>h,fun o h=>⟨o,h⟩⟩
theorem t5.trans{H2:Hp}(x:t5 b H H1)(y:t5 b H1 H2):t5 b H H2:=
 ⟨fun a o h n=>y.1 a o (x.1 a o h n) n,fun o h=>let⟨o',h'⟩:=x.2 o h;y.2 o' h'⟩
theorem t5.upd(b:Addr)(H:Hp)(o:HO):t5 b H (upd H b o):=⟨fun a u h n=>by rw[c8 n];exact h,fun _ _=>⟨o,j3⟩⟩
theorem t5.new(h:H p=none):t5 b H (L2.upd H p o):=
 ⟨fun a u e _=>by rw[c8 (c9 e h)];exact e,fun u e=>⟨u,by rw[c8 (c9 e h)];exact e⟩⟩
theorem A8(h:H p=none):v4 H (L2.upd H p o):=fun a u e=>by rw[c8 (c9 e h)];exact e
theorem t5.none(k:t5 b H H')(h:H' p=Option.none):H p=Option.none:=by
 cases e:H p with
 | none=>rfl
 | some o=>
  by_cases z:p=b
  ·subst z
   obtain⟨o',h'⟩:=k.2 o e
   rw[h]at h'
   cases h'
  ·rw[k.1 p o e z]at h
   cases h
theorem t5.tup{b a:Addr}{H H':Hp}{xs ys:List V}(k:t5 b H H')(hb:H b=some (.lst ys))(h:H a=some (.tup xs)):H' a=some (.tup xs):=
 k.1 a _ h (a1o h hb (by intro z;cases z))
structure Bag(H:Hp)(b c:Addr):Prop where
 ex:∃(i0 i1 i2:Int) (ns:List Int),H b=some (.lst [.int i0,.int i1,.int i2,.ref c])/\H c=some (.lst (ns.map V.int))/\0<=i0/\0<=i1/\i1<2147483647/\0<=i2/\∀x∈ns,0<=x
theorem Bag.lst{H:Hp}{b c:Addr}(h:Bag H b c):∃xs,H b=some (.lst xs):=by
 obtain⟨i0,i1,i2,ns,h,_⟩:=h.ex
 exact⟨_,h⟩
theorem Bag.same(h:Bag H b c)(s:v4 H H'):Bag H' b c:=by
 obtain⟨i0,i1,i2,ns,h1,h2,r⟩:=h.ex
 exact⟨i0,i1,i2,ns,s _ _ h1,s _ _ h2,r⟩
theorem Bag.new(h:Bag H b c)(n:H p=none):Bag (L2.upd H p o) b c:=h.same (A8 n)
theorem Bag.put(h:Bag H b c)(n1:p≠b)(n2:p≠c):Bag (L2.upd H p o) b c:=by
 obtain⟨i0,i1,i2,ns,h1,h2,r⟩:=h.ex
 exact⟨i0,i1,i2,ns,by rw[c8 n1.symm];exact h1,by rw[c8 n2.symm];exact h2,r⟩
theorem Bag.nb(h:Bag H b c)(n:H p=none):p≠b/\p≠c:=by
 obtain⟨i0,i1,i2,ns,h1,h2,r⟩:=h.ex
 exact⟨(c9 h1 n).symm,(c9 h2 n).symm⟩
theorem t5.put(k:t5 b H H')(n:H p=Option.none):t5 b H (L2.upd H' p o):=
 ⟨fun a u e z=>by rw[c8 (c9 e n)];exact k.1 a u e z,fun u e=>by
  obtain⟨o',h⟩:=k.2 u e
  exact⟨o',by rw[c8 (c9 e n)];exact h⟩⟩
theorem a3J{α:Type}(a:α)(r:List α):atI (a::r) 0=some a:=by
 have := @J3 α (a::r) 0 a rfl
 simpa using this
theorem a8i{α:Type}(a b:α)(r:List α):atI (a::b::r) 1=some b := @J3 α (a::b::r) 1 b rfl
theorem a8h{α:Type}(a b c:α)(r:List α):atI (a::b::c::r) 2=some c := @J3 α (a::b::c::r) 2 c rfl
theorem a8g{α:Type}(a b c d:α)(r:List α):atI (a::b::c::d::r) 3=some d := @J3 α (a::b::c::d::r) 3 d rfl
theorem a7c{α:Type}{xs:List α}{i:Int}(h0:0<=i)(h1:i<xs.length):∃v,atI xs i=some v/\xs[i.toNat]? = some v:=by
 have hl:i.toNat<xs.length:=by omega
 have e:xs[i.toNat]? = some (xs[i.toNat]'hl):=by simp[hl]
 refine⟨_,?_,e⟩
 have:=J3 e
 rwa [Int.toNat_of_nonneg h0]at this
section
variable {t u:TS}{te ta tb tc to ti:TE}{tt tu:TT}{tr:TA}{QB:Bool->Hp->Prop}{QA:List V->Hp->Prop}{QO:Option Int->Hp->Prop}{x y:V}{i j:Int}{r r':R2}{K:Fg}
theorem a3c(h:t { D with nx:=u D } σ H):r0 t u D σ H:=h
theorem a0h{P:St->Hp->Prop}(tail:∀σ H,P σ H->u D σ H)(main:∀nx:St->Hp->Prop,(∀σ H,P σ H->nx σ H)->t { D with nx:=nx } σ H):r0 t u D σ H:=main _ tail
theorem a0i{g:TG}(h:te σ H fun x H1=>g x σ H1 D.nx):y0 te g D σ H:=h
theorem a4g{QS:St->Hp->Prop}(h:QS (σ.set n (some v)) H):o9 n v σ H QS:=h
theorem a5T{QS:St->Hp->Prop}{ts:T0}(h:to σ H fun o H1=>ti σ H1 fun i H2=>ts o i v H2 fun H3=>QS σ H3):a2m to ti ts v σ H QS:=h
theorem a7x(h:te σ H D.rt):M9 te D σ H:=h
theorem a5U(h:te σ H fun _ H1=>D.nx σ H1):a0c te D σ H:=h
theorem a9d(h:tt σ H fun b H1=>if b=true then t D σ H1 else u D σ H1):L5 tt t u D σ H:=h
theorem a5R(h:D.nx σ H):A5 D σ H:=h
theorem a5O(h:te σ H fun x H'=>∃k,x=.bl k/\QB k H'):z0 te σ H QB:=h
theorem a8Z(h:te σ H fun x H'=>∃k,x=.bl k/\QB k H'):tB te σ H QB:=h
theorem a7z(h:tt σ H fun c H1=>QB (!c) H1):a2W tt σ H QB:=h
theorem a7G(h:tt σ H fun c H1=>if c=true then tu σ H1 QB else QB false H1):a8X tt tu σ H QB:=h
theorem a9b(h:tt σ H fun c H1=>if c=true then QB true H1 else tu σ H1 QB):tOr tt tu σ H QB:=h
theorem a5Y(h:ta σ H fun x H1=>∃c,x=.bl c/\if c=true then tb σ H1 Q else Q (.bl false) H1):a0d ta tb σ H Q:=h
theorem a7y(h:ta σ H fun x H1=>∃c,x=.bl c/\if c=true then Q (.bl true) H1 else tb σ H1 Q):a8L ta tb σ H Q:=h
theorem a5Q(h:ta σ H fun x H1=>∃c,x=.bl c/\Q (.bl (!c)) H1):a1j ta σ H Q:=h
theorem a7D(h:tt σ H fun c H1=>if c=true then ta σ H1 Q else tb σ H1 Q):tIf tt ta tb σ H Q:=h
theorem a9c(h:ta σ H fun x H1=>tb σ H1 fun y H2=>r x y H2 Q):tOp r ta tb σ H Q:=h
theorem a4h(h:ta σ H fun x H1=>tb σ H1 fun y H2=>r x y H2 fun z H3=>∃k,z=.bl k/\(if k=true then tc σ H3 fun w' H4=>r' y w' H4 Q else Q (.bl false) H3)):a5L r r' ta tb tc σ H Q:=h
theorem a8Y{f:V->Hp->VK->Prop}(h:ta σ H fun x H1=>f x H1 Q):tUn f ta σ H Q:=h
theorem a7B(h:Q (.int (-i)) H):rU (fun i=>.int (-i)) (.int i) H Q:=⟨i,rfl,h⟩
theorem a7u(e:σ[n]? = some (some v))(h:Q v H):f7 n σ H Q:=⟨v,e,h⟩
theorem s_c(h:Q v H):tC v σ H Q:=h
theorem a5V(h:te σ H fun x H1=>tr σ H1 fun xs H2=>QA (x::xs) H2):f8 te tr σ H QA:=h
theorem a7A(h:QA [] H):t7 σ H QA:=h
theorem a5W{sp:Sp}{E:XK}(h:tr σ H fun vs H1=>sp (vs++[]) H1 Q E):C3 sp [] E tr σ H Q:=h
theorem a9e{f:List V->Hp->VK->Prop}(h:tr σ H fun vs H1=>f vs H1 Q):tCB f tr σ H Q:=h
def New(o:HO)(n:Nat)(H:Hp)(Q:VK):Prop:=n<=b5/\∀p,H p=none->Q (.ref p) (upd H p o)
theorem a0n(hl:n<=100000)(h:∀p H',H p=none->H' p=some o->v4 H H'->Q (.ref p) H'):New o n H Q:=
 ⟨k6 hl (by rw[a3Q];decide),fun p hp=>h p _ hp j3 (A8 hp)⟩
theorem a7v(h:tr σ H fun xs H1=>New (.tup xs) xs.length H1 Q):a8J tr σ H Q:=h
theorem a7C(h:tr σ H fun xs H1=>New (.lst xs) xs.length H1 Q):a0J tr σ H Q:=h
theorem a9a{f:V->Option Int->Option Int->Hp->VK->Prop}{tl th:TO}(h:te σ H fun x H1=>tl σ H1 fun l H2=>th σ H2 fun u H3=>f x l u H3 Q):tSl f te tl th σ H Q:=h
theorem a5P(h:te σ H fun x H1=>∃i,x=.int i/\QO (some i) H1):a1i te σ H QO:=h
theorem a3e(h:QO none H):N7 σ H QO:=h
theorem a7w(h:te σ H fun x H1=>a7R x H1 Q):a8K te σ H Q:=h
theorem a0M(h:QB true H):P7 σ H QB:=h
theorem a7F{s:Str}{f:V->List V->Hp->VK->Prop}(h:tr σ H fun xs H2=>f (.str s) xs H2 Q):tBM K "str" f (tC (.str s)) tr σ H Q:=⟨rfl,h⟩
theorem a5X{tget:V->V->Hp->VK->Prop}{tip:TIp}{tset:T0}(h:to σ H fun o H1=>ti σ H1 fun i H2=>tget o i H2 fun x H3=>te σ H3 fun y H4=>tip x y H4 fun z H5=>tset o i z H5 fun H6=>D.nx σ H6):a1k to ti te tget tip tset D σ H:=h
theorem a7O(h:Q (.int (i+j)) H):N0 (.int i) (.int j) H Q:=h
theorem a6d(ha:H a=some (.lst xs))(hb:H b=some (.lst ys))(h:New (.lst (xs++ys)) (xs.length+ys.length) H Q):N0 (.ref a) (.ref b) H Q:=by
 unfold N0
 simp only[ha,hb]
 exact h
theorem a6c{g:Int->Int->V}(h:Q (g i j) H):a0j g (.int i) (.int j) H Q:=h
theorem x8{C:Int->Int->Prop}{g:Int->Int->V}(hc:C i j)(h:Q (g i j) H):q2I C g (.int i) (.int j) H Q:=⟨hc,h⟩
theorem a9j{f:Int->Int->Int}(h:Q (.int (f i j)) H):ipI f (.int i) (.int j) H Q:=⟨i,j,rfl,rfl,h⟩
theorem A9(hp:H p=some (.lst xs))(he:atI xs i=some v)(h:Q v H):qIx (.ref p) (.int i) H Q:=by
 unfold qIx
 simp only[hp]
 exact⟨v,he,h⟩
theorem a1n{QH:Hp->Prop}{k:Nat}(hp:H p=some (.lst xs))(he:ixN xs.length i=some k)(h:QH (upd H p (.lst (xs.set k v)))):W6 (.ref p) (.int i) v H QH:=by
 unfold W6
 simp only[hp]
 exact⟨k,he,h⟩
theorem a7N(hp:H p=some (.lst xs))(h0:0<=i)(he:xs[i.toNat]? = some v)(h:Q v H):a1Z (.ref p) (.int i) H Q:=by
 unfold a1Z
 simp only[hp]
 exact⟨h0,v,he,h⟩
theorem a6b(hp:H p=some (.lst xs))(h:Q (.int xs.length) H):a1X [.ref p] H Q:=by
 unfold a1X
 simp only[hp]
 exact h
theorem a7P(h:Q (.int (if i<0 then -i else i)) H):a3i [.int i] H Q:=h
theorem a9k(hs:a0e x y=true)(h:Q (.bl (decide (x=y))) H):qEq x y H Q:=⟨_,if_pos hs,h⟩
theorem a9i(hs:a0e x y=true)(h:Q (.bl (!decide (x=y))) H):qNe x y H Q:=⟨_,if_pos hs,h⟩
theorem a4T(ha:H a=some (.lst xs))(hb:H b=some (.lst ys))(fx:xs.all k7=true)(fy:ys.all k7=true):eqO (.ref a) (.ref b) H=some (v9 xs ys):=by
 unfold eqO
 rw[if_neg (by intro z;cases z)]
 simp only[ha,hb]
 rw[if_pos ⟨fx,fy⟩]
theorem a5t{s c:String}(e:V8 x H=some s)(hc:c∈L6)(h:Q (.bl (a0W s c)) H):a1Y [x,.ty c] H Q:=⟨s,e,hc,h⟩
end
section
variable {te:TE}{D:Addr}{K:Fg}
theorem a3E{QD:Hp->Prop}{lo:Int}(Pv:Nat->List V->Hp->Prop)(h0:Pv 0 [] (upd H1 D (.lst [])))(hP:∀i ys H,Pv i ys H->H D=some (.lst ys))
  (step:∀i ys H2,i<n->Pv i ys H2->∀R:VK,(∀y H5,H5 D=some (.lst ys)->ys.length<b5->Pv (i+1) (ys++[y]) (upd H5 D (.lst (ys++[y])))->R y H5)->te (some (.int (lo+i))::σ) H2 R)
  (done:∀ys H2,Pv n ys H2->QD H2) :
  ∃W:Nat->Nat->List V->Hp->Prop,(∃m,W 0 m [] (upd H1 D (.lst [])))/\∀i m ys H2,W i m ys H2->H2 D=some (.lst ys) /\
   (((Itr lo n).stop i H2 /\ QD H2) \/ ((Itr lo n).go i H2 /\ ∀ x H3,(Itr lo n).yld i H2 x H3 -> P7 (some x :: σ) H3 fun ok H4 => if ok = true then
     te (some x::σ) H4 (fun y H5=>H5 D=some (.lst ys)/\ys.length<b5/\∃m',m'<m/\W (i+1) m' (ys++[y]) (upd H5 D (.lst (ys++[y]))))
     else ∃m',m'<m/\W (i+1) m' ys H4)):=by
 refine⟨fun i m ys H=>m=n - i/\i<=n/\Pv i ys H,⟨n,rfl,J8 _,h0⟩,?_⟩
 rintro i m ys H2 ⟨rfl,hi,p⟩
 refine⟨hP i ys H2 p,?_⟩
 by_cases hlt:i<n
 ·refine .inr ⟨hlt,fun x H3 y=>?_⟩
  obtain⟨e,y⟩:=y
  subst e y
  refine a0M ?_
  rw[if_pos rfl]
  exact step i ys _ hlt p _ fun y H5 h1 h2 h3=>⟨h1,h2,n - (i+1),by omega,rfl,hlt,h3⟩
 ·have e:i=n:=by omega
  subst e
  exact .inl ⟨e7 _,done ys H2 p⟩
theorem a3F{QD:Hp->Prop}(Pv:Nat->List V->Hp->Prop)(h0:Pv 0 [] (upd H1 D (.lst [])))(hP:∀i ys H,Pv i ys H->H D=some (.lst ys))(hl:∀i ys H,i<=xs.length->Pv i ys H->SqL K H a xs)
  (step:∀i x ys H2,xs[i]? = some x->Pv i ys H2->∀R:VK,(∀y H5,H5 D=some (.lst ys)->ys.length<b5->Pv (i+1) (ys++[y]) (upd H5 D (.lst (ys++[y])))->R y H5)->te (some x::σ) H2 R)
  (done:∀ys H2,Pv xs.length ys H2->QD H2) :
  ∃W:Nat->Nat->List V->Hp->Prop,(∃m,W 0 m [] (upd H1 D (.lst [])))/\∀i m ys H2,W i m ys H2->H2 D=some (.lst ys) /\
   (((Itl K a).stop i H2 /\ QD H2) \/ ((Itl K a).go i H2 /\ ∀ x H3,(Itl K a).yld i H2 x H3 -> P7 (some x :: σ) H3 fun ok H4 => if ok = true then
     te (some x::σ) H4 (fun y H5=>H5 D=some (.lst ys)/\ys.length<b5/\∃m',m'<m/\W (i+1) m' (ys++[y]) (upd H5 D (.lst (ys++[y]))))
     else ∃m',m'<m/\W (i+1) m' ys H4)):=by
 refine⟨fun i m ys H=>m=xs.length - i/\i<=xs.length/\Pv i ys H,⟨xs.length,rfl,J8 _,h0⟩,?_⟩
 rintro i m ys H2 ⟨rfl,hi,p⟩
 refine⟨hP i ys H2 p,?_⟩
 have q:=hl i ys H2 hi p
 by_cases hlt:i<xs.length
 ·refine .inr ⟨⟨xs,xs[i],q,by simp[hlt]⟩,fun x H3 y=>?_⟩
  obtain⟨e,y⟩:=y
  subst e
  refine a0M ?_
  rw[if_pos rfl]
  exact step i x ys _ (y xs q) p _ fun y H5 h1 h2 h3=>⟨h1,h2,xs.length - (i+1),by omega,rfl,hlt,h3⟩
 ·have e:i=xs.length:=by omega
  subst e
  exact .inl ⟨⟨xs,q,e7 _⟩,done ys H2 p⟩
theorem a3f{wi:TI}{tt:TT}(h:wi σ H1 fun J H1=>∀D,H1 D=none->∃W:Nat->Nat->List V->Hp->Prop,
 (∃m,W 0 m [] (upd H1 D (.lst [])))/\∀i m ys H2,W i m ys H2->H2 D=some (.lst ys) /\
  ((J.stop i H2 /\ Q (.ref D) H2) \/ (J.go i H2 /\ ∀ x H3,J.yld i H2 x H3 -> tt (some x :: σ) H3 fun ok H4 => if ok = true then
    te (some x::σ) H4 (fun y H5=>H5 D=some (.lst ys)/\ys.length<b5/\∃m',m'<m/\W (i+1) m' (ys++[y]) (upd H5 D (.lst (ys++[y]))))
    else ∃m',m'<m/\W (i+1) m' ys H4))):P8 wi tt te σ H1 Q:=h
theorem a3d{ta:TA}{R:It->Hp->Prop}(h:ta σ H1 fun vs H2=>∃j:Int,vs=[.int j] /\ -(2 ^ 62)<=j/\j<2 ^ 62/\R (Itr 0 j.toNat) H2):R1 ta σ H1 R:=h
theorem a5S{ta:TE}{R:It->Hp->Prop}(h:ta σ H1 fun x H2=>∃a,x=.ref a/\(∃xs,SqL K H2 a xs)/\R (Itl K a) H2):a1q K ta σ H1 R:=h
theorem a7E{wi:TI}{g:TG}{tb:TS}{D:R6}(h:wi σ H1 fun J H1=>∃W:Nat->Nat->St->Hp->Prop,(∃m,W 0 m σ H1)/\∀i m σ H,W i m σ H ->
 (J.stop i H/\D.nx σ H)\/(J.go i H/\∃N:St->Hp->Prop,(∀σ' H',N σ' H'->∃m',m'<m/\W (i+1) m' σ' H')/\∀x H',J.yld i H x H'->g x σ H' fun σ2 H2=>tb { D with nx:=N,ct:=N,bk:=D.nx } σ2 H2)):a2X wi g tb D σ H1:=h
end
def z4(H H':Hp):Prop:=∀a xs,H a=some (.tup xs)->H' a=some (.tup xs)
theorem z4.refl(H:Hp):z4 H H:=fun _ _ h=>h
theorem z4.trans{H2:Hp}(x:z4 H H1)(y:z4 H1 H2):z4 H H2:=fun a xs h=>y a xs (x a xs h)
theorem z4.new(h:H p=none):z4 H (upd H p o):=fun a xs e=>by rw[c8 (c9 e h)];exact e
theorem z4.put(h:H p=some (.lst ys)):z4 H (upd H p o):=fun a xs e=>by
 rw[c8 (a1o e h (by intro z;cases z))];exact e
theorem v4.ts(s:v4 H H'):z4 H H':=fun a xs h=>s a _ h
theorem t5.ts(k:t5 b H H')(hB:Bag H b c):z4 H H':=fun a xs h=>by
 obtain⟨ys,hb⟩:=hB.lst
 exact k.tup hb h
def OpV(v:V):Prop:=(∃s,v=.str s)\/∃n:Int,v=.int n/\0<=n/\n<1000000000000
theorem OpV.flat{v:V}(h:OpV v):k7 v=true:=by
 rcases h with ⟨s,rfl⟩ | ⟨n,rfl,_⟩ <;> rfl
def Y6(H:Hp)(p:Addr):Prop:=∃k v1 v2,H p=some (.tup [.str k,v1,v2])/\OpV v1/\OpV v2/\k∈(["plus","minus","times","less","same"]:List Str)
theorem Y6.ts(h:Y6 H p)(t:z4 H H'):Y6 H' p:=by
 obtain⟨k,v1,v2,h,a,b,c⟩:=h
 exact⟨k,v1,v2,t _ _ h,a,b,c⟩
inductive F6(H:Hp):List V->Prop
 | set (n:Str) (p:Addr):Y6 H p->F6 H [.str "set",.str n,.ref p]
 | copy (n:Str) (v:V):OpV v->F6 H [.str "copy",.str n,v]
 | take (n:Str):F6 H [.str "take",.str n]
 | tell (v:V):OpV v->F6 H [.str "tell",v]
 | ask (v:V):OpV v->F6 H [.str "ask",v]
 | skip:F6 H [.str "skip"]
theorem F6.ts(h:F6 H xs)(t:z4 H H'):F6 H' xs:=by
 cases h with
 | set n p d=>exact .set n p (d.ts t)
 | copy n v o=>exact .copy n v o
 | take n=>exact .take n
 | tell v o=>exact .tell v o
 | ask v o=>exact .ask v o
 | skip=>exact .skip
def a3K(H:Hp)(v:V):Prop:=∃p xs,v=.ref p/\H p=some (.tup xs)/\F6 H xs
theorem a3K.ts(h:a3K H v)(t:z4 H H'):a3K H' v:=by
 obtain⟨p,xs,rfl,h,r⟩:=h
 exact⟨p,xs,rfl,t _ _ h,r.ts t⟩
structure J5(H:Hp)(a:Addr):Prop where
 ex:∃ss:List Str,H a=some (.lst (ss.map V.str))/\ss≠[]/\ss.length<=8
theorem J5.kept(h:J5 H a)(hB:Bag H b c)(k:t5 b H H'):J5 H' a/\a≠b:=by
 obtain⟨ss,h1,h2,h3⟩:=h.ex
 obtain⟨i0,i1,i2,ns,hb,_⟩:=hB.ex
 have ne:a≠b:=a1o h1 hb (by
  intro z
  have z:=HO.lst.inj z
  cases ss with
  | nil=>exact h2 rfl
  | cons s r=>cases z)
 exact⟨⟨ss,k.1 a _ h1 ne,h2,h3⟩,ne⟩
theorem J5.same(h:J5 H a)(s:v4 H H'):J5 H' a:=by
 obtain⟨ss,h1,h2,h3⟩:=h.ex
 exact⟨ss,s _ _ h1,h2,h3⟩
theorem J5.new(h:J5 H a)(n:H p=none):J5 (upd H p o) a:=by
 obtain⟨ss,h1,h2,h3⟩:=h.ex
 exact⟨ss,by rw[c8 (c9 h1 n)];exact h1,h2,h3⟩
theorem a0L(h:n<100000):n<b5:=a9 h (by rw[a3Q];decide)
theorem C4{c:Bool}{A B:Prop}(hc:c=true)(h:A):if c=true then A else B:=by rw[if_pos hc];exact h
theorem m8{c:Bool}{A B:Prop}(hc:c=false)(h:B):if c=true then A else B:=by rw[hc];exact L2.a9C h
section
variable {t u:TS}{te ta tb tc to ti:TE}{tt tu:TT}{tr:TA}{QB:Bool->Hp->Prop}{QA:List V->Hp->Prop}{x y:V}{i j:Int}{K:Fg}
end
def IL(l:List Nat):List V:=l.map fun(n:Nat)=>V.int (n:Int)
def KS(ks:List Nat):List (Key×V):=ks.map fun(k:Nat)=>(Sum.inl (k:Int),V.bl true)
def b1d(ks:List Nat)(k:Nat):List Nat:=if k∈ks then ks else ks++[k]
end RD
namespace RD
variable{a b c p:Addr}{H H' H1:Hp}{o:HO}{xs ys:List V}{D:R6}{σ:St}{Q:VK}{v:V}{n:Nat}{ns:List Int}
inductive Gd(N:Nt):Nat->Prop
 | stop {k:Nat}:N[k]? = some []->Gd N k
 | step {k t:Nat} {l:List Nat}:N[k]? = some l->t∈l->Gd N t->Gd N k
inductive Rc(N:Nt):Nat->Prop
 | zero:Rc N 0
 | step {k t:Nat} {l:List Nat}:Rc N k->N[k]? = some l->t∈l->Rc N t
structure b0k(N:Nt):Prop where
 pos:0<N.length
 le:N.length<=400
 two:∀l∈N,l.length<=2
 lt:∀l∈N,∀t∈l,t<N.length
 rc:∀k,k<N.length->Rc N k
 gd:∀k,k<N.length->Gd N k
def b0e(N:Nt)(G:List Nat):List (List Nat):=(u8 N.length).map fun k=>if k∈G then N.getD k [] else (N.length - 1)::(N.getD k []).drop 1
def b0D(N:Nt)(O:List Nat):List (List Nat):=O.map fun k=>(N.getD k []).map fun t=>O.idxOf t
end RD
namespace RD
open PySem PySem.Spec PyProof.Rows L2
variable{a b c p:Addr}{H H' H1:Hp}{o:HO}{xs ys:List V}{D:R6}{σ:L2.St}{Q:VK}{v:V}{n:Nat}{ns:List Int}
def spD(n m:Nat)(t:TS):Sp:=fun vs H Q _=>vs.length=n/\t { nx:=fun _ H'=>Q .non H',rt:=Q } (vs.map some++G3 (m - vs.length) none) H
def a5r(K:Fg):TS:=M9 (a0J (f8 (tC (.int 0)) (f8 (tC (.int 1234567891)) (f8 (tC (.int 0)) (f8 (P8 (a1q K (tSl (a6a K) (f7 0) N7 (a1i (tC (.int 63))))) P7 (tCB a3i (f8 (f7 0) t7))) t7)))))
def W3(K:Fg):Sp:=spD 1 1 (a5r K)
def a2V(K:Fg):TS:=r0 (L5 (z0 (tOp qEq (tOp qIx (f7 0) (tC (.int 0))) (tC (.int 0)))) (r0 (y0 (tC (.int 12345)) (o9 2)) (r0 (L5 (z0 (tOp qLt (tOp qIx (f7 0) (tC (.int 2))) (tCB a1X (f8 (tOp qIx (f7 0) (tC (.int 3))) t7)))) (r0 (y0 (tOp qIx (tOp qIx (f7 0) (tC (.int 3))) (tOp qIx (f7 0) (tC (.int 2)))) (o9 3)) (r0 (a1k (f7 0) (tC (.int 2)) (tC (.int 1)) a1Z (ipI fun i j=>i+j) W6) (r0 (L5 (z0 (tOp qGe (f7 3) (tC (.int 1000000000000000000)))) (y0 (f7 3) (a2m (f7 0) (tC (.int 0)) W6)) A5) (y0 (tOp N0 (tOp S6 (f7 3) (tC (.int 2147483647))) (tC (.int 1))) (o9 2))))) A5) (y0 (tOp S6 (tOp N0 (tOp a1W (tOp qIx (f7 0) (tC (.int 1))) (tC (.int 48271))) (f7 2)) (tC (.int 2147483647))) (a2m (f7 0) (tC (.int 1)) W6)))) A5) (r0 (L5 (z0 (tOp qGt (tOp qIx (f7 0) (tC (.int 0))) (tC (.int 0)))) (r0 (y0 (tOp S6 (tOp qIx (f7 0) (tC (.int 0))) (f7 1)) (o9 4)) (r0 (y0 (tOp a3h (tOp qIx (f7 0) (tC (.int 0))) (f7 1)) (a2m (f7 0) (tC (.int 0)) W6)) (M9 (f7 4)))) A5) (r0 (y0 (tOp S6 (tOp a1W (tOp qIx (f7 0) (tC (.int 1))) (tC (.int 39373))) (tC (.int 1000000007))) (o9 5)) (r0 (y0 (tOp S6 (tOp a1W (f7 5) (tC (.int 30011))) (tC (.int 998244353))) (o9 6)) (r0 (L5 (z0 (tOp qGt (f7 1) (tC (.int 1000000)))) (M9 (tOp S6 (tOp N0 (tOp a1W (f7 6) (tC (.int 1000000000))) (f7 5)) (f7 1))) A5) (M9 (tOp S6 (tOp a3h (f7 6) (tC (.int 3))) (f7 1)))))))
def E4(K:Fg):Sp:=spD 2 7 (a2V K)
def a1g(K:Fg):TS:=M9 (a0d (tCB a1Y (f8 (f7 0) (f8 (tC (.ty "int")) t7))) (a1j (tCB a1Y (f8 (f7 0) (f8 (tC (.ty "bool")) t7)))))
def J0(K:Fg):Sp:=spD 1 1 (a1g K)
structure Cn where
 z6:Addr
 K0:Addr
 B6:Addr
 K5:Addr
 B0:Addr
 E1:Addr
def Cn.at(c:Cn):Nat->Addr
 | 0=>c.K0
 | 1=>c.B6
 | 2=>c.K5
 | 3=>c.B0
 | _=>c.E1
def a0q:Nat->Str
 | 3 => "most"
 | _ => "at"
structure T6(K:Fg)(c:Cn):Prop where
 xc:∀i,i<5->Y2 K (c.at i)
 xi:∀i,i<5->XIs K (c.at i)
 na:∀i,i<5->c7 K (.ref (c.at i)) (a0q i)=some none
 up:∀i,i<5->w6 K (c.at i) (.ref c.z6)=some true
 kit:∀i j,i<5->j<5->p7 K (.ref (c.at i)) (.ref (c.at j))=some (decide (i=j))
 ve:∀i,i<5->p7 K (.ref (c.at i)) (.type "ValueError")=some true
def j5(K:Fg)(f:Str):Sp:=fun vs H Q _=>∃a v C,vs=[.ref a,v]/\H a=some (xo a C none)/\Y2 K C/\c7 K (.ref C) f=some none/\∀d,H d=none->d≠a->Q .non (upd (upd H d (.xd [(f,v)])) a (xo a C (some d)))
def tIs(i:Int)(t:TS):TS:=L5 (z0 (tOp qEq (f7 0) (tC (.int i)))) t A5
def P5(K:Fg)(c:Cn)(E:XK):TS:=r0 (tIs 0 (D7 c.K0 (j5 K "at") (fun _=>E) (f8 (f7 1) t7))) (r0 (tIs 1 (D7 c.B6 (j5 K "at") (fun _=>E) (f8 (f7 1) t7))) (r0 (tIs 2 (D7 c.K5 (j5 K "at") (fun _=>E) (f8 (f7 1) t7))) (r0 (tIs 3 (D7 c.B0 (j5 K "most") (fun _=>E) (f8 (f7 1) t7))) (W0 c.E1 (fun _=>E)))))
def E5(c:Cn):Sp:=fun vs H _ E=>∃(i:Nat) (n:Int),vs=[.int (i:Int),.int n]/\i<5/\∀dx H',(i<4->∃d,dx=some d/\H' d=some (.xd [(a0q i,.int n)]))->(i=4->dx=none)->v4 H H'->E (.ref (c.at i)) dx H'
def qX(K:Fg)(x C:Addr)(dx:Option Addr):List V->Hp->VK->Prop:=fun vs H Q=>a0z dx H/\a6f K x C vs H Q
def a0K(K:Fg)(x C:Addr)(dx:Option Addr)(v:V):TE:=tCB (qX K x C dx) (f8 (f7 3) (f8 (tC v) t7))
def N6(K:Fg)(c:Cn)(x C:Addr)(dx:Option Addr):TS:=
 r0 (y0 (a0J (f8 (a0K K x C dx (.ref c.K0)) (f8 (a0K K x C dx (.ref c.B6)) (f8 (a0K K x C dx (.ref c.K5)) (f8 (a0K K x C dx (.ref c.B0)) t7))))) (o9 4))
 (r0 (y0 (tOp N0 (f7 4) (a0J (f8 (a0K K x C dx (.ref c.E1)) t7))) (o9 4))
 (r0 (L5 (tOr (z0 (tOp qNe (f7 4) (P8 (R1 (f8 (tC (.int 5)) t7)) P7 (tOp qEq (f7 0) (f7 1))))) (a2W (tB (a0K K x C dx (.ty "ValueError"))))) (M9 (tC (.bl false))) A5)
 (r0 (y0 (f7 1) (o9 2))
 (r0 (L5 (tOr (z0 (tOp qEq (f7 0) (tC (.int 0)))) (tOr (z0 (tOp qEq (f7 0) (tC (.int 1)))) (z0 (tOp qEq (f7 0) (tC (.int 2)))))) (y0 (a0b K x C dx (f7 3) "at") (o9 2)) A5)
 (L5 (z0 (tOp qEq (f7 0) (tC (.int 3)))) (y0 (a0b K x C dx (f7 3) "most") (o9 2)) A5)))))
def P6(K:Fg)(c:Cn):TS:=r0 (y0 (tC .non) (o9 2)) (r0 (a1h K c.z6 3 (fun EE=>a0c (W2 (E5 c) EE (f8 (f7 0) (f8 (f7 1) t7)))) (N6 K c))
 (M9 (a0d (C3 (J0 K) [] E0 (f8 (f7 2) t7)) (tOp qEq (f7 2) (f7 1)))))
def A7(K:Fg):Sp:=fun vs H Q _=>∃(i:Nat) (n:Int),vs=[.int (i:Int),.int n]/\i<5/\∀H',v4 H H'->Q (.bl true) H'
def a5q(K:Fg):TS:=r0 (y0 (C3 (W3 K) [] E0 (f8 (f7 0) t7)) (o9 1)) (r0 (y0 (a0J (f8 (C3 (E4 K) [] E0 (f8 (f7 1) (f8 (tOp N0 (tOp a6e (tC (.int 10)) (tC (.int 12))) (tC (.int 1))) t7))) (f8 (C3 (E4 K) [] E0 (f8 (f7 1) (f8 (tC (.int 400)) t7))) t7))) (o9 2)) (r0 (y0 (C3 (E4 K) [] E0 (f8 (f7 1) (f8 (tC (.int 5)) t7))) (o9 3)) (r0 (a2X (R1 (f8 (tC (.int 10)) t7)) (o9 4) (L5 (a2W (tB (C3 (A7 K) [] E0 (f8 (tOp S6 (tOp N0 (f7 3) (f7 4)) (tC (.int 5))) (f8 (tOp qIx (f7 2) (tOp a3h (f7 4) (tC (.int 5)))) t7))))) (M9 (tC (.bl false))) A5)) (M9 (C3 (A7 K) [] E0 (f8 (f7 3) (f8 (tOp qIx (f7 2) (tC (.int 0))) t7)))))))
def P9(K:Fg):Sp:=spD 1 5 (a5q K)
end RD
local macro_rules | `(tactic| walk_at "st") => `(tactic| (with_reducible first
 | refine RD.a0i ?_ | refine RD.a4g ?_ | refine RD.a5T ?_ | refine RD.a7x ?_ | refine RD.a5U ?_ | refine RD.a9d ?_ | refine RD.a5R ?_ | refine RD.a5O ?_ | refine RD.a8Z ?_ | refine RD.a7z ?_ | refine RD.a7G ?_ | refine RD.a9b ?_ | refine RD.a5Y ?_ | refine RD.a7y ?_ | refine RD.a5Q ?_ | refine RD.a7D ?_ | refine RD.a9c ?_ | refine RD.a4h ?_ | refine RD.a8Y ?_ | refine RD.a7B ?_ | refine RD.s_c ?_ | refine RD.a5V ?_ | refine RD.a7A ?_ | refine RD.a5W ?_ | refine RD.a9e ?_ | refine RD.a7v ?_ | refine RD.a7C ?_ | refine RD.a9a ?_ | refine RD.a5P ?_ | refine RD.a3e ?_ | refine RD.a7w ?_ | refine RD.a0M ?_ | refine RD.a5X ?_ | refine RD.a7F ?_
 | refine RD.a7u (by with_unfolding_all rfl) ?_ | refine Exists.intro _ (And.intro (Eq.refl (L2.V.bl _)) ?_) | refine Exists.intro _ (And.intro (Eq.refl (L2.V.int _)) ?_)
 | refine RD.a7O ?_ | refine RD.a6c ?_ | refine RD.a9j ?_ | refine RD.a7P ?_ | refine RD.a9k rfl ?_ | refine RD.a9i rfl ?_))
local macro_rules | `(tactic| walk_at "ev") => `(tactic| repeat walk_at "st")
local macro_rules | `(tactic| walk_at "go") => `(tactic| repeat (first | with_reducible refine RD.a3c ?_ | walk_at "st"))
local macro_rules | `(tactic| ext) => `(tactic| walk_at "ev")
local macro_rules | `(tactic| exists $t:term) => `(tactic| (refine $t; walk_at "ev"))
local macro_rules | `(tactic| specialize $t:term) => `(tactic| (with_reducible refine $t; walk_at "ev"))
local macro_rules | `(tactic| exact_mod_cast $t:term) => `(tactic| with_reducible refine $t)
local macro_rules | `(tactic| nofun) => `(tactic| (with_reducible refine RD.a3c ?_; walk_at "ev"))
namespace RD
open PySem PySem.Spec L2
variable{a b c p:Addr}{H H' H1:Hp}{o:HO}{xs ys:List V}{D:R6}{σ:St}{Q:VK}{v:V}{n:Nat}{ns:List Int}
theorem ix0{α:Type}(a b c d:α):ixN [a,b,c,d].length 0=some 0:=by
 show ixN 4 0=some 0
 decide
theorem ix1{α:Type}(a b c d:α):ixN [a,b,c,d].length 1=some 1:=by
 show ixN 4 1=some 1
 decide
theorem ix2{α:Type}(a b c d:α):ixN [a,b,c,d].length 2=some 2:=by
 show ixN 4 2=some 2
 decide
structure R7(H:Hp)(b:Addr)(i0 i1 i2:Int)(c:Addr)(ns:List Int):Prop where
 hb:H b=some (.lst [.int i0,.int i1,.int i2,.ref c])
 hc:H c=some (.lst (ns.map V.int))
 p0:0<=i0
 p1:0<=i1
 p1':i1<2147483647
 p2:0<=i2
 pn:∀x∈ns,0<=x
theorem R7.bag{i0 i1 i2:Int}(h:R7 H b i0 i1 i2 c ns):Bag H b c:=⟨i0,i1,i2,ns,h.hb,h.hc,h.p0,h.p1,h.p1',h.p2,h.pn⟩
theorem Bag.parts(h:Bag H b c):∃i0 i1 i2 ns,R7 H b i0 i1 i2 c ns:=by
 obtain⟨i0,i1,i2,ns,h1,h2,h3,h4,h5,h6,h7⟩:=h.ex
 exact⟨i0,i1,i2,ns,h1,h2,h3,h4,h5,h6,h7⟩
theorem R7.ne{i0 i1 i2:Int}(h:R7 H b i0 i1 i2 c ns):c≠b:=a1o h.hc h.hb (by
  intro z
  have z:=HO.lst.inj z
  cases ns with
  | nil=>cases z
  | cons a r=>cases r with
   | nil=>cases z
   | cons a2 r=>cases r with
    | nil=>cases z
    | cons a3 r=>cases r with
     | nil=>cases z
     | cons a4 r=>simp at z)
theorem R7.put{i0 i1 i2 j0 j1 j2:Int}(h:R7 H b i0 i1 i2 c ns)(q0:0<=j0)(q1:0<=j1)(q1':j1<2147483647)(q2:0<=j2) :
  R7 (upd H b (.lst [.int j0,.int j1,.int j2,.ref c])) b j0 j1 j2 c ns:=⟨j3,by rw[c8 h.ne];exact h.hc,q0,q1,q1',q2,h.pn⟩
theorem V9{K:Fg}{many:Int}{E:XK}(hB:Bag H b c)(h0:0<many)(h1:many<2 ^ 64)
  (k:∀n H',0<=n->n<many->Bag H' b c->t5 b H H'->Q (.int n) H'):E4 K [.ref b,.int many] H Q E:=by
 obtain⟨i0,i1,i2,ns,B⟩:=hB.parts
 refine⟨rfl,?_⟩
 unfold a2V
 refine a0h (P:=fun σ H1=>∃x2 x3 j0 j1 j2,σ=[some (.ref b),some (.int many),x2,x3,none,none,none]/\R7 H1 b j0 j1 j2 c ns/\t5 b H H1) ?_ ?_
 ·-- the second part
  rintro _ H1 ⟨x2,x3,j0,j1,j2,rfl,B1,k1⟩
  refine a0h (P:=fun σ H2=>H2=H1/\σ=[some (.ref b),some (.int many),x2,x3,none,none,none]) ?_ ?_
  ·rintro _ _ ⟨rfl,rfl⟩
   walk_at "go"
   refine A9 B1.hb (a8i _ _ _) ?_
   walk_at "go"
   refine x8 (.inr (by omega)) ?_
   walk_at "go"
   refine x8 (by omega) ?_
   walk_at "go"
   have g1:=p5 (j1 * 39373) (show(1000000007:Int)≠0 by decide)
   have g2:=o0 (j1 * 39373) (show(0:Int)<1000000007 by decide)
   refine x8 (.inr (by omega)) ?_
   walk_at "go"
   refine x8 (by omega) ?_
   walk_at "go"
   have g3:=p5 (j1 * 39373 % 1000000007 * 30011) (show(998244353:Int)≠0 by decide)
   have g4:=o0 (j1 * 39373 % 1000000007 * 30011) (show(0:Int)<998244353 by decide)
   refine a3y (fun _=>?_) (fun _=>?_)
   ·walk_at "go"
    refine x8 (.inr (by omega)) ?_
    walk_at "go"
    refine x8 h0 ?_
    exact k _ _ (p5 _ (by omega)) (o0 _ h0) B1.bag k1
   ·walk_at "go"
    refine x8 (by omega) ?_
    walk_at "go"
    refine x8 h0 ?_
    exact k _ _ (p5 _ (by omega)) (o0 _ h0) B1.bag k1
  ·intro nx hnx
   walk_at "go"
   refine A9 B1.hb (a3J _ _) ?_
   walk_at "go"
   refine a3y (fun _=>?_) (fun _=>?_)
   ·walk_at "go"
    refine A9 B1.hb (a3J _ _) ?_
    walk_at "go"
    refine x8 h0 ?_
    walk_at "go"
    refine A9 B1.hb (a3J _ _) ?_
    walk_at "go"
    refine x8 ⟨h0,h1⟩ ?_
    walk_at "go"
    refine a1n B1.hb (ix0 _ _ _ _) ?_
    walk_at "go"
    refine k _ _ (p5 _ (by omega)) (o0 _ h0) (B1.put (Int.ediv_nonneg B1.p0 (by omega)) B1.p1 B1.p1' B1.p2).bag (k1.trans (t5.upd _ _ _))
   ·walk_at "go"
    exact hnx _ _ ⟨rfl,rfl⟩
 ·intro nx hnx
  walk_at "go"
  refine A9 B.hb (a3J _ _) ?_
  walk_at "go"
  refine a3y (fun e=>?_) (fun _=>?_)
  ·have e:i0=0:=by simpa using e
   subst e
   nofun
   exact_mod_cast a0h (P:=fun σ H1=>∃m x3 j0 j2,σ=[some (.ref b),some (.int many),some (.int m),x3,none,none,none]/\R7 H1 b j0 i1 j2 c ns/\t5 b H H1/\0<=m) ?_ ?_
   ·rintro _ H1 ⟨m,x3,j0,j2,rfl,B1,k1,hm⟩
    walk_at "go"
    refine A9 B1.hb (a8i _ _ _) ?_
    walk_at "go"
    refine x8 (.inr (by omega)) ?_
    walk_at "go"
    refine x8 (by omega) ?_
    walk_at "go"
    refine a1n B1.hb (ix1 _ _ _ _) ?_
    have g1:=p5 (i1 * 48271+m) (show(2147483647:Int)≠0 by decide)
    have g2:=o0 (i1 * 48271+m) (show(0:Int)<2147483647 by decide)
    exact hnx _ _ ⟨_,x3,j0,_,j2,rfl,B1.put B1.p0 g1 g2 B1.p2,k1.trans (t5.upd _ _ _)⟩
   ·intro nx2 hnx2
    walk_at "go"
    refine A9 B.hb (a8h _ _ _ _) ?_
    walk_at "go"
    refine A9 B.hb (a8g _ _ _ _ _) ?_
    walk_at "go"
    refine a6b B.hc ?_
    walk_at "go"
    refine a3y (fun e=>?_) (fun _=>?_)
    ·have e:i2<(ns.length:Int):=by simpa using e
     obtain⟨v,ev,ev2⟩:=a7c (xs:=ns.map V.int) B.p2 (by simpa using e)
     obtain⟨z,ez,rfl⟩:∃z,ns[i2.toNat]? = some z/\v=V.int z:=by
      rw[C2]at ev2
      cases q:ns[i2.toNat]? with
      | none=>rw[q]at ev2;cases ev2
      | some z=>rw[q]at ev2;exact⟨z,rfl,(Option.some.inj ev2).symm⟩
     have hz:0<=z:=B.pn z (mI ez)
     walk_at "go"
     refine A9 B.hb (a8g _ _ _ _ _) ?_
     walk_at "go"
     refine A9 B.hb (a8h _ _ _ _) ?_
     walk_at "go"
     refine A9 B.hc ev ?_
     walk_at "go"
     exists a7N B.hb (by decide) rfl ?_
     refine a1n B.hb (ix2 _ _ _ _) ?_
     have B2:=B.put (j0:=0) (j1:=i1) (j2:=i2+1) (Int.le_refl _) B.p1 B.p1' (by have:=B.p2;omega)
     exact_mod_cast a0h (P:=fun σ H1=>∃j0,σ=[some (.ref b),some (.int many),some (.int 12345),some (.int z),none,none,none]/\R7 H1 b j0 i1 (i2+1) c ns/\t5 b H H1) ?_ ?_
     ·rintro _ H1 ⟨j0,rfl,B1,k1⟩
      walk_at "go"
      refine x8 (by omega) ?_
      walk_at "go"
      have g1:=p5 z (show(2147483647:Int)≠0 by decide)
      exact hnx2 _ _ ⟨_,_,j0,_,rfl,B1,k1,by omega⟩
     ·intro nx3 hnx3
      walk_at "go"
      refine a3y (fun _=>?_) (fun _=>?_)
      ·walk_at "go"
       refine a1n B2.hb (ix0 _ _ _ _) ?_
       refine hnx3 _ _ ⟨z,rfl,?_,(t5.upd _ _ _).trans (t5.upd _ _ _)⟩
       exact B2.put hz B.p1 B.p1' (by have:=B.p2;omega)
      ·walk_at "go"
       exact hnx3 _ _ ⟨0,rfl,B2,t5.upd _ _ _⟩
    ·walk_at "go"
     exact hnx2 _ _ ⟨_,_,0,i2,rfl,B,t5.refl _ _,by decide⟩
  ·walk_at "go"
   exact hnx _ _ ⟨_,_,i0,i1,i2,rfl,B,t5.refl _ _⟩
theorem a7b{K:Fg}{E:XK}(hS:SqL K H a (ns.map V.int))(hl:ns.length<=63)
  (k:∀b c H',Bag H' b c->v4 H H'->H b=none->Q (.ref b) H'):W3 K [.ref a] H Q E:=by
 refine⟨rfl,?_⟩
 unfold a5r
 walk_at "go"
 exact_mod_cast a3f (a5S ?_)
 walk_at "go"
 refine⟨a,_,rfl,hS,fun p hp=>⟨p,rfl,⟨_,SqL.of j3⟩,fun D hD=>?_⟩⟩
 have hcut:X5 (ns.map V.int) none (some 63)=ns.map V.int:=by
  unfold X5
  have e:HT.sIx (ns.map V.int).length 0 none=0:=rfl
  have e2:HT.sIx (ns.map V.int).length (ns.map V.int).length (some 63)=ns.length:=by
   have:=HT.a4i (ns.map V.int).length (ns.map V.int).length 63
   rw[o7]at this ⊢
   rw[show((63:Nat):Int)=63 from rfl]at this
   rw[this];omega
  rw[e,e2,List.drop_zero,Nat.sub_zero,a1w (by simp)]
 rw[hcut]at hD ⊢
 have s1:v4 H (upd H p (.lst (ns.map V.int))):=A8 hp
 refine a3F (xs:=ns.map V.int) (fun i ys H2=>ys=(ns.take i).map (fun x=>V.int (if x<0 then -x else x))/\H2=upd (upd H p (.lst (ns.map V.int))) D (.lst ys)) ⟨by simp,rfl⟩ ?_ ?_ ?_ ?_
 ·rintro i ys _ ⟨_,rfl⟩
  exact j3
 ·rintro i ys _ _ ⟨_,rfl⟩
  refine SqL.of ?_
  rw[c8 (c9 j3 hD),j3]
 ·rintro i x ys _ hx ⟨rfl,rfl⟩ R hR
  rw[C2]at hx
  cases e:ns[i]? with
  | none=>rw[e]at hx;cases hx
  | some z=>
   rw[e]at hx
   cases hx
   ext
   refine hR _ _ j3 (a0L ?_) ⟨?_,?_⟩
   ·rw[o7,S2];omega
   ·rw[List.take_add_one,e];simp
   ·rw[a4b]
 ·rintro ys _ ⟨rfl,rfl⟩
  ext
  refine a0n (by simp) fun b H4 hb hb4 s4=>?_
  rw[o7,a1w (e7 _)]at hb s4
  refine k b D _ ⟨0,1234567891,0,ns.map (fun x=>if x<0 then -x else x),hb4,?_,by decide,by decide,by decide,by decide,?_⟩ ?_ ?_
  ·rw[s4 D _ j3,List.map_map];rfl
  ·intro x hx
   obtain⟨y,_,rfl⟩:=List.mem_map.mp hx
   split <;> omega
  ·exact(s1.trans (A8 hD)).trans s4
  ·exact(s1.trans (A8 hD)).free hb
section
variable {K:Fg}{c:Cn}{i:Nat}{n:Int}{E:XK}
theorem E6(ck:T6 K c)(hi:i<4)(k:∀dx H',(∃d,dx=some d/\H' d=some (.xd [(a0q i,.int n)]))->v4 H H'->E (.ref (c.at i)) dx H'):D7 (c.at i) (j5 K (a0q i)) (fun _=>E) (f8 (f7 1) t7) D [some (.int (i:Int)),some (.int n)] H:=by
 unfold D7
 ext
 refine⟨a0L (by simp) |> S1,fun a ha=>⟨a,.int n,c.at i,rfl,j3,ck.xc i (by omega),ck.na i (by omega),fun d d1 d2=>⟨rfl,some d,j3,k (some d) _ ⟨d,rfl,?_⟩ fun b o e=>?_⟩⟩⟩
 ·rw[B8 d2,c8 d2,j3]
 ·have hb:b≠a:=c9 e ha
  rw[c8 d2]at d1
  rw[B8 hb,c8 hb,c8 (c9 e d1),c8 hb]
  exact e
theorem a1V(ck:T6 K c)(h:E5 c [.int (i:Int),.int n] H Q E):P5 K c E { nx:=fun _ H'=>Q .non H',rt:=Q } [some (.int (i:Int)),some (.int n)] H:=by
 obtain⟨i',n',e,hi,k⟩:=h
 obtain⟨rfl,rfl⟩:i'=i/\n'=n:=by
  simp only[List.cons.injEq,V.int.injEq,and_true]at e
  exact⟨by omega,e.2.symm⟩
 unfold P5 tIs
 have hc:i'=0\/i'=1\/i'=2\/i'=3\/i'=4:=by omega
 rcases hc with rfl | rfl | rfl | rfl | rfl
 ·nofun
  refine C4 rfl ?_
  exact E6 (i:=0) ck (by decide) fun dx H' a b=>k dx H' (fun _=>a) (fun z=>by cases z) b
 ·nofun
  exists m8 rfl ?_
  nofun
  refine C4 rfl ?_
  exact E6 (i:=1) ck (by decide) fun dx H' a b=>k dx H' (fun _=>a) (fun z=>by cases z) b
 ·nofun
  exists m8 rfl ?_
  nofun
  exists m8 rfl ?_
  nofun
  refine C4 rfl ?_
  exact E6 (i:=2) ck (by decide) fun dx H' a b=>k dx H' (fun _=>a) (fun z=>by cases z) b
 ·nofun
  exists m8 rfl ?_
  nofun
  exists m8 rfl ?_
  nofun
  exists m8 rfl ?_
  nofun
  refine C4 rfl ?_
  exact E6 (i:=3) ck (by decide) fun dx H' a b=>k dx H' (fun _=>a) (fun z=>by cases z) b
 ·nofun
  exists m8 rfl ?_
  nofun
  exists m8 rfl ?_
  nofun
  exists m8 rfl ?_
  nofun
  exists m8 rfl ?_
  exact k none H (fun z=>by omega) (fun _=>rfl) (v4.refl H)
theorem a2T(k:Q (.bl true) H):J0 K [.int n] H Q E:=by
 refine⟨rfl,?_⟩
 unfold a1g
 ext
 exists a5t rfl (by decide) ?_
 exists C4 rfl ?_
 exists a5t rfl (by decide) ?_
 exact k
end
section
variable {K:Fg}{c:Cn}{i:Nat}{n:Int}{x:Addr}{dx:Option Addr}{E:XK}
theorem Q9(ck:T6 K c)(hi:i<5){j:Nat}(hj:j<5)(hx:a0z dx H)(k:Q (.bl (decide (i=j))) H):qX K x (c.at i) dx [.ref x,.ref (c.at j)] H Q:=
 ⟨hx,.ref (c.at j),.ref (c.at j),_,rfl,rfl,ck.kit i j hi hj,fun u r=>r,ck.xi i hi,k⟩
theorem a8e(ck:T6 K c)(hi:i<5)(hx:a0z dx H)(k:Q (.bl true) H):qX K x (c.at i) dx [.ref x,.ty "ValueError"] H Q:=
 ⟨hx,.ty "ValueError",.type "ValueError",_,rfl,rfl,ck.ve i hi,fun u r=>r,ck.xi i hi,k⟩
theorem a1f(h:a0z dx H)(s:v4 H H'):a0z dx H':=fun d e=>let⟨fs,q⟩:=h d e; ⟨fs,s _ _ q⟩
theorem N5(ck:T6 K c)(hi:i<5)(hd:∃d,dx=some d/\H d=some (.xd [(a0q i,.int n)]))(hx:σ[3]? = some (some (.ref x)))(k:Q (.int n) H):a0b K x (c.at i) dx (f7 3) (a0q i) σ H Q:=by
 obtain⟨d,rfl,e⟩:=hd
 refine⟨.ref x,hx,rfl,d,_,.int n,rfl,e,?_,ck.xi i hi,ck.na i hi,k⟩
 simp[G5]
def Q0(i:Nat):List V:=[.bl (decide (i=0)),.bl (decide (i=1)),.bl (decide (i=2)),.bl (decide (i=3)),.bl (decide (i=4))]
theorem a2Y{y4 y2:Option V}(ck:T6 K c)(hi:i<5)(hd:i<4->∃d,dx=some d/\H d=some (.xd [(a0q i,.int n)]))(hn:i=4->dx=none)
  (k:∀s4 H',v4 H H'->D.nx [some (.int (i:Int)),some (.int n),some (.int n),some (.ref x),some s4] H'):N6 K c x (c.at i) dx D [some (.int (i:Int)),some (.int n),y2,some (.ref x),y4] H:=by
 have hx:a0z dx H:=fun d e=>by
  by_cases h4:i<4
  ·obtain⟨d',e1,e2⟩:=hd h4
   rw[e]at e1
   cases e1
   exact⟨_,e2⟩
  ·rw[hn (by omega)]at e;cases e
 unfold N6 a0K
 nofun
 exists Q9 (j:=0) ck hi (by decide) hx ?_
 exists Q9 (j:=1) ck hi (by decide) hx ?_
 exists Q9 (j:=2) ck hi (by decide) hx ?_
 exists Q9 (j:=3) ck hi (by decide) hx ?_
 exists a0n (by simp) fun p1 H1 hp1 e1 s1=>?_
 nofun
 exists Q9 (j:=4) ck hi (by decide) (a1f hx s1) ?_
 refine a0n (by simp) fun p2 H2 hp2 e2 s2=>?_
 refine a6d (s2 _ _ e1) e2 (a0n (by simp) fun p3 H3 hp3 e3 s3=>?_)
 have s03:=(s1.trans s2).trans s3
 have e3:H3 p3=some (.lst (Q0 i)):=e3
 ext
 nofun
 specialize a3f (a3d ?_)
 refine⟨5,rfl,by decide,by decide,fun D' hD=>?_⟩
 refine a3E (n:=5) (fun j ys H4=>ys=(u8 j).map (fun(m:Nat)=>V.bl (decide ((m:Int)=(i:Int))))/\H4 D'=some (.lst ys)/\v4 H3 H4) ⟨rfl,j3,A8 hD⟩ ?_ ?_ ?_
 ·rintro j ys H4 ⟨_,h,_⟩
  exact h
 ·rintro j ys H4 hj ⟨rfl,h,s4⟩ R hR
  rw[Int.zero_add]
  ext
  refine hR _ _ h (a0L (by rw[o7,List.length_range];omega)) ⟨?_,j3,fun b o e=>?_⟩
  ·rw[List.range_succ,o6]
   congr 1
   simp[V.int.injEq]
  ·rw[c8 (c9 e hD)];exact s4 _ _ e
 rintro ys H4 ⟨rfl,h4,s4⟩
 have s04:=s03.trans s4
 have same:(u8 5).map (fun(m:Nat)=>V.bl (decide ((m:Int)=(i:Int))))=Q0 i:=by
  have hc:i=0\/i=1\/i=2\/i=3\/i=4:=by omega
  rcases hc with rfl | rfl | rfl | rfl | rfl <;> decide +kernel
 rw[same]at h4
 have fl:(Q0 i).all k7=true:=rfl
 have feq:v9 (Q0 i) (Q0 i)=true:=by
  have hc:i=0\/i=1\/i=2\/i=3\/i=4:=by omega
  rcases hc with rfl | rfl | rfl | rfl | rfl <;> decide +kernel
 refine⟨_,a4T (s4 _ _ e3) h4 fl fl,?_⟩
 rw[feq]
 ext
 exists m8 rfl ?_
 exists a8e ck hi (a1f hx s04) ?_
 exists m8 rfl ?_
 nofun
 have hd4:i<4->∃d,dx=some d/\H4 d=some (.xd [(a0q i,.int n)]):=fun h=>let⟨d,a,b⟩:=hd h; ⟨d,a,s04 _ _ b⟩
 have hc:i=0\/i=1\/i=2\/i=3\/i=4:=by omega
 rcases hc with rfl | rfl | rfl | rfl | rfl
 ·nofun
  refine C4 rfl ?_
  refine C4 rfl ?_
  exact_mod_cast a0i ?_
  exists N5 (i:=0) ck (by decide) (hd4 (by decide)) rfl ?_
  exists m8 rfl ?_
  exact k _ _ s04
 ·nofun
  exists m8 rfl ?_
  refine C4 rfl ?_
  refine C4 rfl ?_
  exact_mod_cast a0i ?_
  exists N5 (i:=1) ck (by decide) (hd4 (by decide)) rfl ?_
  exists m8 rfl ?_
  exact k _ _ s04
 ·nofun
  exists m8 rfl ?_
  exists m8 rfl ?_
  refine C4 rfl ?_
  exact_mod_cast a0i ?_
  exists N5 (i:=2) ck (by decide) (hd4 (by decide)) rfl ?_
  exists m8 rfl ?_
  exact k _ _ s04
 ·nofun
  exists m8 rfl ?_
  exists m8 rfl ?_
  exists m8 rfl ?_
  refine C4 rfl ?_
  exact_mod_cast a0i ?_
  exists N5 (i:=3) ck (by decide) (hd4 (by decide)) rfl ?_
  exact k _ _ s04
 ·nofun
  exists m8 rfl ?_
  exists m8 rfl ?_
  exists m8 rfl ?_
  exists m8 rfl ?_
  exact k _ _ s04
theorem a2p(ck:T6 K c)(h:A7 K [.int (i:Int),.int n] H Q E):P6 K c { nx:=fun _ H'=>Q .non H',rt:=Q } [some (.int (i:Int)),some (.int n),none,none,none] H:=by
 obtain⟨i',n',e,hi,k⟩:=h
 obtain⟨rfl,rfl⟩:i'=i/\n'=n:=by
  simp only[List.cons.injEq,V.int.injEq,and_true]at e
  exact⟨by omega,e.2.symm⟩
 unfold P6
 nofun
 exact_mod_cast a0h (P:=fun σ H'=>∃x3 x4,σ=[some (.int (i':Int)),some (.int n'),some (.int n'),x3,x4]/\v4 H H') ?_ ?_
 rotate_left
 ·intro nx hnx
  unfold a1h a0c W2
  ext
  refine⟨i',n',rfl,hi,fun dx H1 hd hn s1=>⟨c.at i',rfl,ck.up i' hi,fun x hx=>?_⟩⟩
  exact a2Y ck hi hd hn fun s4 H2 s2=>hnx _ _ ⟨_,_,rfl,s1.trans s2⟩
 rintro _ H2 ⟨x3,x4,rfl,s2⟩
 ext
 exists a2T ?_
 exists C4 rfl ?_
 rw[b1D rfl]
 exact k H2 s2
end
theorem law_reading(K:Fg)(hl:ns.length<=63)(hO:a5c H)(hS:SqL K H a (ns.map V.int)):P9 K [.ref a] H (fun v _=>v=.bl true) (fun _ _ _=>False):=by
 refine⟨rfl,?_⟩
 unfold a5q
 nofun
 exists a7b hS hl fun b d H1 B1 s1 _=>?_
 nofun
 exists x8 ⟨by decide,by decide,by decide⟩ ?_
 exists V9 B1 (by decide) (by decide) fun n1 H2 a0 a1 B2 k2=>?_
 exists V9 B2 (by decide) (by decide) fun n2 H3 c0 c1 B3 k3=>?_
 exists a0n (by simp) fun L H4 hL e4 s4=>?_
 have B4:=B3.same s4
 have nLb:=(B3.nb hL).1
 nofun
 refine V9 B4 (by decide) (by decide) fun m H5 m0 m1 B5 k5=>?_
 obtain⟨f,rfl⟩:∃f:Nat,m=(f:Int):=⟨m.toNat,by omega⟩
 have e5:=k5.1 _ _ e4 nLb
 ext
 exact_mod_cast a3c ?_
 specialize a7E (a3d ?_)
 refine⟨10,rfl,by decide,by decide,a2n (n:=10) (fun i σ H6=>∃x4,σ=[some (.ref a),some (.ref b),some (.ref L),some (.int (f:Int)),x4]/\v4 H5 H6) ⟨_,rfl,v4.refl _⟩ ?_ ?_⟩
 ·rintro i _ H6 hi ⟨x4,rfl,s6⟩
  rw[Int.zero_add]
  ext
  exists x8 (by decide) ?_
  refine x8 (by decide) ?_
  obtain⟨v,hv⟩:∃v,atI [V.int n1,V.int n2] ((i:Int) / 5)=some (.int v):=by
   have:(i:Int) / 5=0\/(i:Int) / 5=1:=by omega
   rcases this with e | e <;> rw[e]
   ·exact⟨n1,rfl⟩
   ·exact⟨n2,rfl⟩
  exists A9 (s6 _ _ e5) hv ?_
  exists ⟨(f+i) % 5,v,by simp,by omega,fun H7 s7=>?_⟩
  exists m8 rfl ?_
  exact⟨_,rfl,s6.trans s7⟩
 rintro _ H6 ⟨x4,rfl,s6⟩
 ext
 exists A9 (s6 _ _ e5) (a3J _ _) ?_
 exact⟨f,n1,rfl,by omega,fun H7 s7=>rfl⟩
end RD
set_option maxHeartbeats 0
namespace PR
open PySem L2 RD Y
abbrev b1p:Str:="ValueError"
abbrev b1q:Str:="_law_script"
abbrev b1r:Str:="_law_bag"
abbrev b1s:Str:="_law_bag_here"
abbrev b1t:Str:="_law_take"
abbrev b1u:Str:="_law_which"
abbrev b1v:Str:="_law_number"
abbrev b1w:Str:="self"
abbrev b1x:Str:="__init__"
abbrev b1y:Str:="most"
abbrev b1z:Str:="_law_raised"
abbrev b1A:Str:="_law_whole"
abbrev b1B:Str:="_law_caught"
section
def top(i:Nat):Stmt:=PySem.Challenge.pw_oncedone_k16_refusals_apart.main.body.getD i (.Pass ⟨0,0,0,0⟩)
abbrev a1m:Stmt:=top 8
abbrev a0N:Stmt:=top 9
abbrev Q1:Stmt:=top 11
abbrev W5:Stmt:=top 10
abbrev J1:Stmt:=top 12
abbrev Q2:Stmt:=z5 (top 2) 0
abbrev F9:Stmt:=z5 (top 3) 0
abbrev Q3:Stmt:=z5 (top 5) 0
abbrev F8:Stmt:=z5 (top 4) 0
abbrev a1l:Stmt:=top 13
structure Txt(K:Fg)(mg:Str->Option Value):Prop where
 a8r:mg "abs" = none
 a7k:mg "bool" = none
 a8q:mg "int" = none
 l6:mg "isinstance" = none
 a8p:mg "len" = none
 a1x:mg "range" = none
 Y8:mg b1p = none
abbrev scF(ns:List (Str×F4)):Scope:={ kind:=.function,names:=ns,isGenerator:=false,isCoroutine:=false,more:=[] }
local macro_rules | `(tactic| walk_at "c0") => `(tactic| exact ⟨rfl, by decide +kernel, by decide +kernel, rfl, by decide +kernel, by decide +kernel, rfl, by decide +kernel⟩)
local macro_rules | `(tactic| walk_at "c1") => `(tactic| exact ⟨rfl, by decide +kernel, by decide +kernel, rfl, a1r (by decide +kernel), by decide +kernel, rfl, by decide +kernel⟩)
local macro_rules | `(tactic| walk_at "c2") => `(tactic| exact ⟨rfl, by decide +kernel, by decide +kernel, rfl, rfl, by decide +kernel, by decide +kernel, rfl, rfl, by decide +kernel⟩)
local macro_rules | `(tactic| walk_at "c3") => `(tactic| exact ⟨rfl, by decide +kernel, by decide +kernel, rfl, rfl, a1r (by decide +kernel), by decide +kernel, rfl, rfl, by decide +kernel⟩)
def a3N(f:List Value->Prop):List Str->Prop
 | []=>f []
 | _::r=>∀u,a3N (fun us=>f (u::us)) r
theorem a3N.mp:∀ {ps:List Str} {f:List Value->Prop},a3N f ps->∀us,us.length=ps.length->f us
 | [],_,h,[],_=>h
 | _::_,_,h,u::us,e=>a3N.mp (h u) us (Nat.succ.inj e)
section
variable {P:b8}{w:World}{K:Fg}{mg:Str->Option Value}{base h:Heap}{f C:Addr}{fd:o5}{x q:Str}{st:Stmt}{N ps:List Str}{k:Nat}{t:TS}{pm cd:Value}{sp:Sp}
open PySem.Spec PyProof.Rows in
theorem fk(F:Fun K x q st f fd)(S:l9 N ps (d0 st))(b:∀cdv A outer s H E,n0 k (A.deeper (T9 q (d0 st) s.heap.objs.size f cdv))->N.Nodup->M8 (L7 CX0 P w K mg base N q (d0 st) f cdv A outer s H E).nox (u4 st) t):n8 P w K mg base CX0 (k+1) f fd ps (spD ps.length N.length t):=
 A4 F S (fun _ _ _ _ h=>h.1) fun cdv A outer s H _ _ E hr h=>⟨t,b cdv A outer s H E hr S.nd,h.2⟩
abbrev fdM(x q:Str)(st:Stmt)(pm cd:Value):o5:=p8 x q (B9 st) (u4 st) (d0 st) .none .none .none pm none cd .none
structure FnI(K:Fg)(x q:Str)(st:Stmt)(f:Addr)(pm cd:Value):Prop where
 l:K.lookup f=some ⟨.type "function",none,.func (fdM x q st pm cd),#[]⟩
 c:F0 K cd q=true
 k:l4 K (.ref f)=true
structure FnG(K:Fg)(x:Str)(st:Stmt)(f:Addr)(pm cd:Value):Prop where
 i:FnI K x x st f pm cd
 a:l0 K d5 x=some (some (.ref f))
structure FnM(K:Fg)(C:Addr)(x q:Str)(st:Stmt)(f:Addr)(pm cd:Value):Prop where
 i:FnI K x q st f pm cd
 a:c7 K (.ref C) x=some (some (.ref f))
 n:a0B K (.ref f)=true
theorem FnI.F(h:FnI K x q st f pm cd):Fun K x q st f (fdM x q st pm cd):=a6Z h.l h.c h.k
abbrev BdA(x q:Str)(st:Stmt)(ps:List Str):Prop:=∀(kV doc pm:Value) (an:Option Addr) (cdv ct:Value),a3N (fun us=>bindArgs (p8 x q (B9 st) (u4 st) (d0 st) .none kV doc pm an cdv ct) ⟨us,[]⟩=pure (ps.zip us)) ps
theorem mkC(X:K.In h)(G:h.Ns d5 mg)(g:FnG K x st f pm cd)(O:n8 P w K mg base CX0 k f (fdM x x st pm cd) ps sp)(B:BdA x x st ps):C0 P w K mg base k x ps sp:=a2q g.i.F O (j6 X G g.a) (g.i.F.binds fun _ _ _ _ _ _ us hl=>(B _ _ _ _ _ _).mp us hl)
end
section
variable {P:b8}{w:World}{K:Fg}{mg:Str->Option Value}{base:Heap}{f:Addr}{fd:o5}(T:Txt K mg)
abbrev a3p:List Str:=[b1q]
theorem a5N:l9 [b1q] a3p (d0 a1m):=by walk_at "sc"
theorem a3G:z9 [b1q] (d0 a1m) (scF [ (".0",.local),("_law_cell",.local),("abs",.globalImplicit)]) "_law_cell" := by walk_at "c0"
include T in
theorem a6J(F:Fun K b1r b1r a1m f fd):n8 P w K mg base CX0 1 f fd a3p (W3 K):=fk F a5N fun _ _ _ _ _ _ hr nd=>d4 (u0 (G9 (a5j b4 b4 b4 (a1H a3G rfl (a1F (a0G a1y (e9 0) a1E (a1D b4))) (fun _ _ _ _ _=>U0) (fun _ _ _ _ _=>l8 Z8 rfl T.a8r PyProof.Rows.boot_abs (D4 (e9 0)))))))
variable(a1v:C0 P w K mg base 1 b1r a3p (W3 K))
abbrev a0P:List Str:=[b1s,"_law_many"]
theorem a4f:l9 [b1s,"_law_many","_law_more","_law_cell","_law_value","_law_first","_law_second"] a0P (d0 a0N):=by walk_at "sc"
include T in
theorem a4J(F:Fun K b1t b1t a0N f fd):n8 P w K mg base CX0 1 f fd a0P (E4 K):=fk F a4f fun _ _ _ _ _ _ hr nd=>c6 (p6 (t9 (A3 hr) (v5 (e9 0) b4) b4) (c6 (q9 2 nd b4) (c6 (p6 (t9 a2O (v5 (e9 0) b4) (l8 Z7 rfl T.a8p PySem.boot_len (D4 (v5 (e9 0) b4)))) (c6 (q9 3 nd (v5 (v5 (e9 0) b4) (v5 (e9 0) b4))) (c6 (a1C (e9 0) b4 a3X b4 a2Q N3) (c6 (p6 (t9 a2P (e9 3) b4) (d4 (O7 (e9 3) (O8 (e9 0) b4 N3))) k9) (d4 (q9 2 nd (i9 y1 (i9 t6 (e9 3) b4) b4)))))) k9) (d4 (O7 (i9 t6 (i9 y1 (i9 E3 (v5 (e9 0) b4) b4) (e9 2)) b4) (O8 (e9 0) b4 N3))))) k9) (c6 (p6 (t9 Z6 (v5 (e9 0) b4) b4) (c6 (q9 4 nd (i9 t6 (v5 (e9 0) b4) (e9 1))) (c6 (O7 (i9 L4 (v5 (e9 0) b4) (e9 1)) (O8 (e9 0) b4 N3)) (d4 (u0 (e9 4))))) k9) (c6 (q9 5 nd (i9 t6 (i9 E3 (v5 (e9 0) b4) b4) b4)) (c6 (q9 6 nd (i9 t6 (i9 E3 (e9 5) b4) b4)) (c6 (p6 (t9 Z6 (e9 1) b4) (d4 (u0 (i9 t6 (i9 y1 (i9 E3 (e9 6) b4) (e9 5)) (e9 1)))) k9) (d4 (u0 (i9 t6 (i9 L4 (e9 6) b4) (e9 1))))))))
variable(L8:C0 P w K mg base 1 b1t a0P (E4 K))
abbrev Q6:List Str:=[b1u,b1v]
theorem a1S:l9 [b1u,b1v] Q6 (d0 Q1):=by walk_at "sc"
theorem a1T:l9 [b1w,"at"] [b1w,"at"] (d0 Q2):=by walk_at "sc"
theorem a2e(F:Fun K b1x "Wrong.__init__" Q2 f fd):n8 P w K mg base CX0 1 f fd [b1w,"at"] (j5 K "at"):=
 A4 F a1T (fun vs H Q E h=>by obtain⟨a,v,C,rfl,_⟩:=h;rfl) fun cdv A outer s H vs Q E hr h=>⟨U5 K (f7 0) (f7 1) "at",d4 (E2 (e9 0) (e9 1)),by
  obtain⟨a,v,C,rfl,h1,h2,h3,q⟩:=h
  exact⟨v,rfl,.ref a,rfl,a,C,rfl,h1,h2,h3,q⟩⟩
theorem a0g:l9 [b1w,"at"] [b1w,"at"] (d0 F9):=by walk_at "sc"
theorem a0l(F:Fun K b1x "NoThing.__init__" F9 f fd):n8 P w K mg base CX0 1 f fd [b1w,"at"] (j5 K "at"):=
 A4 F a0g (fun vs H Q E h=>by obtain⟨a,v,C,rfl,_⟩:=h;rfl) fun cdv A outer s H vs Q E hr h=>⟨U5 K (f7 0) (f7 1) "at",d4 (E2 (e9 0) (e9 1)),by
  obtain⟨a,v,C,rfl,h1,h2,h3,q⟩:=h
  exact⟨v,rfl,.ref a,rfl,a,C,rfl,h1,h2,h3,q⟩⟩
theorem a1U:l9 [b1w,"at"] [b1w,"at"] (d0 Q3):=by walk_at "sc"
theorem a2f(F:Fun K b1x "NoWay.__init__" Q3 f fd):n8 P w K mg base CX0 1 f fd [b1w,"at"] (j5 K "at"):=
 A4 F a1U (fun vs H Q E h=>by obtain⟨a,v,C,rfl,_⟩:=h;rfl) fun cdv A outer s H vs Q E hr h=>⟨U5 K (f7 0) (f7 1) "at",d4 (E2 (e9 0) (e9 1)),by
  obtain⟨a,v,C,rfl,h1,h2,h3,q⟩:=h
  exact⟨v,rfl,.ref a,rfl,a,C,rfl,h1,h2,h3,q⟩⟩
theorem a0f:l9 [b1w,b1y] [b1w,b1y] (d0 F8):=by walk_at "sc"
theorem a0k(F:Fun K b1x "TooMany.__init__" F8 f fd):n8 P w K mg base CX0 1 f fd [b1w,b1y] (j5 K b1y):=
 A4 F a0f (fun vs H Q E h=>by obtain⟨a,v,C,rfl,_⟩:=h;rfl) fun cdv A outer s H vs Q E hr h=>⟨U5 K (f7 0) (f7 1) b1y,d4 (E2 (e9 0) (e9 1)),by
  obtain⟨a,v,C,rfl,h1,h2,h3,q⟩:=h
  exact⟨v,rfl,.ref a,rfl,a,C,rfl,h1,h2,h3,q⟩⟩
section
variable {c:Cn}(ck:T6 K c)(m0:z8 P w K mg base 1 "Wrong" c.K0 [b1w,"at"] (j5 K "at"))(m1:z8 P w K mg base 1 "NoThing" c.B6 [b1w,"at"] (j5 K "at"))(m2:z8 P w K mg base 1 "NoWay" c.K5 [b1w,"at"] (j5 K "at"))(m3:z8 P w K mg base 1 "TooMany" c.B0 [b1w,b1y] (j5 K b1y))(m4:a1a K mg "NoText" c.E1)
include ck m0 m1 m2 m3 m4 in
theorem a2d(F:Fun K b1z b1z Q1 f fd):n8 P w K mg base (CX1 P w) 3 f fd Q6 (E5 c):=
 a1K F a1S (fun vs H Q E h=>by obtain⟨i,n,rfl,_⟩:=h;rfl) fun cdv A outer s H vs Q E hr h=>⟨P5 K c E,c6 (p6 (t9 (A3 hr) (e9 0) b4) (d4 (N4 m0 P0 hr (D4 (e9 1)))) k9) (c6 (p6 (t9 (A3 hr) (e9 0) b4) (d4 (N4 m1 P0 hr (D4 (e9 1)))) k9) (c6 (p6 (t9 (A3 hr) (e9 0) b4) (d4 (N4 m2 P0 hr (D4 (e9 1)))) k9) (c6 (p6 (t9 (A3 hr) (e9 0) b4) (d4 (N4 m3 P0 hr (D4 (e9 1)))) k9) (d4 (a2H m4 P0))))),by
  obtain⟨i,n,rfl,hi,k⟩:=id h
  exact a1V ck h⟩
end
abbrev X0:List Str:=["_law_thing"]
theorem a3b:l9 ["_law_thing"] X0 (d0 W5):=by walk_at "sc"
include T in
theorem a3t(F:Fun K b1A b1A W5 f fd):n8 P w K mg base CX0 1 f fd X0 (J0 K):=fk F a3b fun _ _ _ _ _ _ hr nd=>d4 (u0 (Z5 (l8 M6 rfl T.l6 d6 (y9 (e9 0) (L3 rfl T.a8q PyProof.Rows.boot_int rfl))) (Z4 (a2K (l8 M6 rfl T.l6 d6 (y9 (e9 0) (L3 rfl T.a7k PyProof.Rows.boot_bool rfl)))))))
variable(N9:C0 P w K mg base 1 b1A X0 (J0 K))
abbrev Q7:List Str:=[b1u,b1v]
theorem U4:l9 [b1u,b1v,"_law_told","e","_law_sorts"] Q7 (d0 J1):=by walk_at "sc"
theorem a0x:z9 [b1u,b1v,"_law_told","e","_law_sorts"] (d0 J1) (scF [ (".0",.local),("_law_k",.local),(b1u,.free)]) "_law_k" := by walk_at "c0"
theorem a4U:x6 b1p = some (.type "ValueError"):=by decide +kernel
section
variable {c:Cn}(ck:T6 K c)(c_raised:O0 P w K mg base 3 b1z Q6 (E5 c))(gO:mg "OnceError" = some (.ref c.z6))(xO:I0 K c.z6=true)(g0:∃u,mg "Wrong" = some u/\f6 (.ref c.K0) u)(g1:∃u,mg "NoThing" = some u/\f6 (.ref c.B6) u)(g2:∃u,mg "NoWay" = some u/\f6 (.ref c.K5) u)(g3:∃u,mg "TooMany" = some u/\f6 (.ref c.B0) u)(g4:∃u,mg "NoText" = some u/\f6 (.ref c.E1) u)
include T ck c_raised N9 gO xO g0 g1 g2 g3 g4 in
theorem a2g(F:Fun K b1B b1B J1 f fd):n8 P w K mg base CX0 4 f fd Q7 (A7 K):=
 A4 F U4 (fun vs H Q E h=>by obtain⟨i,n,rfl,_⟩:=h;rfl) fun cdv A outer s H vs Q E hr h=>⟨P6 K c,by
  have nd:=U4.nd
  exact c6 (q9 2 nd a2L) (c6 (a1A (i:=3) (th:=N6 K c) rfl rfl rfl nd rfl rfl rfl gO xO (fun EE pins xe W=>d4 (a1B (a3V W c_raised hr (y9 (e9 0) (e9 1))))) (fun pins x C dx oe hx=>c6 (q9 4 nd (G9 (a5j (l8 (v7 hx) rfl T.l6 d6 (y9 (e9 3) (y8 g0 rfl))) (l8 (v7 hx) rfl T.l6 d6 (y9 (e9 3) (y8 g1 rfl))) (l8 (v7 hx) rfl T.l6 d6 (y9 (e9 3) (y8 g2 rfl))) (l8 (v7 hx) rfl T.l6 d6 (y9 (e9 3) (y8 g3 rfl)))))) (c6 (q9 4 nd (i9 y1 (e9 4) (G9 (D4 (l8 (v7 hx) rfl T.l6 d6 (y9 (e9 3) (y8 g4 rfl))))))) (c6 (p6 (a1d (V6 (t9 (a2N hr.units0) (e9 4) (a0H hx rfl a0x rfl T.a1x (D4 b4) (fun _ _ _ _ _=>U0) (fun _ _ _ _ _=>a2M (D5 hr.units0) (e9 0) (e9 1)))) (Z0 (Z2 (Z1 (l8 (v7 hx) rfl T.l6 d6 (y9 (e9 3) (L3 rfl T.Y8 a4U rfl)))))))) (d4 (u0 a1e)) k9) (c6 (q9 2 nd (e9 1)) (c6 (p6 (a1d (V6 (t9 (D5 hr.units0) (e9 0) b4) (V6 (t9 (D5 hr.units0) (e9 0) b4) (Z0 (t9 (D5 hr.units0) (e9 0) b4))))) (d4 (q9 2 nd (U1 hx (e9 3)))) k9) (d4 (p6 (t9 (D5 hr.units0) (e9 0) b4) (d4 (q9 2 nd (U1 hx (e9 3)))) k9)))))))) (d4 (u0 (Z5 (F7 N9 hr (D4 (e9 2))) (Z4 (a2M (A3 hr) (e9 2) (e9 1))))))),by
  obtain⟨i,n,rfl,hi,k⟩:=id h
  exact a2p (E:=E) ck h⟩
end
variable(D9:C0 P w K mg base 4 b1B Q7 (A7 K))
abbrev a5u:List Str:=[b1q]
theorem a5M:l9 [b1q,b1s,"_law_numbers","_law_first","_law_k"] a5u (d0 a1l):=by walk_at "sc"
include T a1v L8 D9 in
theorem a6I(F:Fun K "law" "law" a1l f fd):n8 P w K mg base CX0 5 f fd a5u (P9 K):=fk F a5M fun _ _ _ _ _ _ hr nd=>c6 (q9 1 nd (F7 a1v hr (D4 (e9 0)))) (c6 (q9 2 nd (G9 (y9 (F7 L8 hr (y9 (e9 1) (i9 y1 (i9 a1J b4 b4) b4))) (F7 L8 hr (y9 (e9 1) b4))))) (c6 (q9 3 nd (F7 L8 hr (y9 (e9 1) b4))) (c6 (a2I PassesOwn.never rfl (Z3 rfl T.a1x (D4 b4)) (a5I 4 nd) (d4 (p6 (Z2 (Z1 (F7 D9 hr (y9 (i9 t6 (i9 y1 (e9 3) (e9 4)) b4) (v5 (e9 2) (i9 L4 (e9 4) b4)))))) (d4 (u0 a1e)) k9))) (d4 (u0 (F7 D9 hr (y9 (e9 3) (v5 (e9 2) b4))))))))
end
end
structure XcF(K:Fg)(y:Str)(C:Addr)(f:Str):Prop where
 y:l0 K d5 y=some (some (.ref C))
 xc:I0 K C=true
 sa:c7 K (.ref C) "__setattr__" = some (some (.builtin "object.__setattr__"))
 ve:V7 K C=true
 hd:M4 K C=true
 kp:l4 K (.ref C)=true
 ga:c7 K (.ref C) "__getattribute__" = some (some (.builtin "BaseException.__getattribute__"))
 gg:c7 K (.ref C) "__getattr__" = some none
 be:w6 K C (.type "BaseException")=some true
 ha:c7 K (.ref C) "__class__" = some (some (.builtin "object.__class__"))
 hn:A1 K (.builtin "object.__class__") "__get__" = some (some (.builtin "getset_descriptor.__get__"))
 tk:R8 K (.builtin "object.__class__")=some true
 ob:w6 K C (.type "object")=some true
 up:w6 K C (.ref 24)=some true
 vk:p7 K (.ref C) (.type "ValueError")=some true
 na:c7 K (.ref C) f=some none
theorem XcF.cl{K:Fg}{y f:Str}{C:Addr}(h:XcF K y C f):Y2 K C:=⟨h.xc,h.sa,h.ve,h.hd,h.kp⟩
theorem XcF.is{K:Fg}{y f:Str}{C:Addr}(h:XcF K y C f):XIs K C:=⟨⟨h.ga,h.gg,h.be⟩,h.hd,h.ha,h.hn,h.tk,h.ob⟩
structure XiF(K:Fg)(q:Str)(st:Stmt)(C f:Addr)(pm cd:Value):Prop where
 i:FnI K b1x q st f pm cd
 a:c7 K (.ref C) b1x = some (some (.ref f))
 t:PySem.W.typeIn K (.ref f)=some (.type "function")
theorem mkX{P:b8}{w:World}{K:Fg}{mg:Str->Option Value}{base h:Heap}{f C:Addr}{y q g:Str}{st:Stmt}{ps:List Str}{k:Nat}{pm cd:Value}{sp:Sp}(X:K.In h)(G:h.Ns d5 mg)(c:XcF K y C g)(i:XiF K q st C f pm cd)(O:n8 P w K mg base CX0 k f (fdM b1x q st pm cd) ps sp)(B:BdA b1x q st ps):z8 P w K mg base k y C ps sp:=
 ⟨_,_,O,j6 X G c.y,c.cl,i.a,i.t,i.i.F.binds fun _ _ _ _ _ _ us hl=>(B _ _ _ _ _ _).mp us hl⟩
theorem a9y{P:b8}{w:World}{K:Fg}{mg:Str->Option Value}{base h:Heap}{f:Addr}{x:Str}{st:Stmt}{ps:List Str}{k:Nat}{pm cd:Value}{sp:Sp}(X:K.In h)(G:h.Ns d5 mg)(g:FnG K x st f pm cd)(O:n8 P w K mg base (CX1 P w) k f (fdM x x st pm cd) ps sp)(B:BdA x x st ps):O0 P w K mg base k x ps sp:=
 ⟨_,_,O,j6 X G g.a,g.i.k,g.i.F.binds fun _ _ _ _ _ _ us hl=>(B _ _ _ _ _ _).mp us hl⟩
def a8d(K:Fg):Bool:=[44,63,101,82,113].zipIdx.all fun p=>[44,63,101,82,113].zipIdx.all fun q=>p7 K (.ref p.1) (.ref q.1) == some (decide (p.2=q.2))
theorem j9{K:Fg}(kt:a8d K=true)(p q:Addr×Nat)(hp:p∈[44,63,101,82,113].zipIdx)(hq:q∈[44,63,101,82,113].zipIdx):p7 K (.ref p.1) (.ref q.1)=some (decide (p.2=q.2)):=beq_iff_eq.mp (C8.mp (C8.mp kt p hp) q hq)
structure ClF(K:Fg)(y:Str)(C:Addr):Prop where
 y:l0 K d5 y=some (some (.ref C))
 pg:N2 K C Str.empty=true
 hd:M4 K C=true
 po:a2x K C=true
 sa:c7 K (.ref C) "__setattr__" = some (some (.builtin "object.__setattr__"))
 mm:a3R K C=true
 kc:l4 K (.ref C)=true
abbrev pm0:Value:=(.str "law_oncedone_k16_refusals_apart" 323)
theorem a7d{l:PySem.W.OpenLaw}{w:World}{K:Fg}{h:Heap}{mg:Str->Option Value}{fa:Addr}(X:K.In h)(G:h.Ns d5 mg)(hfa:mg "law" = some (.ref fa))
  (x0:FnG K b1r a1m 120 pm0 (.ref 119))
  (x1:FnG K b1t a0N 127 pm0 (.ref 126))
  (x2:FnG K b1z Q1 141 pm0 (.ref 140))
  (x3:FnG K b1A W5 134 pm0 (.ref 133))
  (x4:FnG K b1B J1 146 pm0 (.ref 145))
  (x5:FnG K "law" a1l 153 pm0 (.ref 152))
  (z_abs:l0 K d5 "abs" = some none)
  (z_bool:l0 K d5 "bool" = some none)
  (z_int:l0 K d5 "int" = some none)
  (z_isinstance:l0 K d5 "isinstance" = some none)
  (z_len:l0 K d5 "len" = some none)
  (z_range:l0 K d5 "range" = some none)
  (z_ValueError:l0 K d5 b1p = some none)
  (yO:l0 K d5 "OnceError" = some (some (.ref 24))) (xO:I0 K 24=true)
  (k0:XcF K "Wrong" 44 "at") (i0:XiF K "Wrong.__init__" Q2 44 41 (.str "oncedone.errors" 187) (.ref 40))
  (k1:XcF K "NoThing" 63 "at") (i1:XiF K "NoThing.__init__" F9 63 60 (.str "oncedone.errors" 187) (.ref 59))
  (k2:XcF K "NoWay" 101 "at") (i2:XiF K "NoWay.__init__" Q3 101 98 (.str "oncedone.errors" 187) (.ref 97))
  (k3:XcF K "TooMany" 82 b1y) (i3:XiF K "TooMany.__init__" F8 82 79 (.str "oncedone.errors" 187) (.ref 78))
  (k4:XcF K "NoText" 113 "at") (i4:c7 K (.ref 113) b1x = some (some (.builtin "ValueError.__init__")))
  (kt:a8d K=true)
  : ∃fd:o5,(∀(s:a5) (v:Value),a2F s fd ⟨[v],[]⟩ [(b1q,v)])/\∀base:Heap,K.In base->base.Ns d5 mg->n8 l.prog w K mg base CX0 5 fa fd [b1q] (P9 K):=by
 have e:=hfa.symm.trans (j6 X G x5.a)
 cases e
 have T:Txt K mg:=⟨l3 X G z_abs,l3 X G z_bool,l3 X G z_int,l3 X G z_isinstance,l3 X G z_len,l3 X G z_range,l3 X G z_ValueError⟩
 refine⟨fdM "law" "law" a1l pm0 (.ref 152),fun s v=>.of_eq rfl,fun base _ _=>?_⟩
 have a1v:=mkC X G x0 (a6J (P:=l.prog) (w:=w) (base:=base) T x0.i.F) fun _ _ _ _ _ _ _=>rfl
 have L8:=mkC X G x1 (a4J (P:=l.prog) (w:=w) (base:=base) T x1.i.F) fun _ _ _ _ _ _ _ _=>rfl
 have N9:=mkC X G x3 (a3t (P:=l.prog) (w:=w) (base:=base) T x3.i.F) fun _ _ _ _ _ _ _=>rfl
 let c:Cn:=⟨24,44,63,101,82,113⟩
 have ck:T6 K c:=by
  have hc:∀i,i<5->i=0\/i=1\/i=2\/i=3\/i=4:=fun i h=>by omega
  refine⟨fun i h=>?_,fun i h=>?_,fun i h=>?_,fun i h=>?_,fun i j h1 h2=>?_,fun i h=>?_⟩
  ·rcases hc i h with rfl | rfl | rfl | rfl | rfl
   ·exact k0.cl
   ·exact k1.cl
   ·exact k2.cl
   ·exact k3.cl
   ·exact k4.cl
  ·rcases hc i h with rfl | rfl | rfl | rfl | rfl
   ·exact k0.is
   ·exact k1.is
   ·exact k2.is
   ·exact k3.is
   ·exact k4.is
  ·rcases hc i h with rfl | rfl | rfl | rfl | rfl
   ·exact k0.na
   ·exact k1.na
   ·exact k2.na
   ·exact k3.na
   ·exact k4.na
  ·rcases hc i h with rfl | rfl | rfl | rfl | rfl
   ·exact k0.up
   ·exact k1.up
   ·exact k2.up
   ·exact k3.up
   ·exact k4.up
  ·rcases hc i h1 with rfl | rfl | rfl | rfl | rfl
   ·rcases hc j h2 with rfl | rfl | rfl | rfl | rfl
    ·exact j9 kt (44,0) (44,0) (by decide) (by decide)
    ·exact j9 kt (44,0) (63,1) (by decide) (by decide)
    ·exact j9 kt (44,0) (101,2) (by decide) (by decide)
    ·exact j9 kt (44,0) (82,3) (by decide) (by decide)
    ·exact j9 kt (44,0) (113,4) (by decide) (by decide)
   ·rcases hc j h2 with rfl | rfl | rfl | rfl | rfl
    ·exact j9 kt (63,1) (44,0) (by decide) (by decide)
    ·exact j9 kt (63,1) (63,1) (by decide) (by decide)
    ·exact j9 kt (63,1) (101,2) (by decide) (by decide)
    ·exact j9 kt (63,1) (82,3) (by decide) (by decide)
    ·exact j9 kt (63,1) (113,4) (by decide) (by decide)
   ·rcases hc j h2 with rfl | rfl | rfl | rfl | rfl
    ·exact j9 kt (101,2) (44,0) (by decide) (by decide)
    ·exact j9 kt (101,2) (63,1) (by decide) (by decide)
    ·exact j9 kt (101,2) (101,2) (by decide) (by decide)
    ·exact j9 kt (101,2) (82,3) (by decide) (by decide)
    ·exact j9 kt (101,2) (113,4) (by decide) (by decide)
   ·rcases hc j h2 with rfl | rfl | rfl | rfl | rfl
    ·exact j9 kt (82,3) (44,0) (by decide) (by decide)
    ·exact j9 kt (82,3) (63,1) (by decide) (by decide)
    ·exact j9 kt (82,3) (101,2) (by decide) (by decide)
    ·exact j9 kt (82,3) (82,3) (by decide) (by decide)
    ·exact j9 kt (82,3) (113,4) (by decide) (by decide)
   ·rcases hc j h2 with rfl | rfl | rfl | rfl | rfl
    ·exact j9 kt (113,4) (44,0) (by decide) (by decide)
    ·exact j9 kt (113,4) (63,1) (by decide) (by decide)
    ·exact j9 kt (113,4) (101,2) (by decide) (by decide)
    ·exact j9 kt (113,4) (82,3) (by decide) (by decide)
    ·exact j9 kt (113,4) (113,4) (by decide) (by decide)
  ·rcases hc i h with rfl | rfl | rfl | rfl | rfl
   ·exact k0.vk
   ·exact k1.vk
   ·exact k2.vk
   ·exact k3.vk
   ·exact k4.vk
 have m0:z8 l.prog w K mg base 1 "Wrong" 44 [b1w,"at"] (j5 K "at"):=mkX X G k0 i0 (a2e (P:=l.prog) (w:=w) (mg:=mg) (base:=base) i0.i.F) fun _ _ _ _ _ _ _ _=>rfl
 have m1:z8 l.prog w K mg base 1 "NoThing" 63 [b1w,"at"] (j5 K "at"):=mkX X G k1 i1 (a0l (P:=l.prog) (w:=w) (mg:=mg) (base:=base) i1.i.F) fun _ _ _ _ _ _ _ _=>rfl
 have m2:z8 l.prog w K mg base 1 "NoWay" 101 [b1w,"at"] (j5 K "at"):=mkX X G k2 i2 (a2f (P:=l.prog) (w:=w) (mg:=mg) (base:=base) i2.i.F) fun _ _ _ _ _ _ _ _=>rfl
 have m3:z8 l.prog w K mg base 1 "TooMany" 82 [b1w,b1y] (j5 K b1y):=mkX X G k3 i3 (a0k (P:=l.prog) (w:=w) (mg:=mg) (base:=base) i3.i.F) fun _ _ _ _ _ _ _ _=>rfl
 have m4:a1a K mg "NoText" 113:=⟨j6 X G k4.y,k4.cl,i4⟩
 have c_raised:=a9y X G x2 (a2d (base:=base) (c:=c) ck m0 m1 m2 m3 m4 x2.i.F) fun _ _ _ _ _ _ _ _=>rfl
 have D9:=mkC X G x4 (a2g (c:=c) T N9 ck c_raised (j6 X G yO) xO ⟨_,j6 X G k0.y,rfl⟩ ⟨_,j6 X G k1.y,rfl⟩ ⟨_,j6 X G k2.y,rfl⟩ ⟨_,j6 X G k3.y,rfl⟩ ⟨_,j6 X G k4.y,rfl⟩ x4.i.F) fun _ _ _ _ _ _ _ _=>rfl
 exact a6I T a1v L8 D9 x5.i.F
theorem walk{l:PySem.W.OpenLaw}{q:b8}{loose:List Str}{XP:(Str->Option Value)->Heap->Prop}{YP:World->Heap->Prop}{d:DefRec}{K:Params->Fg}(hn:l.most=some 63)(hdf:d.params.defaults=[])
  (hY:∀(w:World) (h:Heap),YP w h->(K w.params).In h)
  (F:∀(w:World) (mg:Str->Option Value) (fa:Addr) (h:Heap),(K w.params).In h->h.Ns d5 mg->mg d.name=some (.ref fa) ->
   ∃fd:o5,(∀(s:a5) (u:Value),a2F s fd ⟨[u],[]⟩ [(b1q,u)])/\∀base:Heap,(K w.params).In base->base.Ns d5 mg->n8 l.prog w (K w.params) mg base CX0 5 fa fd [b1q] (P9 (K w.params))) :
  PySem.W.WalkO q loose XP YP l.row.toRowW d [] (fun f vs=>Y7 f vs):=
 L2.a4a (n:=63) (k:=5) (x := b1q) (CX:=fun _=>CX0) (sp:=fun w=>P9 (K w.params)) hn (by decide) hdf ⟨rfl,by decide,by decide,rfl⟩ hY F (fun _ _ a ns hl hO hS=>RD.law_reading _ hl hO hS) fun _ _ _ _ _ z=>z
end PR
open PySem PySem.W PyProof.Rows
set_option maxRecDepth 100000 in
set_option maxHeartbeats 0 in
theorem PySem.Challenge.cw_oncedone_k16_refusals_apart_holds : PySem.Challenge.rw_oncedone_k16_refusals_apart.Holds := by
 refine HD.fin fun d hd hdf=>PR.walk (l:=HD.row) (K:=HD.K) rfl hdf (fun w h Y=>PySem.W.kIn_of Y) ?F
 intro w mg fa h KX G hmg
 rw[hd]at hmg
 apply PR.a7d KX G hmg <;> first | kernel_rfl | exact⟨⟨by kernel_rfl,by kernel_rfl,by kernel_rfl⟩,by kernel_rfl⟩ | exact⟨⟨by kernel_rfl,by kernel_rfl,by kernel_rfl⟩,by kernel_rfl,by kernel_rfl⟩ | exact⟨by kernel_rfl,by kernel_rfl,by kernel_rfl,by kernel_rfl,by kernel_rfl,by kernel_rfl,by kernel_rfl,by kernel_rfl,by kernel_rfl,by kernel_rfl,by kernel_rfl,by kernel_rfl,by kernel_rfl,by kernel_rfl,by kernel_rfl,by kernel_rfl⟩
