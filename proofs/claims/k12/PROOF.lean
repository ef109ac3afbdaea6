import PyProof.Rows.All
import KE.KEqDict
import KE.KDictList
import KE.KIsAll
import KE.KDictOf
import KE.KItem
import PyProof.Draws
import PyProof.EnumMake
import PyProof.ReprReads
import PyProof.CallFns
import KE.KRevSl
import Lean
import PySem.Challenge.RW_oncedone_k12_deeds_and_rows_known
open Array renaming length_toList->q9,getElem?_toList->F1
open Bool renaming false_ne_true->c7,and_eq_true->p8,false_and->z0,true_and->A1,false_eq_true->L0,eq_iff_iff->P5,or_false->a4V,and_eq_true_iff->a7P,not_eq_true'->b1A,eq_false_iff->b1B
open Int renaming emod_lt_of_pos->A8,emod_nonneg->C1
open List renaming size_toArray->b6,mem_cons->g5,length_map->g8,mem_append_right->j5,mem_cons_of_mem->l7,length_take->o9,getElem?_eq_some_iff->p9,length_append->u8,all_eq_true->u9,take_of_length_le->v9,lookup_cons->A3,map_cons->C5,not_mem_nil->D3,length_cons->D4,cons_append->D5,mem_cons_self->E3,mem_append->E5,find?_cons->E6,mem_map->F9,map_append->K8,mem_singleton->K9,length_drop->O2,range->Q8,take_add_one->T6,getElem?_map->T7,any_cons->T9,nodup_cons->X1,mem_of_getElem?->Y4,mem_append_left->Y5,take_succ_cons->a0l,length_pos_iff->a0m,filterMap_cons->a0n,drop_succ_cons->a0o,map_nil->a1e,getElem_mem->a1S,of_mem_zip->a2P,length_nil->a2Q,replicate->a3M,drop_zero->a3N,all_cons->a4U,getElem?_set_self->a6F,length_singleton->a7H,getElem?_set_ne->a7O,mem_filterMap->a9L,reverse_cons->b1z,nil_append->b3J,mem_filter->b3K,forIn_cons->b3L,append_nil->b3M,map_map->b4Y
open Nat renaming le_refl->a8,lt_of_lt_of_le->f8,le_trans->j3,ne_of_lt->o4,zero_le->y0,lt_irrefl->A2,sub_zero->a7F,le_of_lt->a7G,succ_le_succ->b3H,le_max_right->b3I,le_max_left->b3P
open Option renaming map_eq_some_iff->L5,isSome_iff_exists->R9,getD_none->a9K,map_some->b1y
open PyProof.Rows renaming boot_isinstance->c6,slot_tuple_getitem->n5,boot_str->D2,boot_tuple->F8,callWith_type1->N3,boot_bool->Q7,boot_repr->a1R,boot_int->a2f,AllBare->a2U,envOfC->a3P,subscriptTail->b1U,subscriptTail_builtinR->b3O,IntsAre->b5c
open PySem renaming Shared->b5,wpAny_bind->b9,starEach->c4,sizeLine->c9,compareOp->d9,mainGlobals->e8,wpAny_pure->f6,Program->g7,boot_len->i8,mem_of_lookup->m7,wpAny_truthy_bool->t9,Around->u6,binaryOp->y4,behindInMarks->D6,FuncData->E4,strIterType->F4,bootBuiltins->J5,assignEach->L1,wpAny_mono->O0,importedModules->P0,wpAny_newObj_type->Q1,backTo->Q9,wpAny_holding->U0,sysModules->U2,wpAny_passesOwn->U3,sliceBounds->U4,letOwnedTupleGo->U5,foldedSetIterable->Y6,DictEntry->Y7,getItem->a0p,NameKind->a0q,sizeLine_eq->a0U,holding->a1g,call_meets->a1Q,Keyword->a2T,call->a3G,wpAny_Call_Name_kw->a3O,attributeBase->a3Q,IsPart->a5Z,Operator->a7J,wpAny_execs_nil->a7Q,valueAt->a7R,swapsWith->a7S,subscripted->a7T,keywordEach->a7U,codeAny->a7V,callerA->a7W,BindsTo->a7X,assign->b1D,wpAny_callSpecial?_slot->b1T,wpAny_typeOf->b3Q,wpAny_isTrue_Compare1->b3R,tupleKind->b3S,seqIndex_neg->b3T,lastMarks->b3U,codeAny_mono->b3V,wpAny_field->b4Z,setItem->b5a,seqIndex_of->b5b
open PySem.F renaming args_tuple_add_2->R8,entry_tuple_add->T5,slot_tuple_add->U1,slot_dict_eq_refl->a2O,slot_str_eq_refl->a3H,plainAttrs_list->a3L,slot_list_repr->a4O,args_dict_eq_2->a4P,entry_dict_eq->a4S,args_str_eq_2->a4T,sub_str_dict->a5V,slot_dict_eq->a5W,entry_str_eq->a5X,slot_str_eq->a6E
open PySem.Heap renaming get?_push_of_some->c5,lt_size->c8,get?_push_size->l5,get?_update_other->a6G
open PySem.Heap.IsSliceOf renaming new->a2R
open PySem.W renaming nsIn->j6,mg_none_of->j8,kia_one->u5,keepIn->C6,findIn->C7,fnOf->F5,mg_of->G0,codeIn->X0,specialIn->a0J,methodObj->a0K,plainGet->a0V,instObj->a1O,lookIn->a2e,isFn->a4M,cellsFrom_some->a4N,plainOver->a7K,kitx_list->a7L,kitx_dict->a7M,hasDictIn->a7N,takesIn->a9I,makesIn->a9J,kitOne->b1x,mroIn->b1R
set_option Elab.async false
set_option linter.all false
set_option maxRecDepth 100000
set_option maxHeartbeats 0
abbrev Fg:=PySem.W.Frag
abbrev Nt:=List (List Nat)
theorem gI{α:Type}{l:List α}{i:Nat}{a:α}(h:l[i]?=some a):i<l.length:=(p9.mp h).1
theorem mI{α:Type}{l:List α}{i:Nat}{a:α}(h:l[i]?=some a):a∈l:=Y4 h
theorem b6c{p:Prop}[Decidable p](h:¬p):decide p=false:=decide_eq_false h
theorem b6d{p:Prop}[Decidable p](h:p):decide p=true:=decide_eq_true h
namespace L2
open PySem
def Q0(s:Stmt):Arguments:=match s with
 | .FunctionDef _ a _ _ _ _ _ _ _ _=>a
 | _=>{ posonlyargs:=[],args:=[],vararg:=none,kwonlyargs:=[],kw_defaults:=[],kwarg:=none,defaults:=[] }
def K7(s:Stmt):List Stmt:=match s with
 | .FunctionDef _ _ b _ _ _ _ _ _ _=>b
 | _=>[]
def d8(s:Stmt):Scope:=match s with
 | .FunctionDef _ _ _ _ _ _ sc _ _ _=>sc
 | _=>{ kind:=.function,names:=[],isGenerator:=false,isCoroutine:=false }
end L2
namespace HD
open PySem PySem.W L2
abbrev P:g7:=PySem.Challenge.pw_oncedone_k12_deeds_and_rows_known
def top(i:Nat):Stmt:=P.main.body.getD i (.Pass ⟨0,0,0,0⟩)
def kE(Q:Params)(n:Str)(t:Nat)(v:Value):Y7:=⟨PyData.keyHash Q n,.str n t,v⟩
def kD(es:List Y7)(n:Nat):Obj:=⟨.type "dict",none,.dict es.toArray n,#[]⟩
def kF(x qual:Str)(st:Stmt)(pm cd:Value):Obj:=⟨.type "function",none,.func (fnOf x qual (Q0 st) (K7 st) (d8 st) .none .none .none pm none cd .none),#[]⟩
def kC(n q:Str)(a b c:Nat)(i3 i4 i5 i6 i7:Int)(r8:Nat)(i10:Int)(r11 r13 r14 r15:Nat)(i16 i17:Int)(d:Nat):Obj:=⟨.type "code",none,.fields ([.str n a,.str q b,.str "/claim/cut.py" c,.int i3 0,.int i4 0,.int i5 0,.int i6 0,.int i7 0,.ref r8,.bool true,.int i10 0,.ref r11,.none,.ref r13,.ref r14,.ref r15,.int i16 0,.int i17 0,.str "/claim/cut.py" d]:List Value).toArray,([]:List (Option Value)).toArray⟩
def kN(n q:Str)(a b c:Nat)(i3 i4 i5 i6 i7:Int)(r8:Nat)(i10:Int)(r11 r15:Nat)(i16 i17:Int)(d:Nat):Obj:=⟨.type "code",none,.fields ([.str n a,.str q b,.str "/claim/cut.py" c,.int i3 0,.int i4 0,.int i5 0,.int i6 0,.int i7 0,.ref r8,.bool true,.int i10 0,.ref r11,.none,.none,.none,.ref r15,.int i16 0,.int i17 0,.str "/claim/cut.py" d]:List Value).toArray,([]:List (Option Value)).toArray⟩
abbrev m0:Value:=(.str "oncedone.words" 187)
abbrev m1:Value:=(.str "law_oncedone_k12_deeds_and_rows_known" 246)
def K1(Q:Params):Frag:=[
 (3,kD [kE Q "__name__" 165 (.str "law_oncedone_k12_deeds_and_rows_known" 246),kE Q "__doc__" 166 .none,kE Q "__package__" 167 .none,kE Q "__loader__" 168 (.builtin "__main__.__loader__#opaque"),kE Q "__spec__" 169 .none,kE Q "__annotations__" 170 (.ref 6),kE Q "__builtins__" 171 (.ref 4),kE Q "__file__" 173 (.str "/claim/cut.py" 172),kE Q "__cached__" 174 .none,kE Q "BOUND" 190 (.int (1000000000000) 189),kE Q "LETTERS" 192 (.str "abcdefghijklmnopqrstuvwxyz" 191),kE Q "FIGURES" 194 (.str "0123456789" 193),kE Q "LONGEST_NAME" 196 (.int (8) 195),kE Q "DEED_KINDS" 202 (.ref 15),kE Q "is_whole" 209 (.ref 22),kE Q "is_value" 216 (.ref 29),kE Q "is_name" 222 (.ref 34),kE Q "is_operand" 229 (.ref 41),kE Q "is_deed" 236 (.ref 48),kE Q "is_row" 245 (.ref 55),kE Q "_law_bag" 253 (.ref 60),kE Q "_law_take" 266 (.ref 67),kE Q "_law_whole" 273 (.ref 74),kE Q "_law_name" 279 (.ref 79),kE Q "_law_names" 292 (.ref 86),kE Q "_law_value" 299 (.ref 93),kE Q "_law_operand" 307 (.ref 100),kE Q "_law_deed" 318 (.ref 107),kE Q "_law_is_operand" 324 (.ref 112),kE Q "_law_is_deed" 331 (.ref 119),kE Q "_law_is_row" 342 (.ref 126),kE Q "_law_odd" 350 (.ref 133),kE Q "_law_spoilt" 360 (.ref 140),kE Q "_law_any_row" 371 (.ref 147),kE Q "_law_things" 384 (.ref 154),kE Q "_law_says" 392 (.ref 161),kE Q "law" 403 (.ref 168)] 37),
 (15,⟨(.type "tuple"),none,.seq ([(.str "plus" 197),(.str "minus" 198),(.str "times" 199),(.str "less" 200),(.str "same" 201)]:List Value).toArray 0,([]:List (Option Value)).toArray⟩),
 (21,kC "is_whole" "is_whole" 203 204 205 7 1 0 0 3 16 181 17 18 19 20 207 7 208),
 (22,kF "is_whole" "is_whole" (top 6) m0 (.ref 21)),
 (28,kC "is_value" "is_value" 210 211 212 9 1 0 0 3 23 181 24 25 26 27 214 9 215),
 (29,kF "is_value" "is_value" (top 7) m0 (.ref 28)),
 (33,kN "is_name" "is_name" 217 218 219 11 1 0 0 3 30 181 31 32 220 11 221),
 (34,kF "is_name" "is_name" (top 8) m0 (.ref 33)),
 (40,kC "is_operand" "is_operand" 223 224 225 15 1 0 0 3 35 181 36 37 38 39 227 15 228),
 (41,kF "is_operand" "is_operand" (top 9) m0 (.ref 40)),
 (47,kC "is_deed" "is_deed" 230 231 232 17 1 0 0 3 42 181 43 44 45 46 234 17 235),
 (48,kF "is_deed" "is_deed" (top 10) m0 (.ref 47))]
def b3B:List Addr:=[3,15,21,22,28,29,33,34,40,41,47,48]
def K2(Q:Params):Frag:=[
 (54,kC "is_row" "is_row" 237 238 239 21 1 0 0 3 49 181 50 51 52 53 243 21 244),
 (55,kF "is_row" "is_row" (top 11) m0 (.ref 54)),
 (59,kN "_law_bag" "_law_bag" 248 249 250 36 1 0 0 3 56 181 57 58 251 36 252),
 (60,kF "_law_bag" "_law_bag" (top 13) m1 (.ref 59)),
 (66,kC "_law_take" "_law_take" 254 255 256 38 2 0 0 3 61 181 62 63 64 65 264 38 265),
 (67,kF "_law_take" "_law_take" (top 14) m1 (.ref 66)),
 (73,kC "_law_whole" "_law_whole" 267 268 269 57 1 0 0 3 68 181 69 70 71 72 271 57 272),
 (74,kF "_law_whole" "_law_whole" (top 15) m1 (.ref 73)),
 (78,kN "_law_name" "_law_name" 274 275 276 59 1 0 0 3 75 181 76 77 277 59 278),
 (79,kF "_law_name" "_law_name" (top 16) m1 (.ref 78)),
 (85,kC "_law_names" "_law_names" 280 281 282 63 1 0 0 3 80 181 81 82 83 84 290 63 291),
 (86,kF "_law_names" "_law_names" (top 17) m1 (.ref 85))]
def b1t:List Addr:=[54,55,59,60,66,67,73,74,78,79,85,86]
def K3(Q:Params):Frag:=[
 (92,kC "_law_value" "_law_value" 293 294 295 76 1 0 0 3 87 181 88 89 90 91 297 76 298),
 (93,kF "_law_value" "_law_value" (top 18) m1 (.ref 92)),
 (99,kC "_law_operand" "_law_operand" 300 301 302 78 2 0 0 3 94 181 95 96 97 98 305 78 306),
 (100,kF "_law_operand" "_law_operand" (top 19) m1 (.ref 99)),
 (106,kC "_law_deed" "_law_deed" 308 309 310 82 2 0 0 3 101 181 102 103 104 105 316 82 317),
 (107,kF "_law_deed" "_law_deed" (top 20) m1 (.ref 106)),
 (111,kN "_law_is_operand" "_law_is_operand" 319 320 321 89 1 0 0 3 108 181 109 110 322 89 323),
 (112,kF "_law_is_operand" "_law_is_operand" (top 21) m1 (.ref 111)),
 (118,kC "_law_is_deed" "_law_is_deed" 325 326 327 95 1 0 0 3 113 181 114 115 116 117 329 95 330),
 (119,kF "_law_is_deed" "_law_is_deed" (top 22) m1 (.ref 118)),
 (125,kC "_law_is_row" "_law_is_row" 332 333 334 101 1 0 0 3 120 181 121 122 123 124 340 101 341),
 (126,kF "_law_is_row" "_law_is_row" (top 23) m1 (.ref 125))]
def b1s:List Addr:=[92,93,99,100,106,107,111,112,118,119,125,126]
def K4(Q:Params):Frag:=[
 (132,kC "_law_odd" "_law_odd" 343 344 345 116 1 0 0 3 127 181 128 129 130 131 348 116 349),
 (133,kF "_law_odd" "_law_odd" (top 24) m1 (.ref 132)),
 (139,kC "_law_spoilt" "_law_spoilt" 351 352 353 120 2 0 0 3 134 181 135 136 137 138 358 120 359),
 (140,kF "_law_spoilt" "_law_spoilt" (top 25) m1 (.ref 139)),
 (146,kC "_law_any_row" "_law_any_row" 361 362 363 130 2 0 0 3 141 181 142 143 144 145 369 130 370),
 (147,kF "_law_any_row" "_law_any_row" (top 26) m1 (.ref 146)),
 (153,kC "_law_things" "_law_things" 372 373 374 135 1 0 0 3 148 181 149 150 151 152 382 135 383),
 (154,kF "_law_things" "_law_things" (top 27) m1 (.ref 153)),
 (160,kC "_law_says" "_law_says" 385 386 387 144 2 0 0 3 155 181 156 157 158 159 390 144 391),
 (161,kF "_law_says" "_law_says" (top 28) m1 (.ref 160)),
 (167,kC "law" "law" 393 394 395 146 1 0 0 3 162 181 163 164 165 166 401 146 402),
 (168,kF "law" "law" (top 29) m1 (.ref 167))]
def b1r:List Addr:=[132,133,139,140,146,147,153,154,160,161,167,168]
def K(Q:Params):Frag:=K1 Q++(K2 Q++(K3 Q++K4 Q))
def adr:List Addr:=b3B++(b1t++(b1s++b1r))
def q:g7:=view P [29]
def loose:List Str:=(["BOUND","LETTERS","FIGURES","LONGEST_NAME","DEED_KINDS","is_whole","is_value","is_name","is_operand","is_deed","is_row","_law_bag","_law_take","_law_whole","_law_name","_law_names","_law_value","_law_operand","_law_deed","_law_is_operand","_law_is_deed","_law_is_row","_law_odd","_law_spoilt","_law_any_row","_law_things","_law_says"]:List String).map Str.ofString
theorem a9j{p q:g7}{loose:List Str}{Xt:b5->Bool}{α:Type}{Yf:b5->α}{Ya:World->α}{N m₀:Nat}{ann:Option Value}(e:opening p=plainProg p.main.scope.names)(hN:Nat.ble 600 N=true)(f:∀s,fenceModules? p s=some s)
  (size:∀w:World,((boot_heap w.params).isNs e8,(boot_heap w.params).objs.size,(boot_heap w.params).nsMap e8 "__annotations__")=(true,m₀,ann))
  {r:World->OsState->Option b5} (hr:∀w os x,r w os=some x->topRun treeTable p w m₀ ann N ⟨boot_heap w.params,Array.mk [],boot_drawn,boot_toks,os⟩ (topStub p)=some x)
  (ra:∀w os,(r w os).map (fun s₁=>staticsOk (P0 p.main.body) (boot_heap w.params) s₁.heap&&namesBound p s₁.heap&&gensDone s₁&&laidKept (boot_heap w.params) s₁.heap)=some true)
  (rb:∀w os,(r w os).map (openSeen q loose (P0 p.main.body) Xt true)=some (openGood q loose))
  (rc:∀w os,(r w os).map Yf=some (Ya w)) :
  LeftO p q loose Xt Yf Ya N:=fun w=>by
 obtain⟨⟨h,gs,d,k,os⟩,e1,e2⟩:=L5.mp (boot_open e hN f w)
 obtain⟨rfl,rfl,rfl,rfl⟩:h=boot_heap w.params/\gs=Array.mk []/\d=boot_drawn/\k=boot_toks:=by simpa using e2
 obtain⟨z1,z2,z3⟩:_/\_/\_:=by simpa only[Prod.mk.injEq]using size w
 obtain⟨s₁,r1,r3⟩:=L5.mp (ra w os)
 have rb:=rb w os
 have rc:=rc w os
 rw[r1]at rb rc
 have r1:=hr w os _ r1
 have r4:(openSeen q loose (P0 p.main.body) Xt true s₁,Yf s₁)=(openGood q loose,Ya w):=Prod.ext (Option.some.inj rb) (Option.some.inj rc)
 have t:topFrom treeTable p w N ⟨boot_heap w.params,Array.mk [],boot_drawn,boot_toks,os⟩=some s₁:=by
  unfold topFrom
  dsimp only
  rw[z1,z2,z3,r1]
  show(match staticsOk (P0 p.main.body) (boot_heap w.params) s₁.heap&&namesBound p s₁.heap&&gensDone s₁&&laidKept (boot_heap w.params) s₁.heap with | true=>some s₁ | false=>none)=_
  rw[r3]
 unfold openEnds
 rw[e1]
 show(topFrom treeTable p w N _).map _=_
 rw[t]
 exact congrArg some r4
abbrev a2a:Hook:=kHook K adr (fun _=>by kernel_rfl)
abbrev row:OpenLaw:=PySem.Challenge.rw_oncedone_k12_deeds_and_rows_known
def kZ(x q:Str)(st:Stmt):Obj:=⟨.none,none,.func { fnOf x q (Q0 st) (K7 st) (d8 st) .none .none .none .none none .none .none with globals:=0 },#[]⟩
def kS(xs:List Value)(n:Nat):Obj:=⟨.type "tuple",none,.seq xs.toArray n,([]:List (Option Value)).toArray⟩
noncomputable section
def kk(a:Addr)(Q:Params):Obj:=((K Q).lookup a).getD (boot_o_4 Q)
def h1(Q:Params):List Obj:=[
boot_o_0 Q,
boot_o_1 Q,
boot_o_2 Q,
kD [kE Q "__name__" 165 (.str "law_oncedone_k12_deeds_and_rows_known" 246),kE Q "__doc__" 166 .none,kE Q "__package__" 167 .none,kE Q "__loader__" 168 (.builtin "__main__.__loader__#opaque"),kE Q "__spec__" 169 .none,kE Q "__annotations__" 170 (.ref 6),kE Q "__builtins__" 171 (.ref 4),kE Q "__file__" 173 (.str "/claim/cut.py" 172),kE Q "__cached__" 174 .none,kE Q "BOUND" 190 (.int (1000000000000) 189),kE Q "LETTERS" 192 (.str "abcdefghijklmnopqrstuvwxyz" 191),kE Q "FIGURES" 194 (.str "0123456789" 193),kE Q "LONGEST_NAME" 196 (.int (8) 195),kE Q "DEED_KINDS" 202 (.ref 15),kE Q "is_whole" 209 (.ref 22),kE Q "is_value" 216 (.ref 29),kE Q "is_name" 222 (.ref 34),kE Q "is_operand" 229 (.ref 41),kE Q "is_deed" 236 (.ref 48),kE Q "is_row" 245 (.ref 55),kE Q "_law_bag" 253 (.ref 60),kE Q "_law_take" 266 (.ref 67)] 22,
boot_o_4 Q,
boot_o_5 Q,
boot_o_6 Q,
boot_o_7 Q,
boot_o_8 Q,
boot_o_9 Q,
boot_o_10 Q,
kS [] 0,
⟨.none,none,.fields ([(.int (7) 0),(.int (0) 0),(.ref 21),(.int (9) 0),(.int (0) 0),(.ref 28),(.int (11) 0),(.int (0) 0),(.ref 33),(.int (15) 0),(.int (0) 0),(.ref 40),(.int (17) 0),(.int (0) 0),(.ref 47),(.int (21) 0),(.int (0) 0),(.ref 54),(.int (36) 0),(.int (0) 0),(.ref 59),(.int (38) 0),(.int (0) 0),(.ref 66)]:List Value).toArray,([]:List (Option Value)).toArray⟩,
⟨(.type "code"),none,.fields ([(.str "<module>" 182),(.str "<module>" 183),(.str "/claim/cut.py" 184),(.int (1) 0),(.int (0) 0),(.int (0) 0),(.int (0) 0),(.int (0) 0),(.ref 11),(.bool false),(.int (181) 0),(.ref 12),.none,.none,.none,.none,(.int (185) 0),(.int (1) 0),(.str "/claim/cut.py" 186)]:List Value).toArray,([]:List (Option Value)).toArray⟩,
⟨(.type "frame"),none,.plain,([some (.ref 13),some (.ref 3),some (.ref 3),none,some (.str "__main__" 164),none,some (.ref 0)]:List (Option Value)).toArray⟩,
kk 15 Q,
kS [] 0,
⟨.none,none,.fields ([]:List Value).toArray,([]:List (Option Value)).toArray⟩,
kS [(.str "thing" 206)] 0,
kS [] 0,
kZ "is_whole" "is_whole" (top 6),
kk 21 Q,
kk 22 Q,
kS [] 0,
⟨.none,none,.fields ([]:List Value).toArray,([]:List (Option Value)).toArray⟩,
kS [(.str "thing" 213)] 0,
kS [] 0,
kZ "is_value" "is_value" (top 7),
kk 28 Q,
kk 29 Q,
kS [] 0,
⟨.none,none,.fields ([]:List Value).toArray,([]:List (Option Value)).toArray⟩,
kZ "is_name" "is_name" (top 8),
kk 33 Q,
kk 34 Q,
kS [] 0,
⟨.none,none,.fields ([]:List Value).toArray,([]:List (Option Value)).toArray⟩,
kS [(.str "thing" 226)] 0,
kS [] 0,
kZ "is_operand" "is_operand" (top 9),
kk 40 Q,
kk 41 Q,
kS [] 0,
⟨.none,none,.fields ([]:List Value).toArray,([]:List (Option Value)).toArray⟩,
kS [(.str "thing" 233)] 0,
kS [] 0,
kZ "is_deed" "is_deed" (top 10),
kk 47 Q,
kk 48 Q,
kS [] 0,
⟨.none,none,.fields ([]:List Value).toArray,([]:List (Option Value)).toArray⟩,
kS [(.str "thing" 240),(.str "kind" 241),(.str "rest" 242)] 0,
kS [] 0,
kZ "is_row" "is_row" (top 11),
kk 54 Q,
kk 55 Q,
kS [] 0,
⟨.none,none,.fields ([]:List Value).toArray,([]:List (Option Value)).toArray⟩,
kZ "_law_bag" "_law_bag" (top 13),
kk 59 Q,
kk 60 Q,
kS [] 0,
⟨.none,none,.fields ([]:List Value).toArray,([]:List (Option Value)).toArray⟩,
kS [(.str "_law_bag_here" 257),(.str "_law_many" 258),(.str "_law_more" 259),(.str "_law_cell" 260),(.str "_law_value_here" 261),(.str "_law_first" 262),(.str "_law_second" 263)] 0,
kS [] 0,
kZ "_law_take" "_law_take" (top 14),
kk 66 Q,
kk 67 Q]
abbrev bd:List Stmt:=behindTheImports P
abbrev en:Env:={ scope:=P.main.scope,locals:=mainNs,globals:=mainNs,cells:=[],code:=(.ref 13),frame:=some 14 }
abbrev cE:Code:=.body bd en
abbrev fB:List Frame:=[topFrame ⟨0,0,0,0⟩]
abbrev s0(w:World)(os:OsState):b5:=⟨boot_heap w.params,Array.mk [],boot_drawn,boot_toks,os⟩
def sa(w:World)(os:OsState):b5:=((topGo treeTable P w 11 (some (.ref 6)) 12 (s0 w os) (topStub P)).map (·.1)).getD (s0 w os)
abbrev s1(w:World)(os:OsState):b5:=⟨⟨Array.mk (h1 w.params),(boot_heap w.params).life⟩,Array.mk [],boot_drawn,267,os⟩
abbrev rn(w:World)(os:OsState):Option b5:=PySem.W.Fast.tw14082659384304107361 PySem.W.Fast.tw14364793385576792824 P w 11 (some (.ref 6)) 1941 (s1 w os) (restOf (bd.drop 15) en cE ⟨38,0,56,39⟩ fB)
end
theorem b5v(w:World)(os:OsState):topGo treeTable P w 11 (some (.ref 6)) 12 (s0 w os) (topStub P)=some (sa w os,⟨denote treeTable cE,cE,⟨0,0,0,0⟩,fB⟩):=by kernel_rfl
theorem b5u(w:World)(os:OsState):segRun treeTable P w 11 (some (.ref 6)) 1 1 (sa w os) (blockOf bd en cE ⟨0,0,0,0⟩ fB)=some (.next,sa w os,cE,⟨0,0,0,0⟩):=by kernel_rfl
theorem b5t(w:World)(os:OsState):segRun treeTable P w 11 (some (.ref 6)) 1 304 (sa w os) (piecesOf (bd.take 15) en cE ⟨0,0,0,0⟩ fB)=some (.next,s1 w os,cE,⟨38,0,56,39⟩):=by kernel_rfl
theorem b5s(w:World)(os:OsState)(x:b5)(h:rn w os=some x):topRun treeTable P w 11 (some (.ref 6)) 2258 (s0 w os) (topStub P)=some x:=by
 have h:topRun treeTable P w 11 (some (.ref 6)) 1941 (s1 w os) (restOf (bd.drop 15) en cE ⟨38,0,56,39⟩ fB)=some x:=by rw[PySem.W.Fast.te14082659384304107361,PySem.W.Fast.te14364793385576792824];exact h
 have h:=piece_app (b5t w os) h
 rw[List.take_append_drop]at h
 exact go_top (b5v w os) (piece_block (b5u w os) h)
theorem b3i(w:World)(os:OsState):(rn w os).map (fun s₁=>staticsOk (P0 P.main.body) (boot_heap w.params) s₁.heap&&namesBound P s₁.heap&&gensDone s₁&&laidKept (boot_heap w.params) s₁.heap)=some true:=by kernel_rfl
theorem b3h(w:World)(os:OsState):(rn w os).map (PySem.W.Fast.tw4187177175401517315 q loose (P0 P.main.body) (fun s=>xlAt q [] s&&recOk (RowW.records row.row.toRowW) s) true)=some (openGood q loose):=by kernel_rfl
theorem b1g(w:World)(os:OsState):(rn w os).map (fun s=>b3B.map s.heap.get?)=some ((K1 w.params).map fun p=>some p.2):=by kernel_rfl
theorem b1f(w:World)(os:OsState):(rn w os).map (fun s=>b1t.map s.heap.get?)=some ((K2 w.params).map fun p=>some p.2):=by kernel_rfl
theorem b1e(w:World)(os:OsState):(rn w os).map (fun s=>b1s.map s.heap.get?)=some ((K3 w.params).map fun p=>some p.2):=by kernel_rfl
theorem b1d(w:World)(os:OsState):(rn w os).map (fun s=>b1r.map s.heap.get?)=some ((K4 w.params).map fun p=>some p.2):=by kernel_rfl
theorem b3g(w:World)(os:OsState):(rn w os).map (Hook.obs a2a)=some (Hook.val a2a w):=by
 obtain⟨s,h1,h2⟩:=L5.mp (b1g w os)
 have h3:=b1f w os
 have h4:=b1e w os
 have h5:=b1d w os
 rw[h1]at h3 h4 h5 ⊢
 have h3:b1t.map s.heap.get? = _:=Option.some.inj h3
 have h4:b1s.map s.heap.get? = _:=Option.some.inj h4
 have h5:b1r.map s.heap.get? = _:=Option.some.inj h5
 show some ((b3B++(b1t++(b1s++b1r))).map s.heap.get?)=some ((K1 w.params++(K2 w.params++(K3 w.params++K4 w.params))).map fun p=>some p.2)
 rw[K8,K8,K8,K8,K8,K8,h2,h3,h4,h5]
theorem left:LeftO P q loose (fun s=>xlAt q [] s&&recOk (RowW.records row.row.toRowW) s) (Hook.obs a2a) (Hook.val a2a) 2258:=
 a9j (m₀:=11) (ann:=(some (.ref 6))) (r:=rn) (by kernel_rfl) (by kernel_rfl) (fun s=>by kernel_rfl) (fun w=>by kernel_rfl) b5s b3i (by rw[PySem.W.Fast.te4187177175401517315];exact b3h) b3g
theorem b3Z:row.wellSaid=true:=by
 rw[PySem.W.Fast.te9446332074065402090]
 kernel_rfl
theorem fin(hc:∀d:DefRec,d.name = "law" -> d.params.defaults=[]->WalkO q loose (XL q []) (Hook.says a2a) row.row.toRowW d [] (fun f vs=>a3G f vs)):row.Holds:=by
 refine holds_law (l:=row) b3Z fun said=>?_
 refine holds_open (q:=q) (loose:=loose) (Xt:=fun s=>xlAt q [] s&&recOk (RowW.records row.row.toRowW) s) (XP:=XL q []) (Yf:=Hook.obs a2a) (Ya:=Hook.val a2a) (YP:=Hook.says a2a) (N:=2258) left (Hook.of a2a) (Hook.keeps a2a) (fun s e=>xl_of s (a7P.mp e).1) XL.keeps (by rfl) (by rfl) (by rfl) (fun s e=>recFacts_of (a7P.mp e).2) (by rfl) said (by decide +kernel) ⟨rfl,rfl,rfl,rfl,rfl,by decide +kernel⟩ ?hw (hc _ rfl rfl)
 case hw=>w_witness2
end HD
set_option Elab.async false
set_option linter.all false
set_option maxRecDepth 100000
namespace L2
open PySem PySem.Spec PyProof.Rows
variable{us:List Value}{i t':Nat}{x:Str}{u:Value}{C a b dx f:Addr}{w:World}{h h':Heap}{pins:List (Addr×Obj)}{s:b5}{e tg:Expr}{p pos:Pos}{Q:Value->b5->Prop}{es:List Expr}{ps:List Str}{m:Str->Option Value}
abbrev Key:=Sum Int Str
def a2A:Key->Value->Bool
 | .inl k,v=>Value.isInt k v
 | .inr x,v=>Value.isStrOf x v
def b5q(w:World):Key->Int
 | .inl k=>hashInt k
 | .inr x=>hashStr w x
theorem A6:∀ {k:Key} {v:Value},a2A k v=true->(∃i t,k=Sum.inl i/\v=Value.int i t)\/(∃x t,k=Sum.inr x/\v=Value.str x t)
 | .inl i,v,h=>by
  obtain⟨t,e⟩:=Value.isInt_shape (k:=i) (v:=v) h
  exact .inl ⟨i,t,rfl,e⟩
 | .inr x,v,h=>by
  obtain⟨t,e⟩:=Value.isStrOf_shape (x:=x) (v:=v) h
  exact .inr ⟨x,t,rfl,e⟩
theorem a7o(i:Int)(t:Tok):a2A (.inl i) (.int i t)=true:=by simp[a2A,Value.isInt]
theorem a7n(x:Str)(t:Tok):a2A (.inr x) (.str x t)=true:=by simp[a2A,Value.isStrOf]
theorem b3n(a b:Int):decide ((Sum.inl a:Key)=Sum.inl b)=(a == b):=by
 by_cases e:a=b
 ·subst e;simp
 ·have h:¬(Sum.inl a:Key)=Sum.inl b:=fun q=>e (Sum.inl.inj q)
  rw[b6c h]
  exact(beq_eq_false_iff_ne.mpr e).symm
theorem b3k(a b:Str):decide ((Sum.inr a:Key)=Sum.inr b)=decide (a=b):=by
 by_cases e:a=b
 ·subst e;simp
 ·have h:¬(Sum.inr a:Key)=Sum.inr b:=fun q=>e (Sum.inr.inj q)
  rw[b6c h,b6c e]
theorem b3m(a:Int)(b:Str):decide ((Sum.inl a:Key)=Sum.inr b)=false:=b6c (fun q=>nomatch q)
theorem b3l(a:Str)(b:Int):decide ((Sum.inr a:Key)=Sum.inl b)=false:=b6c (fun q=>nomatch q)
def E1(prog:g7)(w:World):PySem.KeyKind prog w Key where
 is:=a2A
 hash:=b5q w
 inj:=fun v a b ha hb=>by
  rcases A6 ha with ⟨i,t,rfl,rfl⟩ | ⟨x,t,rfl,rfl⟩
  ·rcases A6 hb with ⟨j,u,rfl,e⟩ | ⟨y,u,rfl,e⟩
   ·injection e with e1 _;rw[e1]
   ·exact nomatch e
  ·rcases A6 hb with ⟨j,u,rfl,e⟩ | ⟨y,u,rfl,e⟩
   ·exact nomatch e
   ·injection e with e1 _;rw[e1]
 byValue:=fun k v h=>by
  rcases A6 h with ⟨i,t,rfl,rfl⟩ | ⟨x,t,rfl,rfl⟩ <;> rfl
 pyHash:=fun hv h=>by
  rcases A6 hv with ⟨i,t,rfl,rfl⟩ | ⟨x,t,rfl,rfl⟩
  ·exact wpAny_pyHash_int h
  ·exact wpAny_pyHash_str h
 eqBool:=fun hu hv h=>by
  rcases A6 hu with ⟨i,t,rfl,rfl⟩ | ⟨x,t,rfl,rfl⟩
  ·rcases A6 hv with ⟨j,u,rfl,rfl⟩ | ⟨y,u,rfl,rfl⟩
   ·rw[b3n]at h;exact wpAny_eqBool_int h
   ·rw[b3m]at h;exact SeqAt.EqAt.int_str i t y u _ _ _ _ h
  ·rcases A6 hv with ⟨j,u,rfl,rfl⟩ | ⟨y,u,rfl,rfl⟩
   ·rw[b3l]at h;exact SeqAt.EqAt.str_int x t j u _ _ _ _ h
   ·rw[b3k]at h;exact wpAny_eqBool_str h
 «strs» := fun k x t v h=>by
  rcases A6 h with ⟨i,u,rfl,e⟩ | ⟨y,u,rfl,e⟩
  ·exact nomatch e
  ·injection e with e1 _
   subst e1
   cases v <;> rfl
theorem a4z(prog:g7)(w:World)(i:Int)(t:Tok):(E1 prog w).is (.inl i) (.int i t)=true:=a7o i t
theorem a4y(prog:g7)(w:World)(x:Str)(t:Tok):(E1 prog w).is (.inr x) (.str x t)=true:=a7n x t
inductive V where
 | non | bl (b:Bool) | int (i:Int) | str (x:Str) | byt (b:Array UInt8) | flt (b:UInt64) | ref (a:Addr) | ty (n:String)
 deriving DecidableEq
variable{v y:V}{xs:List V}{kvs:List (Key×V)}
def m3:V->Value->Prop
 | .non,u=>u=Value.none
 | .bl b,u=>u=Value.bool b
 | .int i,u=>∃t,u=Value.int i t
 | .str x,u=>∃t,u=Value.str x t
 | .byt b,u=>∃t,u=Value.bytes b t
 | .flt b,u=>∃t,u=Value.float b t
 | .ref a,u=>u=Value.ref a
 | .ty n,u=>u=Value.type n
abbrev o3:List V->List Value->Prop:=Paired m3
theorem o3.length(r:o3 xs us):xs.length=us.length:=Paired.length r
theorem o3.get:∀ {xs:List V} {us:List Value} {i:Nat} {x:V},o3 xs us->xs[i]? = some x->∃u,us[i]? = some u/\m3 x u
 | _,_,_,_,.nil,e=>by simp at e
 | _,_,0,_,.cons r _,e=>by simp at e;subst e;exact⟨_,rfl,r⟩
 | _,_,i+1,x,.cons _ t,e=>by
  obtain⟨u,h1,h2⟩:=o3.get (i:=i) (x:=x) t (by simpa using e)
  exact⟨u,by simpa using h1,h2⟩
theorem o3.set{x:V}(r:m3 x u):∀ {xs:List V} {us:List Value} (i:Nat),o3 xs us->o3 (xs.set i x) (us.set i u)
 | _,_,_,.nil=>.nil
 | _,_,0,.cons _ t=>.cons r t
 | _,_,i+1,.cons q t=>.cons q (o3.set r i t)
theorem o3.append:∀ {xs ys:List V} {us ws:List Value},o3 xs us->o3 ys ws->o3 (xs++ys) (us++ws)
 | _,_,_,_,.nil,s=>s
 | _,_,_,_,.cons r t,s=>.cons r (o3.append t s)
theorem o3.take:∀ {xs:List V} {us:List Value} (n:Nat),o3 xs us->o3 (xs.take n) (us.take n)
 | _,_,0,_=>.nil
 | _,_,_+1,.nil=>.nil
 | _,_,n+1,.cons r t=>.cons r (o3.take n t)
theorem o3.drop:∀ {xs:List V} {us:List Value} (n:Nat),o3 xs us->o3 (xs.drop n) (us.drop n)
 | _,_,0,r=>r
 | _,_,_+1,.nil=>.nil
 | _,_,n+1,.cons _ t=>o3.drop n t
def a1M:Option V->Option Value->Prop
 | some v,some u=>m3 v u
 | none,none=>True
 | _,_=>False
def KV{κ:Type}:List (κ×V)->List (κ×Value)->Prop:=Paired fun(p:κ×V) (q:κ×Value)=>p.1=q.1/\m3 p.2 q.2
def kV:Key->V
 | .inl i=>.int i
 | .inr x=>.str x
inductive HO where
 /-- a list -/
 | lst (xs:List V)
 /-- a tuple (never changes) -/
 | tup (xs:List V)
 /-- a dict whose keys are ints and texts;one whose keys are tuples of ints and texts (the empty one is both) -/
 | dK (kvs:List (Key×V)) | dT (kvs:List (List Key×V))
 /-- a set of ints: its members,its size -/
 | set (S:Int->Bool) (n:Nat)
 /-- an instance of the class at C,its dict at dx,its attributes -/
 | ins (C dx:Addr) (fs:List (Str×V))
 /-- the dict of the instance at x -/
 | own (x:Addr)
 /-- the dict of an exception -/
 | xd (fs:List (Str×V))
 /-- a bound method,f of x -/
 | met (f x:Addr)
 /-- a range object lo,lo+1,.. below hi -/
 | rng (lo hi:Int)
 /-- a thing that is known to the object (the script;a dict while a loop walks it): read,never written while it is so -/
 | frz (o:Obj) (u:HO)
 /-- a code object's table -/
 | tbl (ps:Array Value)
 /-- any other thing,by what is true of its one object (a def of one's own: SetO a S n:=HO.ext fun h=>..) -/
 | ext (φ:Heap->Prop)
variable{o:HO}
abbrev Hp:=Addr->Option HO
variable{H H':Hp}
def upd(H:Hp)(a:Addr)(o:HO):Hp:=fun b=>if b=a then some o else H b
theorem j4:upd H a o a=some o:=by unfold upd;rw[if_pos rfl]
theorem u0(h:b≠a):upd H a o b=H b:=by unfold upd;rw[if_neg h]
theorem a0X{u:HO}:upd (upd H a o) a u=upd H a u:=by
 funext b;unfold upd;split <;> rfl
theorem a9g{u:HO}(h:H a=some o)(h':H b=some u)(d:o≠u):a≠b:=by
 intro e;subst e;rw[h]at h';exact d (Option.some.inj h')
theorem o0(h:H a=some o)(h':H b=none):a≠b:=by
 intro e;subst e;rw[h]at h';cases h'
section
variable (P:g7)(w:World)
def A7(H:Hp)(h:Heap)(a:Addr):HO->Prop
 | .lst xs=>xs.length<=c9/\∃(its:List Value) (n:Nat),o3 xs its/\h.get? a=some { cls:=.type "list",data:=.seq its.toArray n }
 | .tup xs=>xs.length<=c9/\∃its:List Value,o3 xs its/\IsTup h a its.toArray
 | .dK kvs=>kvs.length<=c9/\(a == U2)=false/\∃vs,KV kvs vs/\h.DictOf (E1 P w) a vs
 | .dT kvs=>kvs.length<=c9/\(a == U2)=false/\∃xs:List (List Key×Addr×Value),
   Paired (fun(p:List Key×V) (q:List Key×Addr×Value)=>p.1=q.1/\H q.2.1=some (.tup (p.1.map kV))/\m3 p.2 q.2.2) kvs xs /\
   ∃o es ep,h.get? a=some o/\o.ExactDict/\o.data=.dict es ep/\es.toList=xs.map (entryOfKey (b3S (E1 P w)))/\(xs.map (·.1)).Nodup
 | .set S n=>h.SetOf (intKind P w) a S n
 | .ins C dx fs=>H dx=some (.own a)/\fs.length<=1000/\dx≠a/\h.get? a=some (a1O C dx) /\
   ∃mA,h.Ns1 dx mA/\(∀f,a1M (fs.lookup f) (mA f))/\PySem.Within mA (fs.map (·.1))
 | .own _=>∃o,h.get? a=some o
 | .xd fs=>∃mA,h.Ns1 a mA/\∀f,a1M (fs.lookup f) (mA f)
 | .rng lo hi=>∃t u v,h.get? a=some { cls:=.type "range",data:=.fields #[.int lo t,.int hi u,.int 1 v] }
 | .frz o u=>h.get? a=some o/\A7 H h a u
 | .tbl ps=>h.get? a=some { cls:=.none,data:=.fields ps }
 | .met f x=>h.get? a=some (a0K (.ref f) (.ref x))
 | .ext φ=>φ h/\(∃o,h.get? a=some o)/\∀h1 h2:Heap,φ h1->(∀o,h1.get? a=some o->h2.get? a=some o)->φ h2
def HOk(H:Hp)(h:Heap):Prop:=∀a o,H a=some o->A7 P w H h a o
end
section
variable {P:g7}
theorem A7.lt(x:A7 P w H h a o):a<h.objs.size:=by
 cases o with
 | lst xs=>obtain⟨_,_,_,_,e⟩:=x;exact c8 e
 | tup xs=>obtain⟨_,_,_,p⟩:=x;exact p.lt
 | dK kvs=>obtain⟨_,_,_,_,o,_,_,e,_⟩:=x;exact c8 e
 | dT kvs=>obtain⟨_,_,_,_,o,_,_,e,_⟩:=x;exact c8 e
 | set S n=>obtain⟨o,_,_,_,e,_⟩:=x;exact c8 e
 | ins C dx fs=>obtain⟨_,_,_,e,_⟩:=x;exact c8 e
 | own y=>obtain⟨_,e⟩:=x;exact c8 e
 | xd fs=>obtain⟨_,⟨_,_,_,e,_⟩,_⟩:=x;exact c8 e
 | rng lo hi=>obtain⟨_,_,_,e⟩:=x;exact c8 e
 | frz ob u=>obtain⟨e,_⟩:=x;exact c8 e
 | tbl ps=>exact c8 (show h.get? a=some _ from x)
 | met f y=>exact c8 (show h.get? a=some _ from x)
 | ext φ=>obtain⟨_,⟨_,e⟩,_⟩:=x;exact c8 e
theorem Paired.mapP{α β:Type}{F G:α->β->Prop}:∀ {l₁:List α} {l₂:List β},Paired F l₁ l₂->(∀a b,F a b->G a b)->Paired G l₁ l₂
 | _,_,.nil,_=>.nil
 | _,_,.cons r t,f=>.cons (f _ _ r) (Paired.mapP t f)
theorem A7.stay(x:A7 P w H h a o)(k:∀b u,(b=a\/H b=some (.own a))->h.get? b=some u->h'.get? b=some u)
  (ho:∀b,H b=some (.own a)->H' b=some (.own a)) (ht:∀b xs,H b=some (.tup xs)->H' b=some (.tup xs)):A7 P w H' h' a o:=by
 induction o with
 | lst xs=>obtain⟨z,its,n,r,e⟩:=x;exact⟨z,its,n,r,k _ _ (.inl rfl) e⟩
 | tup xs=>obtain⟨z,its,r,ob,e,c⟩:=x;exact⟨z,its,r,ob,k _ _ (.inl rfl) e,c⟩
 | dK kvs=>obtain⟨z,y,vs,r,ob,es,ep,e,c⟩:=x;exact⟨z,y,vs,r,ob,es,ep,k _ _ (.inl rfl) e,c⟩
 | dT kvs=>
  obtain⟨z,y,xs,r,ob,es,ep,e,c⟩:=x
  exact⟨z,y,xs,Paired.mapP r fun p q z=>⟨z.1,ht _ _ z.2.1,z.2.2⟩,ob,es,ep,k _ _ (.inl rfl) e,c⟩
 | set S n=>obtain⟨ob,es,ep,t,e,c⟩:=x;exact⟨ob,es,ep,t,k _ _ (.inl rfl) e,c⟩
 | ins C dx fs=>
  obtain⟨d,z,ne,e,mA,⟨od,es,ep,e2,c⟩,r⟩:=x
  exact⟨ho _ d,z,ne,k _ _ (.inl rfl) e,mA,⟨od,es,ep,k _ _ (.inr d) e2,c⟩,r⟩
 | own y=>obtain⟨ob,e⟩:=x;exact⟨ob,k _ _ (.inl rfl) e⟩
 | xd fs=>obtain⟨mA,⟨od,es,ep,e,c⟩,r⟩:=x;exact⟨mA,⟨od,es,ep,k _ _ (.inl rfl) e,c⟩,r⟩
 | rng lo hi=>obtain⟨t,u,v,e⟩:=x;exact⟨t,u,v,k _ _ (.inl rfl) e⟩
 | frz ob u ih=>obtain⟨e,q⟩:=x;exact⟨k _ _ (.inl rfl) e,ih q⟩
 | tbl ps=>
  have e:h.get? a=some { cls:=.none,data:=.fields ps }:=x
  show h'.get? a=some { cls:=.none,data:=.fields ps }
  exact k a _ (.inl rfl) e
 | met f y=>
  have e:h.get? a=some (a0K (.ref f) (.ref y)):=x
  show h'.get? a=some (a0K (.ref f) (.ref y))
  exact k a _ (.inl rfl) e
 | ext φ=>obtain⟨p,⟨o,e⟩,st⟩:=x;exact⟨st _ _ p fun o q=>k _ _ (.inl rfl) q,⟨o,k _ _ (.inl rfl) e⟩,st⟩
theorem HOk.lt(x:HOk P w H h)(e:H a=some o):a<h.objs.size:=(x a o e).lt
theorem HOk.fresh(x:HOk P w H h)(e:h.objs.size<=a):H a=none:=by
 cases q:H a with
 | none=>rfl
 | some u=>exact absurd (f8 (x.lt q) e) (A2 _)
theorem HOk.kept(x:HOk P w H h)(k:∀b u,h.get? b=some u->h'.get? b=some u):HOk P w H h':=fun a o e=>
 (x a o e).stay (fun b u _ q=>k b u q) (fun _ q=>q) fun _ _ q=>q
theorem HOk.laid(x:HOk P w H h)(k:∀b u,h.get? b=some u->h'.get? b=some u)(hp:h.objs.size<=a)(new:A7 P w (upd H a o) h' a o):HOk P w (upd H a o) h':=fun b u e=>by
 have hn:=x.fresh hp
 by_cases hb:b=a
 ·subst hb;rw[j4]at e;cases e;exact new
 ·rw[u0 hb]at e
  exact(x b u e).stay (fun c v _ q=>k c v q) (fun c q=>by rw[u0 (o0 q hn)];exact q) fun c xs q=>by rw[u0 (o0 q hn)];exact q
end
def Rd(H:Hp)(a:Addr)(u:HO):Prop:=H a=some u\/∃o,H a=some (.frz o u)
theorem Rd.ok{P:g7}{u:HO}(r:Rd H a u)(x:HOk P w H h):A7 P w H h a u:=by
 rcases r with r | ⟨o,r⟩
 ·exact x a u r
 ·obtain⟨_,q⟩:=x a _ r
  exact q
def Mut:Option HO->Prop
 | some (.lst _)=>True
 | some (.dK _)=>True
 | some (.dT _)=>True
 | some (.set _ _)=>True
 | some (.ins _ _ _)=>True
 | some (.ext _)=>True
 | _=>False
section
variable {P:g7}{x e:Addr}{o':HO}
theorem HOk.write(ok:HOk P w H h)(mu:Mut (H x))(he:e=x\/H e=some (.own x))(k:∀b u,b≠e->h.get? b=some u->h'.get? b=some u)(heo:∃u,h'.get? e=some u)
  (new:A7 P w (upd H x o') h' x o'):HOk P w (upd H x o') h':=fun b u q=>by
 have nown:∀c y,H c=some (.own y)->c≠x:=fun c y r z=>by subst z;rw[r]at mu;exact mu
 have ntup:∀c xs,H c=some (.tup xs)->c≠x:=fun c xs r z=>by subst z;rw[r]at mu;exact mu
 by_cases hb:b=x
 ·subst hb;rw[j4]at q;cases q;exact new
 ·rw[u0 hb]at q
  by_cases hbe:b=e
  ·have q':H b=some (.own x):=by
    rcases he with z | z
    ·exact absurd (hbe.trans z) hb
    ·rw[hbe];exact z
   rw[q]at q';cases q'
   obtain⟨v,hv⟩:=heo
   exact⟨v,by rw[hbe];exact hv⟩
  ·refine(ok b u q).stay (fun c v hc r=>k c v ?_ r) (fun c r=>by rw[u0 (nown c b r)];exact r) fun c xs r=>by rw[u0 (ntup c xs r)];exact r
   rcases hc with rfl | hc
   ·exact hbe
   ·rintro rfl
    rcases he with z | z
    ·exact nown c b hc z
    ·rw[hc]at z;cases z;exact hb rfl
end
structure Un(fs ex:List Addr)(H H':Hp)(h h':Heap):Prop where
 keep:∀b o,h.get? b=some o->H b=none->b∉fs->b∉ex->h'.get? b=some o
 slot:∀b o,h.get? b=some o->H b=none->b∈fs->b∉ex->∃sl,h'.get? b=some { o with slots:=sl }
 free:∀b o,h.get? b=some o->H b=none->b∉ex->H' b=none
 there:∀b o,h.get? b=some o->b∉ex->∃o',h'.get? b=some o'
 tups:∀b xs,H b=some (.tup xs)->H' b=some (.tup xs)
 frzs:∀b o u,H b=some (.frz o u)->H' b=some (.frz o u)
 tbls:∀b ps,H b=some (.tbl ps)->∃more,H' b=some (.tbl (ps++more))
section
variable {fs fs' ex ex':List Addr}{H1 H2:Hp}{h1 h2:Heap}{x e:Addr}
theorem Un.any(u:Un fs ex H H1 h h1){ob:Obj}(q:h.get? b=some ob)(n:H b=none)(hx:b∉ex):∃sl,h1.get? b=some { ob with slots:=sl }:=by
 by_cases hb:b∈fs
 ·exact u.slot b ob q n hb hx
 ·exact⟨ob.slots,u.keep b ob q n hb hx⟩
theorem Un.kept(k:∀b u,h.get? b=some u->h'.get? b=some u):Un fs ex H H h h':=
 ⟨fun b ob q _ _ _=>k b ob q,fun b ob q _ _ _=>⟨ob.slots,k b ob q⟩,fun _ _ _ n _=>n,fun b ob q _=>⟨ob,k b ob q⟩,fun _ _ q=>q,fun _ _ _ q=>q,fun _ ps q=>⟨#[],by rw[q];simp⟩⟩
theorem Un.refl:Un fs ex H H h h:=Un.kept fun _ _ q=>q
theorem Un.laid(k:∀b u,h.get? b=some u->h'.get? b=some u)(hp:h.objs.size<=a)(hn:H a=none):Un fs ex H (upd H a o) h h' where
 keep:=fun b u q _ _ _=>k b u q
 slot:=fun b u q _ _ _=>⟨u.slots,k b u q⟩
 free:=fun b u q n _=>by rw[u0 (o4 (f8 (c8 q) hp))];exact n
 there:=fun b u q _=>⟨u,k b u q⟩
 tups:=fun b xs q=>by rw[u0 (o0 q hn)];exact q
 frzs:=fun b u xs q=>by rw[u0 (o0 q hn)];exact q
 tbls:=fun b ps q=>⟨#[],by rw[u0 (o0 q hn),q];simp⟩
theorem Un.write(mu:Mut (H x))(he:e=x\/H e=some (.own x))(k:∀b u,b≠e->h.get? b=some u->h'.get? b=some u)(heo:∃u,h'.get? e=some u):Un fs ex H (upd H x o) h h':=by
 have hx:∀b,H b=none->b≠x:=fun b n z=>by subst z;rw[n]at mu;exact mu
 have hb:∀b,H b=none->b≠e:=fun b n z=>by
  subst z
  rcases he with r | r
  ·exact hx b n r
  ·rw[n]at r;cases r
 have hm:∀b u,H b=some u->¬Mut (some u)->b≠x:=fun b u q nm z=>by subst z;rw[q]at mu;exact nm mu
 refine⟨fun b u q n _ _=>k b u (hb b n) q,fun b u q n _ _=>⟨u.slots,k b u (hb b n) q⟩,fun b u q n _=>by rw[u0 (hx b n)];exact n,fun b u q _=>?_,
  fun b xs q=>by rw[u0 (hm b _ q fun z=>z)];exact q,fun b u xs q=>by rw[u0 (hm b _ q fun z=>z)];exact q,fun b ps q=>⟨#[],by rw[u0 (hm b _ q fun z=>z),q];simp⟩⟩
 by_cases hbe:b=e
 ·subst hbe;exact heo
 ·exact⟨u,k b u hbe q⟩
end
def trk(h:Heap)(H:Hp):List Addr:=(Q8 h.objs.size).filter fun a=>(H a).isSome
def a3w(h:Heap)(H:Hp):Heap:=PySem.W.hideAll h (trk h H)
theorem a7s(h:Heap)(H:Hp):(a3w h H).objs.size=h.objs.size:=PySem.W.hideAll_size _ _
theorem a9l{o:Obj}(e:h.get? b=some o)(n:H b=none):(a3w h H).get? b=some o:=
 PySem.W.hideAll_get _ e fun hm=>by
  have q:(H b).isSome=true:=(b3K.mp hm).2
  rw[n]at q;simp at q
theorem b0Y{o:Obj}(e:(a3w h H).get? b=some o):h.get? b=some o/\H b=none:=by
 have e':h.get? b=some o:=PySem.W.of_hideAll (trk h H) e
 refine⟨e',?_⟩
 cases q:H b with
 | none=>rfl
 | some x=>
  have hm:b∈trk h H:=b3K.mpr ⟨List.mem_range.mpr (c8 e'),by simp[q]⟩
  have z:(a3w h H).get? b=none:=PySem.W.hideAll_none (trk h H) hm
  rw[z]at e;cases e
def b1q(g h:Heap)(L:Addr):List (Addr×Obj):=(Q8 h.objs.size).filterMap fun a=>if a=L\/(g.get? a).isSome=true then none else (h.get? a).map fun o=>(a,o)
def W7(g h:Heap)(L d:Addr):List (Addr×Obj):=(b1q g h L).filter fun p=>decide (p.1≠d)
structure Mod(K:Fg)(mg:Str->Option Value)(base:Heap):Prop where
 kin:K.In base
 glob:base.Ns e8 mg
 blt:∃mb,base.Ns builtinsNs mb/\∀x:Str,x ≠ "__name__" -> mb x=J5 x
 nolimit:base.NoLimit
structure Cx where
 prog:g7
 w:World
 K:Fg
 mg:Str->Option Value
 base:Heap
 A:u6
 N:List Str
 s₀:b5
 H₀:Hp
 env:Env
 outer:List Env
 stack:List Env
 ex:List Addr
 fn:Str->Bool
 calm:Bool
 pn:List (Addr×Obj)
 xe:Value->b5->Prop
variable{X:Cx}
def frs(l:List Env):List Addr:=l.filterMap (·.frame)
abbrev Cx.fs(X:Cx):List Addr:=frs X.outer
def Vis(sc:Scope)(x:Str):Prop:=sc.names.lookup x=some .local\/sc.names.lookup x=some .cell\/sc.names.lookup x=some .free
def Loc(sc:Scope)(x:Str):Prop:=sc.names.lookup x=some .local\/sc.names.lookup x=some .cell
def b5y(env:Env)(h:Heap)(m:Str->Option Value)(x:Str)(u:Value):Prop:=
 (env.kindOf x=some .local/\m x=some u)\/((env.kindOf x=some .cell\/env.kindOf x=some .free)/\∃c,env.cells.lookup x=some c/\h.IsCell c (some u))
structure Cx.Ok(X:Cx):Prop where
 mod:Mod X.K X.mg X.base
 kind:X.env.scope.kind=.function
 glob:X.env.globals=e8
 blt:X.env.builtins=builtinsNs
 above:X.s₀.heap.objs.size<=X.env.locals
 inj:∀x y c,X.env.cells.lookup x=some c->X.env.cells.lookup y=some c->x=y
 has:∀x,(X.env.kindOf x=some .cell\/X.env.kindOf x=some .free)->∃c,X.env.cells.lookup x=some c
 cab:∀x c,X.fn x=true->X.env.cells.lookup x=some c->X.s₀.heap.objs.size<=c
 hd:X.calm=true->X.A.handled=none
 frames:X.A.frames=some X.stack
 stk:X.stack=X.outer\/(X.stack=X.env::X.outer/\X.env.frame=some X.env.locals)
 exf:∀b∈X.ex,b≠X.env.locals/\∀x c,X.env.cells.lookup x=some c->c≠b
 bs:∀b o,X.base.get? b=some o->X.s₀.heap.get? b=some o/\X.H₀ b=none
 bsz:X.base.objs.size<=X.s₀.heap.objs.size
 noex:∀b o,X.base.get? b=some o->b∉X.ex
 exfs:∀b∈X.ex,b∉X.fs
 funs:X.s₀.heap.FunFrames X.base X.outer
 frf:∀b∈X.fs,X.H₀ b=none
structure Inv(X:Cx)(pins:List (Addr×Obj))(σ:List (Option V))(H:Hp)(s:b5):Prop where
 ok:X.Ok
 os:s.os=X.s₀.os
 bare:a2U s.gens
 base:Un X.fs X.ex X.H₀ H X.s₀.heap s.heap
 loc:∃m,s.heap.Ns X.env.locals m/\∀(i:Nat) (x:Str) (v:V),X.N[i]? = some x->σ[i]? = some (some v)->Vis X.env.scope x->∃u,m3 v u/\b5y X.env s.heap m x u
 cell:∀x c,X.env.cells.lookup x=some c->∃v,s.heap.IsCell c v
 free:H X.env.locals=none
 freeC:∀x c,X.env.cells.lookup x=some c->H c=none
 pin:∀p∈X.pn++pins,s.heap.get? p.1=some p.2/\H p.1=none/\p.1≠X.env.locals/\p.1∉X.fs/\∀v,p.2.data≠.cell v
 hok:HOk X.prog X.w H s.heap
 len:σ.length=X.N.length
section
variable {σ:List (Option V)}
theorem Cx.Ok.nofr(ok:X.Ok){o:Obj}(e:X.base.get? b=some o):b∉X.fs:=fun hb=>by
 have:=(ok.funs.mem hb).1
 rw[e]at this;cases this
theorem Inv.bs(I:Inv X pins σ H s):∀b o,X.base.get? b=some o->s.heap.get? b=some o/\H b=none:=fun b o e=>
 ⟨I.base.keep b o (I.ok.bs b o e).1 (I.ok.bs b o e).2 (I.ok.nofr e) (I.ok.noex b o e),I.base.free b o (I.ok.bs b o e).1 (I.ok.bs b o e).2 (I.ok.noex b o e)⟩
theorem Inv.bk(I:Inv X pins σ H s):∀b o,X.base.get? b=some o->s.heap.get? b=some o:=fun b o e=>(I.bs b o e).1
theorem Inv.mod(I:Inv X pins σ H s):Mod X.K X.mg X.base:=I.ok.mod
theorem Inv.kIn(I:Inv X pins σ H s):X.K.In s.heap:=I.ok.mod.kin.keeps I.bk
theorem Inv.lt(I:Inv X pins σ H s):X.env.locals<s.heap.objs.size:=let⟨_,hn,_⟩:=I.loc;hn.lt
theorem Inv.sz(I:Inv X pins σ H s):X.s₀.heap.objs.size<=s.heap.objs.size:=j3 I.ok.above (a7G I.lt)
theorem Inv.nofs(I:Inv X pins σ H s)(h:s.heap.objs.size<=a):a∉X.fs:=fun hb=>by
 obtain⟨_,o,ho,_⟩:=I.ok.funs.mem hb
 exact absurd (f8 (c8 ho) (j3 I.sz h)) (A2 _)
theorem Inv.cne(I:Inv X pins σ H s):∀x c,X.env.cells.lookup x=some c->c≠X.env.locals:=fun x c e z=>by
 obtain⟨v,o,ho,hd⟩:=I.cell x c e
 obtain⟨m,⟨o',es,ep,ho',hd',_⟩,_⟩:=I.loc
 rw[z,ho']at ho;cases ho;rw[hd']at hd;cases hd
theorem Inv.funs(I:Inv X pins σ H s):s.heap.FunFrames X.base X.outer:=by
 have all:∀(l:List Env),(∀b∈frs l,b∈X.fs)->X.s₀.heap.FunFrames X.base l->s.heap.FunFrames X.base l:=by
  intro l
  induction l with
  | nil=>intro _ _;trivial
  | cons env r ih=>
   intro hs hl
   obtain⟨hk,⟨L,o,hf,hn,ho,hd⟩,hr⟩:=hl
   have hL:L∈X.fs:=hs L (by unfold frs;rw[a0n,hf];exact E3)
   obtain⟨sl,e⟩:=I.base.slot L o ho (I.ok.frf L hL) hL fun z=>I.ok.exfs L z hL
   exact⟨hk,⟨L,_,hf,hn,e,hd⟩,ih (fun b hb=>hs b (by unfold frs;rw[a0n,hf];exact l7 _ hb)) hr⟩
 exact all X.outer (fun _ hb=>hb) I.ok.funs
theorem Inv.stack(I:Inv X pins σ H s):s.heap.FunFrames X.base X.stack:=by
 rcases I.ok.stk with e | ⟨e,hf⟩
 ·rw[e];exact I.funs
 ·rw[e]
  obtain⟨m,hn,_⟩:=I.loc
  refine .cons (by rw[I.ok.kind];decide) hf hn ?_ I.funs
  exact Heap.get?_none_of_le (j3 I.ok.bsz I.ok.above)
theorem Inv.stkSub(I:Inv X pins σ H s):∀b∈frs X.stack,b∈X.env.locals::X.fs:=fun b hb=>by
 rcases I.ok.stk with e | ⟨e,hf⟩
 ·rw[e]at hb;exact l7 _ hb
 ·rw[e]at hb
  unfold frs at hb
  rw[a0n,hf]at hb
  exact hb
theorem Inv.stkFree(I:Inv X pins σ H s):∀b∈frs X.stack,H b=none:=fun b hb=>by
 rcases g5.mp (I.stkSub b hb)with e | hb
 ·rw[e];exact I.free
 ·obtain⟨_,o,ho,_⟩:=I.ok.funs.mem hb
  exact I.base.free b o ho (I.ok.frf b hb) fun z=>I.ok.exfs b z hb
theorem Inv.step{g':Array GenState}{t':Nat}{d':Drawn}{ch:List Addr}(I:Inv X pins σ H s)
  (hch:∀b∈ch,(b∈X.ex\/X.s₀.heap.objs.size<=b)/\b≠X.env.locals/\(∀x c,X.env.cells.lookup x=some c->c≠b)/\∀p∈X.pn++pins,p.1≠b)
  (keep:∀b o,b≠X.env.locals->b∉X.fs->b∉ch->s.heap.get? b=some o->H b=none->h'.get? b=some o)
  (slot:∀b o,b≠X.env.locals->b∈X.fs->b∉ch->s.heap.get? b=some o->H b=none->∃sl,h'.get? b=some { o with slots:=sl }) (free:∀b o,b∉ch->s.heap.get? b=some o->H b=none->H' b=none)
  (there:∀b o,b∉ch->s.heap.get? b=some o->∃o',h'.get? b=some o')
  (tups:∀b xs,H b=some (.tup xs)->H' b=some (.tup xs)) (frzs:∀b o u,H b=some (.frz o u)->H' b=some (.frz o u)) (tbls:∀b ps,H b=some (.tbl ps)->∃more,H' b=some (.tbl (ps++more)))
  (ns:∀m,s.heap.Ns X.env.locals m->h'.Ns X.env.locals m) (hok:HOk X.prog X.w H' h') (hg:a2U g') :
  Inv X pins σ H' { s with heap:=h',gens:=g',drawn:=d',toks:=t' }:=by
 have neL:∀b o,X.s₀.heap.get? b=some o->b≠X.env.locals:=fun b o e=>o4 (f8 (c8 e) I.ok.above)
 have neC:∀b o,X.s₀.heap.get? b=some o->b∉X.ex->b∉ch:=fun b o e hx hb=>by
  rcases(hch b hb).1 with z | z
  ·exact hx z
  ·exact absurd (f8 (c8 e) z) (A2 _)
 have cellK:∀x c,X.env.cells.lookup x=some c->∀v,s.heap.IsCell c v->h'.IsCell c v:=fun x c e v ⟨o,ho,hd⟩=>by
  have nch:c∉ch:=fun z=>(hch c z).2.2.1 x c e rfl
  by_cases hc:c∈X.fs
  ·obtain⟨sl,q⟩:=slot c o (I.cne x c e) hc nch ho (I.freeC x c e)
   exact⟨_,q,hd⟩
  ·exact⟨o,keep c o (I.cne x c e) hc nch ho (I.freeC x c e),hd⟩
 refine⟨I.ok,I.os,hg,⟨fun b o e n hb hx=>?_,fun b o e n hb hx=>?_,fun b o e n hx=>?_,fun b o e hx=>?_,fun b xs e=>tups b xs (I.base.tups b xs e),fun b o xs e=>frzs b o xs (I.base.frzs b o xs e),fun b ps e=>?_⟩,?_,fun x c e=>?_,?_,fun x c e=>?_,fun p hp=>?_,hok,I.len⟩
 ·exact keep b o (neL b o e) hb (neC b o e hx) (I.base.keep b o e n hb hx) (I.base.free b o e n hx)
 ·obtain⟨sl,e1⟩:=I.base.slot b o e n hb hx
  obtain⟨sl',e2⟩:=slot b _ (neL b o e) hb (neC b o e hx) e1 (I.base.free b o e n hx)
  exact⟨sl',e2⟩
 ·obtain⟨o',e1⟩:=I.base.there b o e hx
  exact free b o' (neC b o e hx) e1 (I.base.free b o e n hx)
 ·obtain⟨o',e1⟩:=I.base.there b o e hx
  exact there b o' (neC b o e hx) e1
 ·obtain⟨m1,e1⟩:=I.base.tbls b ps e
  obtain⟨m2,e2⟩:=tbls b _ e1
  exact⟨m1++m2,by rw[e2,Array.append_assoc]⟩
 ·obtain⟨m,hn,hl⟩:=I.loc
  refine⟨m,ns m hn,fun i x v e1 e2 e3=>?_⟩
  obtain⟨u,r,l⟩:=hl i x v e1 e2 e3
  refine⟨u,r,?_⟩
  rcases l with l | ⟨k,c,e,z⟩
  ·exact .inl l
  ·exact .inr ⟨k,c,e,cellK x c e _ z⟩
 ·obtain⟨v,z⟩:=I.cell x c e
  exact⟨v,cellK x c e v z⟩
 ·obtain⟨m,⟨o,_,_,ho,_⟩,_⟩:=I.loc
  exact free _ o (fun z=>(hch _ z).2.1 rfl) ho I.free
 ·obtain⟨v,o,ho,hd⟩:=I.cell x c e
  exact free c o (fun z=>(hch c z).2.2.1 x c e rfl) ho (I.freeC x c e)
 ·obtain⟨e,n,ne,nf,d⟩:=I.pin p hp
  have nch:p.1∉ch:=fun z=>(hch p.1 z).2.2.2 p hp rfl
  exact⟨keep p.1 p.2 ne nf nch e n,free p.1 p.2 nch e n,ne,nf,d⟩
theorem Inv.un(I:Inv X pins σ H s)(u:Un X.fs [] H H' s.heap h')(hok:HOk X.prog X.w H' h'):Inv X pins σ H' { s with heap:=h',toks:=t' }:=by
 obtain⟨m,⟨o,es,ep,ho,r⟩,_⟩:=id I.loc
 obtain⟨sl,hL⟩:=u.any ho I.free (by simp)
 exact I.step (g':=s.gens) (d':=s.drawn) (ch:=[]) (fun _ z=>nomatch z) (fun b o _ hb _ e n=>u.keep b o e n hb (by simp)) (fun b o _ hb _ e n=>u.slot b o e n hb (by simp)) (fun b o _ e n=>u.free b o e n (by simp)) (fun b o _ e=>u.there b o e (by simp)) u.tups u.frzs u.tbls (fun m' hm=>by
  obtain⟨o',es',ep',ho',r'⟩:=hm
  rw[ho]at ho';cases ho'
  exact⟨_,es',ep',hL,r'⟩) hok I.bare
theorem Inv.call{g':Array GenState}{d':Drawn}{ch:List Addr}(I:Inv X pins σ H s)(u:Un (frs X.stack) ch H H' s.heap h')(hok:HOk X.prog X.w H' h')(hg:a2U g')
  (hch:∀b∈ch,(b∈X.ex\/X.s₀.heap.objs.size<=b)/\b≠X.env.locals/\(∀x c,X.env.cells.lookup x=some c->c≠b)/\∀p∈X.pn++pins,p.1≠b) :
  Inv X pins σ H' { s with heap:=h',gens:=g',drawn:=d',toks:=t' }:=by
 obtain⟨m,⟨o,es,ep,ho,r⟩,_⟩:=id I.loc
 obtain⟨sl,hL⟩:=u.any ho I.free fun z=>(hch _ z).2.1 rfl
 exact I.step (ch:=ch) hch (fun b o hL hb hc e n=>u.keep b o e n (fun z=>(g5.mp (I.stkSub b z)).elim hL hb) hc) (fun b o _ _ hc e n=>u.any e n hc) (fun b o hc e n=>u.free b o e n hc) (fun b o hc e=>u.there b o e hc) u.tups u.frzs u.tbls (fun m' hm=>by
  obtain⟨o',es',ep',ho',r'⟩:=hm
  rw[ho]at ho';cases ho'
  exact⟨_,es',ep',hL,r'⟩) hok hg
theorem Inv.turned{it:Addr}(I:Inv X pins σ H s)(k:∀b o,b≠it->s.heap.get? b=some o->h'.get? b=some o)(hn:H it=none)(hL:it≠X.env.locals)
  (h1:it∈X.ex\/X.s₀.heap.objs.size<=it) (h2:∀x c,X.env.cells.lookup x=some c->c≠it) (h3:∀p∈X.pn++pins,p.1≠it):Inv X pins σ H { s with heap:=h',toks:=t' }:=by
 have nit:∀b u,H b=some u->b≠it:=fun b u e z=>by rw[z,hn]at e;cases e
 refine I.step (g':=s.gens) (d':=s.drawn) (ch:=[it]) (fun b hb=>?_) (fun b o _ _ hc e _=>k b o (fun z=>hc (by simp[z])) e) (fun b o _ _ hc e _=>⟨o.slots,k b o (fun z=>hc (by simp[z])) e⟩) (fun _ _ _ _ n=>n)
  (fun b o hc e=>⟨o,k b o (fun z=>hc (by simp[z])) e⟩) (fun _ _ e=>e) (fun _ _ _ e=>e) (fun b ps e=>⟨#[],by rw[e];simp⟩) (fun m hm=>?_) (fun b u e=>?_) I.bare
 ·have e:b=it:=by simpa using hb
  subst e
  exact⟨h1,hL,h2,h3⟩
 ·obtain⟨o,es,ep,ho,r⟩:=hm
  exact⟨o,es,ep,k _ o (Ne.symm hL) ho,r⟩
 ·refine(I.hok b u e).stay (fun c v hc q=>k c v ?_ q) (fun _ q=>q) fun _ _ q=>q
  rcases hc with z | z
  ·rw[z];exact nit b u e
  ·exact nit c _ z
theorem Inv.tok(I:Inv X pins σ H s)(t:Nat):Inv X pins σ H { s with toks:=t }:=I.un (h':=s.heap) (t':=t) Un.refl I.hok
theorem Inv.kept(I:Inv X pins σ H s)(k:∀b u,s.heap.get? b=some u->h'.get? b=some u):Inv X pins σ H { s with heap:=h',toks:=t' }:=I.un (Un.kept k) (I.hok.kept k)
theorem Inv.laid(I:Inv X pins σ H s)(k:∀b u,s.heap.get? b=some u->h'.get? b=some u)(hp:s.heap.objs.size<=a)(new:A7 X.prog X.w (upd H a o) h' a o) :
  Inv X pins σ (upd H a o) { s with heap:=h',toks:=t' }:=I.un (Un.laid k hp (I.hok.fresh hp)) (I.hok.laid k hp new)
theorem Inv.write{x e:Addr}(I:Inv X pins σ H s)(mu:Mut (H x))(he:e=x\/H e=some (.own x))(k:∀b u,b≠e->s.heap.get? b=some u->h'.get? b=some u)(heo:∃u,h'.get? e=some u)
  (new:A7 X.prog X.w (upd H x o) h' x o):Inv X pins σ (upd H x o) { s with heap:=h',toks:=t' }:=I.un (Un.write mu he k heo) (I.hok.write mu he k heo new)
theorem Inv.weak{σ':List (Option V)}(I:Inv X pins σ H s)(hl:σ'.length=σ.length)(w:∀(i:Nat) v,σ'[i]? = some (some v)->σ[i]? = some (some v)):Inv X pins σ' H s:=
 ⟨I.ok,I.os,I.bare,I.base,let⟨m,hn,hl'⟩:=I.loc; ⟨m,hn,fun i x v e1 e2 e3=>hl' i x v e1 (w i v e2) e3⟩,I.cell,I.free,I.freeC,I.pin,I.hok,hl.trans I.len⟩
theorem Inv.pins_of{pins':List (Addr×Obj)}(I:Inv X pins σ H s)(h:∀p∈pins',s.heap.get? p.1=some p.2/\H p.1=none/\p.1≠X.env.locals/\p.1∉X.fs/\∀v,p.2.data≠.cell v):Inv X pins' σ H s:=
 ⟨I.ok,I.os,I.bare,I.base,I.loc,I.cell,I.free,I.freeC,fun p hp=>(E5.mp hp).elim (fun z=>I.pin p (Y5 _ z)) (h p),I.hok,I.len⟩
theorem a4x{N:List Str}(hN:N.Nodup){j:Nat}(a:N[i]? = some x)(b:N[j]? = some x):i=j:=by
 obtain⟨h1,e1⟩:=p9.mp a
 obtain⟨h2,e2⟩:=p9.mp b
 exact(List.getElem_inj hN).mp (e1.trans e2.symm)
theorem a6T{M:Model}{A:u6}{E:Value->b5->Prop}{Q:Unit->b5->Prop}(I:Inv X pins σ H s)(hN:X.N.Nodup)(hi:X.N[i]? = some x)(hx:Loc X.env.scope x)(r:m3 v u)
  (h:∀s',Inv X pins (σ.set i (some v)) H s'->(∃a,Heap.SameBut a s.heap s'.heap/\(a=X.env.locals\/X.env.cells.lookup x=some a))->Q () s') (hf:X.fn x=true\/X.env.scope.names.lookup x=some .local:=by first | exact .inl rfl | exact .inr rfl | assumption):wpAny M A (storeName X.env x u) Q E s:=by
 obtain⟨m,hn,hl⟩:=id I.loc
 have hcls:(X.env.scope.kind == .class||(X.env.scope.kind == .module&&X.env.locals != X.env.globals))=false:=by rw[I.ok.kind];rfl
 have hiσ:i<σ.length:=by rw[I.len];exact(p9.mp hi).1
 have cne:=I.cne
 have tracked:∀ {a:Addr} {h':Heap},(∃o,s.heap.get? a=some o/\H a=none)->Heap.SameBut a s.heap h'->HOk X.prog X.w H h':=fun {a h'} ha hs b ob e=>by
  obtain⟨_,_,hfree⟩:=ha
  refine(I.hok b ob e).stay (fun c w' hc q=>(hs.2 c ?_).trans q) (fun _ q=>q) fun _ _ q=>q
  rintro rfl
  rcases hc with rfl | hc
  ·rw[hfree]at e;cases e
  ·rw[hfree]at hc;cases hc
 rcases hx with hk | hk
 ·refine wpAny_storeName_local hk hn (fun h' hn' hs=>?_) hcls
  obtain⟨oL,_,_,hoL,_⟩:=id hn
  refine h _ ⟨I.ok,I.os,I.bare,⟨fun b o e n hb hx=>?_,fun b o e n hb hx=>?_,I.base.free,fun b o e hx=>?_,I.base.tups,I.base.frzs,I.base.tbls⟩,⟨_,hn',fun j y v' e1 e2 e3=>?_⟩,fun y c e=>?_,I.free,I.freeC,fun p hp=>?_,tracked ⟨oL,hoL,I.free⟩ hs,by simpa using I.len⟩ ⟨_,hs,.inl rfl⟩
  ·exact(hs.2 b (o4 (f8 (c8 e) I.ok.above))).trans (I.base.keep b o e n hb hx)
  ·obtain⟨sl,e1⟩:=I.base.slot b o e n hb hx
   exact⟨sl,(hs.2 b (o4 (f8 (c8 e) I.ok.above))).trans e1⟩
  ·obtain⟨o',e1⟩:=I.base.there b o e hx
   exact⟨o',(hs.2 b (o4 (f8 (c8 e) I.ok.above))).trans e1⟩
  ·by_cases hj:j=i
   ·subst hj
    rw[hi]at e1;cases e1
    rw[a6F hiσ]at e2
    cases e2
    exact⟨u,r,.inl ⟨hk,by simp⟩⟩
   ·rw[a7O (Ne.symm hj)]at e2
    obtain⟨u',r',q⟩:=hl j y v' e1 e2 e3
    refine⟨u',r',?_⟩
    rcases q with ⟨k,e⟩ | ⟨k,c,e,z⟩
    ·refine .inl ⟨k,?_⟩
     have:y≠x:=fun e=>hj (a4x hN e1 (e ▸ hi))
     simp[this,e]
    ·exact .inr ⟨k,c,e,z.sameBut hs (cne y c e)⟩
  ·obtain⟨w',z⟩:=I.cell y c e
   exact⟨w',z.sameBut hs (cne y c e)⟩
  ·obtain⟨e,n,ne,nf,d⟩:=I.pin p hp
   exact⟨(hs.2 p.1 ne).trans e,n,ne,nf,d⟩
 ·have hfn:X.fn x=true:=by
   rcases hf with z | z
   ·exact z
   ·rw[z]at hk;cases hk
  obtain⟨c,hc⟩:=I.ok.has x (.inl hk)
  obtain⟨w',z⟩:=I.cell x c hc
  refine wpAny_storeName_cell I.ok.kind hk hc z (fun h' hc' hs=>?_)
  obtain⟨oc,hoc,hocd⟩:=id z
  refine h { s with heap:=h' } ⟨I.ok,I.os,I.bare,⟨fun b o e n hb hx=>?_,fun b o e n hb hx=>?_,I.base.free,fun b o e hx=>?_,I.base.tups,I.base.frzs,I.base.tbls⟩,⟨m,hn.sameBut hs (Ne.symm (cne x c hc)),fun j y v' e1 e2 e3=>?_⟩,fun y c' e=>?_,I.free,I.freeC,fun p hp=>?_,tracked ⟨oc,hoc,I.freeC x c hc⟩ hs,by simpa using I.len⟩ ⟨c,hs,.inr hc⟩
  ·exact(hs.2 b (o4 (f8 (c8 e) (I.ok.cab x c hfn hc)))).trans (I.base.keep b o e n hb hx)
  ·obtain⟨sl,e1⟩:=I.base.slot b o e n hb hx
   exact⟨sl,(hs.2 b (o4 (f8 (c8 e) (I.ok.cab x c hfn hc)))).trans e1⟩
  ·obtain⟨o',e1⟩:=I.base.there b o e hx
   exact⟨o',(hs.2 b (o4 (f8 (c8 e) (I.ok.cab x c hfn hc)))).trans e1⟩
  ·by_cases hj:j=i
   ·subst hj
    rw[hi]at e1;cases e1
    rw[a6F hiσ]at e2
    cases e2
    exact⟨u,r,.inr ⟨.inl hk,c,hc,hc'⟩⟩
   ·rw[a7O (Ne.symm hj)]at e2
    obtain⟨u',r',q⟩:=hl j y v' e1 e2 e3
    refine⟨u',r',?_⟩
    rcases q with q | ⟨k,c',e,z'⟩
    ·exact .inl q
    ·refine .inr ⟨k,c',e,z'.sameBut hs ?_⟩
     rintro rfl
     exact hj (a4x hN e1 (I.ok.inj _ _ _ e hc ▸ hi))
  ·by_cases hcc:c'=c
   ·subst hcc;exact⟨_,hc'⟩
   ·obtain⟨w2,z2⟩:=I.cell y c' e
    exact⟨w2,z2.sameBut hs hcc⟩
  ·obtain⟨e,n,ne,nf,d⟩:=I.pin p hp
   refine⟨(hs.2 p.1 ?_).trans e,n,ne,nf,d⟩
   intro q
   rw[q,hoc]at e
   have q':oc=p.2:=Option.some.inj e
   exact d w' (by rw[<-q'];exact hocd)
theorem a1s{M:Model}{A:u6}{E:Value->b5->Prop}{Q:Unit->b5->Prop}(I:Inv X pins σ H s)(hN:X.N.Nodup)(hi:X.N[i]? = some x)(hx:Loc X.env.scope x)(r:m3 v u)
  (h:∀s',Inv X pins (σ.set i (some v)) H s'->Q () s') (hf:X.fn x=true\/X.env.scope.names.lookup x=some .local:=by first | exact .inl rfl | exact .inr rfl | assumption):wpAny M A (storeName X.env x u) Q E s:=
 a6T I hN hi hx r (fun s' I' _=>h s' I') hf
theorem Inv.call'{s':b5}{ch:List Addr}(I:Inv X pins σ H s)(ho:s'.os=s.os)(u:Un (frs X.stack) ch H H' s.heap s'.heap)(hok:HOk X.prog X.w H' s'.heap)(hg:a2U s'.gens)
  (hch:∀b∈ch,(b∈X.ex\/X.s₀.heap.objs.size<=b)/\b≠X.env.locals/\(∀x c,X.env.cells.lookup x=some c->c≠b)/\∀p∈X.pn++pins,p.1≠b):Inv X pins σ H' s':=by
 obtain⟨h',g',d',t',o'⟩:=s'
 have e:o'=s.os:=ho
 subst e
 exact I.call (g':=g') (t':=t') (d':=d') u hok hg hch
end
abbrev XK:=Value->Option Addr->Hp->Prop
abbrev St:=List (Option V)
variable{σ:St}
abbrev VK:=V->Hp->Prop
abbrev TE:=St->Hp->VK->Prop
variable{ta te:TE}
abbrev TT:=St->Hp->(Bool->Hp->Prop)->Prop
abbrev TA:=St->Hp->(List V->Hp->Prop)->Prop
variable{t:TA}
structure a2c where
 nx:St->Hp->Prop
 rt:VK
 bk:St->Hp->Prop:=fun _ _=>False
 ct:St->Hp->Prop:=fun _ _=>False
abbrev TS:=a2c->St->Hp->Prop
def EP(X:Cx)(pins:List (Addr×Obj))(σ:St)(Q:VK)(u:Value)(s':b5):Prop:=∃v H',Inv X pins σ H' s'/\m3 v u/\Q v H'
def TP(X:Cx)(pins:List (Addr×Obj))(σ:St)(Q:Bool->Hp->Prop)(b:Bool)(s':b5):Prop:=∃H',Inv X pins σ H' s'/\Q b H'
def AP(X:Cx)(pins:List (Addr×Obj))(σ:St)(Q:List V->Hp->Prop)(us:List Value)(s':b5):Prop:=∃vs H',Inv X pins σ H' s'/\o3 vs us/\Q vs H'
def SP(X:Cx)(pins:List (Addr×Obj))(D:a2c)(f:Flow)(s':b5):Prop:=
 match f with
 | .next=>∃σ' H',Inv X pins σ' H' s'/\D.nx σ' H'
 | .brk=>∃σ' H',Inv X pins σ' H' s'/\D.bk σ' H'
 | .cont=>∃σ' H',Inv X pins σ' H' s'/\D.ct σ' H'
 | .ret u=>∃v σ' H',Inv X pins σ' H' s'/\m3 v u/\D.rt v H'
def PE(X:Cx)(e:Expr)(t:TE):Prop:=
 ∀(pins:List (Addr×Obj)) (s:b5) (σ:St) (H:Hp) (Q:VK),Inv X pins σ H s->t σ H Q->wpAny (model X.prog X.w) X.A (eval e X.env) (EP X pins σ Q) X.xe s
def PT(X:Cx)(e:Expr)(t:TT):Prop:=
 ∀(pins:List (Addr×Obj)) (s:b5) (σ:St) (H:Hp) (Q:Bool->Hp->Prop),Inv X pins σ H s->t σ H Q->wpAny (model X.prog X.w) X.A (isTrue e X.env (eval e X.env)) (TP X pins σ Q) X.xe s
def PW(X:Cx)(e:Expr)(t:TT):Prop:=
 ∀(whole:Sem Value) (pins:List (Addr×Obj)) (s:b5) (σ:St) (H:Hp) (Q:Bool->Hp->Prop),Inv X pins σ H s->t σ H Q->wpAny (model X.prog X.w) X.A (isTrue e X.env whole) (TP X pins σ Q) X.xe s
theorem PW.pt{t:TT}(h:PW X e t):PT X e t:=h _
def PA(X:Cx)(es:List Expr)(t:TA):Prop:=
 ∀(pos:Pos) (pins:List (Addr×Obj)) (s:b5) (σ:St) (H:Hp) (Q:List V->Hp->Prop),Inv X pins σ H s->t σ H Q->wpAny (model X.prog X.w) X.A (spliced (Q9 pos (c4 es X.env))) (AP X pins σ Q) X.xe s
def PS(X:Cx)(st:Stmt)(t:TS):Prop:=
 ∀(pins:List (Addr×Obj)) (s:b5) (σ:St) (H:Hp) (D:a2c),Inv X pins σ H s->t D σ H->wpAny (model X.prog X.w) X.A (exec st X.env) (SP X pins D) X.xe s
def PSs(X:Cx)(st:List Stmt)(t:TS):Prop:=
 ∀(pins:List (Addr×Obj)) (s:b5) (σ:St) (H:Hp) (D:a2c),Inv X pins σ H s->t D σ H->wpAny (model X.prog X.w) X.A (execs st X.env) (SP X pins D) X.xe s
theorem thn{α:Type}{t:Sem α}{Q Q':α->b5->Prop}{M:Model}{A:u6}{E:Value->b5->Prop}(h:wpAny M A t Q E s)(hQ:∀a s,Q a s->Q' a s):wpAny M A t Q' E s:=O0 h hQ fun _ _ x=>x
section
def b4(i:Nat):TE:=fun σ H Q=>∃v,σ[i]? = some (some v)/\Q v H
def tC(v:V):TE:=fun _ H Q=>Q v H
theorem b2G(hN:X.N[i]? = some x)(hv:Vis X.env.scope x)(hd:(x == ("__debug__" : Str))=false:=by decide)(hcd:(x == ("__classdict__" : Str))=false:=by decide):PE X (.Name x pos) (b4 i):=by
 intro pins s σ H Q I h
 obtain⟨v,e,h⟩:=h
 obtain⟨m,hn,hl⟩:=I.loc
 obtain⟨u,r,l⟩:=hl i x v hN e hv
 have fin:EP X pins σ Q u s:=⟨v,H,I,r,h⟩
 rcases l with ⟨hk,hm⟩ | ⟨hk,c,hc,hcell⟩
 ·exact wpAny_Name (wpAny_loadName_local I.ok.kind hk hn hm fin) hd
 ·rcases hk with hk | hk
  ·exact wpAny_Name (wpAny_loadName_cell I.ok.kind hk hc hcell fin) hd
  ·exact wpAny_Name (wpAny_loadName_free I.ok.kind hk hc hcell fin hcd) hd
theorem a8U{i j pos}:PE X (.Constant (.int i) j pos) (tC (.int i)):=fun _ _ _ H _ I h=>wpAny_Constant_int ⟨.int i,H,I.tok _,⟨_,rfl⟩,h⟩
theorem b4B{b j pos}:PE X (.Constant (.bool b) j pos) (tC (.bl b)):=fun _ _ _ H _ I h=>Constant_bool ⟨.bl b,H,I,rfl,h⟩
theorem b2N{j pos}:PE X (.Constant .none j pos) (tC .non):=fun _ _ _ H _ I h=>Constant_none ⟨.non,H,I,rfl,h⟩
theorem b2I{x j pos}:PE X (.Constant (.str x) j pos) (tC (.str x)):=fun _ _ _ H _ I h=>Calls.Constant_str ⟨.str x,H,I.tok _,⟨_,rfl⟩,h⟩
def Gl(X:Cx)(x:Str):Prop:=X.env.kindOf x=some .globalImplicit
theorem a6u{E:Value->b5->Prop}(I:Inv X pins σ H s)(hg:Gl X x)(hm:X.mg x=some u)(h:Q u s)
  (hd:(x == ("__debug__" : Str))=false:=by decide):wpAny (model X.prog X.w) X.A (eval (.Name x pos) X.env) Q E s:=
 Calls.Name_function_global I.ok.kind hg (Calls.loadGlobal_global (by rw[I.ok.glob];exact I.mod.glob.keeps I.bk) hm h) hd
theorem a1I{E:Value->b5->Prop}(I:Inv X pins σ H s)(hg:Gl X x)(hm:X.mg x=none)(hv:J5 x=some u)(h:Q u s)
  (hn:x ≠ "__name__" := by decide) (hd:(x == ("__debug__" : Str))=false:=by decide):wpAny (model X.prog X.w) X.A (eval (.Name x pos) X.env) Q E s:=by
 obtain⟨mb,h1,h2⟩:=I.mod.blt
 exact Calls.Name_function_global I.ok.kind hg (Calls.loadGlobal_builtin (by rw[I.ok.glob];exact I.mod.glob.keeps I.bk) hm (by rw[I.ok.blt];exact h1.keeps I.bk) ((h2 x hn).trans hv) h) hd
theorem b0B(hg:Gl X x)(hm:X.mg x=some u)(r:m3 v u)(hd:(x == ("__debug__" : Str))=false:=by decide):PE X (.Name x pos) (tC v):=
 fun _ _ _ H _ I h=>a6u I hg hm ⟨v,H,I,r,h⟩ hd
theorem b0H(hg:Gl X x)(hm:X.mg x=none)(hv:J5 x=some u)(r:m3 v u)(hn:x ≠ "__name__" := by decide)(hd:(x == ("__debug__" : Str))=false:=by decide):PE X (.Name x pos) (tC v):=
 fun _ _ _ H _ I h=>a1I I hg hm hv ⟨v,H,I,r,h⟩ hn hd
variable {a b:Expr}{tb:TE}
def PC(X:Cx)(op:CmpOp)(a b:Expr)(t:TE):Prop:=
 ∀(pins:List (Addr×Obj)) (s:b5) (σ:St) (H:Hp) (Q:VK),Inv X pins σ H s->t σ H Q ->
  wpAny (model X.prog X.w) X.A (eval a X.env) (fun v s₁=>wpAny (model X.prog X.w) X.A (eval b X.env) (fun u s₂=>wpAny (model X.prog X.w) X.A (d9 op v u) (EP X pins σ Q) X.xe s₂) X.xe s₁) X.xe s
def tB(t:TE):TT:=fun σ H Q=>t σ H fun x H1=>∃c,x=.bl c/\Q c H1
theorem b2y{op:CmpOp}{t:TE}(h:PC X op a b t)(h1:D6 op b=false:=by first | exact nobehind _ (by decide) (by decide) | rfl):PT X (.Compare a [op] [b] pos) (tB t):=by
 intro pins s σ H Q I hw
 refine b3R (thn (h pins s σ H _ I hw) fun v s1 h1=>thn h1 fun u s2 h2=>thn h2 fun c s3 ⟨x,H1,I1,r1,q1⟩=>?_) h1
 obtain⟨d,rfl,q⟩:=q1
 cases r1
 exact t9 ⟨H1,I1,q⟩
theorem b2w{t:TE}(h:PE X e t)(he:∀whole,isTrue e X.env whole=(do let v <-whole;standAt e.pos;a1g [v] (truthy v)):=by intro _;rfl):PT X e (tB t):=by
 intro pins s σ H Q I hw
 refine isTrue_plain (thn (h pins s σ H _ I hw) fun v s1 ⟨x,H1,I1,r1,q1⟩=>?_) (he _)
 obtain⟨d,rfl,q⟩:=q1
 cases r1
 exact t9 ⟨H1,I1,q⟩
variable {tA tB':TT}{W7:List Expr}
def a6S(t u:TT):TT:=fun σ H Q=>t σ H fun c H1=>if c=true then u σ H1 Q else Q false H1
def tOr(t u:TT):TT:=fun σ H Q=>t σ H fun c H1=>if c=true then Q true H1 else u σ H1 Q
def V2(t:TT):TT:=fun σ H Q=>t σ H fun c H1=>Q (!c) H1
theorem b0o(ha:PT X a tA):PW X (.BoolOp .And [a] pos) tA:=by
 intro wh pins s σ H Q I h
 refine isTrue_and (thn (ha pins s σ H Q I h) fun c s1 e=>?_)
 cases c with
 | true=>exact isTrue_and_nil e
 | false=>exact e
theorem b2u(ha:PT X a tA):PW X (.BoolOp .Or [a] pos) tA:=by
 intro wh pins s σ H Q I h
 refine isTrue_or (thn (ha pins s σ H Q I h) fun c s1 e=>?_)
 cases c with
 | false=>exact isTrue_or_nil e
 | true=>exact e
theorem b2v(ha:PT X a tA)(hb:PW X (.BoolOp .And (b::W7) pos) tB'):PW X (.BoolOp .And (a::b::W7) pos) (a6S tA tB'):=by
 intro wh pins s σ H Q I h
 refine isTrue_and (thn (ha pins s σ H _ I h) fun c s1 ⟨H1,I1,q1⟩=>?_)
 cases c with
 | true=>exact hb wh pins s1 σ H1 Q I1 q1
 | false=>exact⟨H1,I1,q1⟩
theorem b4v(ha:PT X a tA)(hb:PW X (.BoolOp .Or (b::W7) pos) tB'):PW X (.BoolOp .Or (a::b::W7) pos) (tOr tA tB'):=by
 intro wh pins s σ H Q I h
 refine isTrue_or (thn (ha pins s σ H _ I h) fun c s1 ⟨H1,I1,q1⟩=>?_)
 cases c with
 | true=>exact⟨H1,I1,q1⟩
 | false=>exact hb wh pins s1 σ H1 Q I1 q1
theorem b2x(ha:PT X a tA):PT X (.UnaryOp .Not a pos) (V2 tA):=by
 intro pins s σ H Q I h
 exact isTrue_not (ha pins s σ H (fun c H1=>Q (!c) H1) I h)
def D7(ta tb:TE):TE:=fun σ H Q=>ta σ H fun x H1=>∃c,x=.bl c/\if c=true then tb σ H1 Q else Q (.bl false) H1
def a9W(ta tb:TE):TE:=fun σ H Q=>ta σ H fun x H1=>∃c,x=.bl c/\if c=true then Q (.bl true) H1 else tb σ H1 Q
def a2r(ta:TE):TE:=fun σ H Q=>ta σ H fun x H1=>∃c,x=.bl c/\Q (.bl (!c)) H1
theorem b2L{op}{t:TE}(h:PE X a t):PE X (.BoolOp op [a] pos) t:=fun pins s σ H Q I hw=>BoolOp_one (h pins s σ H Q I hw)
theorem b2P(ha:PE X a ta)(hb:PE X (.BoolOp .And (b::W7) pos) tb):PE X (.BoolOp .And (a::b::W7) pos) (D7 ta tb):=by
 intro pins s σ H Q I h
 refine BoolOp_and (thn (ha pins s σ H _ I h) fun v s1 ⟨x,H1,I1,r1,q1⟩=>?_)
 obtain⟨c,rfl,q1⟩:=q1
 cases r1
 refine t9 ?_
 cases c with
 | true=>exact hb pins s1 σ H1 Q I1 q1
 | false=>exact⟨.bl false,H1,I1,rfl,q1⟩
theorem b4x(ha:PE X a ta)(hb:PE X (.BoolOp .Or (b::W7) pos) tb):PE X (.BoolOp .Or (a::b::W7) pos) (a9W ta tb):=by
 intro pins s σ H Q I h
 refine BoolOp_or (thn (ha pins s σ H _ I h) fun v s1 ⟨x,H1,I1,r1,q1⟩=>?_)
 obtain⟨c,rfl,q1⟩:=q1
 cases r1
 refine t9 ?_
 cases c with
 | false=>exact hb pins s1 σ H1 Q I1 q1
 | true=>exact⟨.bl true,H1,I1,rfl,q1⟩
theorem b2M(ha:PE X a ta):PE X (.UnaryOp .Not a pos) (a2r ta):=by
 intro pins s σ H Q I h
 refine UnaryOp_ (thn (ha pins s σ H _ I h) fun v s1 ⟨x,H1,I1,r1,q1⟩=>?_)
 obtain⟨c,rfl,q1⟩:=q1
 cases r1
 exact not_of (t9 ⟨.bl (!c),H1,I1,rfl,q1⟩)
end
def SqL(K:Fg)(H:Hp)(a:Addr)(xs:List V):Prop:=
 Rd H a (.lst xs) \/
  ∃(o:Obj) (its:Array Value) (n:Nat),K.lookup a=some o/\o.cls=.type "list" /\ o.dict=none/\o.data=.seq its n/\its.size<=c9/\o3 xs its.toList
def SqT(K:Fg)(H:Hp)(a:Addr)(xs:List V):Prop:=
 Rd H a (.tup xs) \/
  ∃(o:Obj) (its:Array Value) (n:Nat),K.lookup a=some o/\o.cls=.type "tuple" /\ o.data=.seq its n/\its.size<=c9/\o3 xs its.toList
def b5w:Value->Option V
 | .none=>some .non
 | .bool b=>some (.bl b)
 | .int i _=>some (.int i)
 | .str x _=>some (.str x)
 | .bytes b _=>some (.byt b)
 | .float b _=>some (.flt b)
 | .ref a=>some (.ref a)
 | .type n=>some (.ty n)
 | _=>none
theorem m3.abs{x:V}(r:m3 x u):b5w u=some x:=by
 cases x with
 | non=>cases r;rfl
 | bl _=>cases r;rfl
 | int _=>obtain⟨t,rfl⟩:=r;rfl
 | str _=>obtain⟨t,rfl⟩:=r;rfl
 | byt _=>obtain⟨t,rfl⟩:=r;rfl
 | flt _=>obtain⟨t,rfl⟩:=r;rfl
 | ref _=>cases r;rfl
 | ty _=>cases r;rfl
theorem m3.inj{x:V}(r:m3 x u)(q:m3 y u):x=y:=Option.some.inj (r.abs.symm.trans q.abs)
theorem o3.inj:∀ {xs ys:List V} {us:List Value},o3 xs us->o3 ys us->xs=ys
 | _,_,_,.nil,.nil=>rfl
 | _,_,_,.cons r t,.cons r' t'=>by rw[r.inj r',o3.inj t t']
section
variable {ys:List V}
theorem SqL.of{K:Fg}(h:H a=some (.lst xs)):SqL K H a xs:=.inl (.inl h)
theorem SqT.of{K:Fg}(h:H a=some (.tup xs)):SqT K H a xs:=.inl (.inl h)
theorem Inv.list(I:Inv X pins σ H s)(h:SqL X.K H a xs):∃its:List Value,o3 xs its/\PlainL s.heap a its.toArray/\xs.length<=c9:=by
 rcases h with h | ⟨o,its,n,hk,hc,hd,hs,hz,r⟩
 ·obtain⟨z,its,n,r,e⟩:=h.ok I.hok
  exact⟨its,r,⟨_,n,e,rfl,rfl,rfl⟩,z⟩
 ·refine⟨its.toList,r,⟨o,n,I.kIn a o hk,hc,hd,by simpa using hs⟩,?_⟩
  have e:=r.length
  simp only[q9]at e
  omega
theorem Inv.tuple(I:Inv X pins σ H s)(h:SqT X.K H a xs):∃its:List Value,o3 xs its/\IsTup s.heap a its.toArray/\xs.length<=c9:=by
 rcases h with h | ⟨o,its,n,hk,hc,hs,hz,r⟩
 ·obtain⟨z,its,r,p⟩:=h.ok I.hok
  exact⟨its,r,p,z⟩
 ·refine⟨its.toList,r,⟨o,I.kIn a o hk,hc,n,by simpa using hs⟩,?_⟩
  have e:=r.length
  simp only[q9]at e
  omega
theorem Inv.list_inj(I:Inv X pins σ H s)(h:SqL X.K H a xs)(h':SqL X.K H a ys):xs=ys:=by
 obtain⟨its,r,⟨o,n,e,_,_,d⟩,_⟩:=I.list h
 obtain⟨its',r',⟨o',n',e',_,_,d'⟩,_⟩:=I.list h'
 rw[e]at e';cases e'
 rw[d]at d'
 injection d' with d1 _
 have:its=its':=by simpa using congrArg Array.toList d1
 subst this
 exact r.inj r'
end
abbrev Cx.wish(X:Cx)(E:Value->b5->Prop):Cx:={ X with xe:=E }
abbrev Cx.nox(X:Cx):Cx:=X.wish fun _ _=>False
theorem Cx.Ok.wish(ok:X.Ok)(E:Value->b5->Prop):(X.wish E).Ok:=
 ⟨ok.mod,ok.kind,ok.glob,ok.blt,ok.above,ok.inj,ok.has,ok.cab,ok.hd,ok.frames,ok.stk,ok.exf,ok.bs,ok.bsz,ok.noex,ok.exfs,ok.funs,ok.frf⟩
theorem Cx.Ok.unwish{E:Value->b5->Prop}(ok:(X.wish E).Ok):X.Ok:=
 ⟨ok.mod,ok.kind,ok.glob,ok.blt,ok.above,ok.inj,ok.has,ok.cab,ok.hd,ok.frames,ok.stk,ok.exf,ok.bs,ok.bsz,ok.noex,ok.exfs,ok.funs,ok.frf⟩
section
variable {E:Value->b5->Prop}
theorem Inv.wish(I:Inv X pins σ H s)(E:Value->b5->Prop):Inv (X.wish E) pins σ H s:=⟨I.ok.wish E,I.os,I.bare,I.base,I.loc,I.cell,I.free,I.freeC,I.pin,I.hok,I.len⟩
theorem Inv.unwish(I:Inv (X.wish E) pins σ H s):Inv X pins σ H s:=⟨I.ok.unwish,I.os,I.bare,I.base,I.loc,I.cell,I.free,I.freeC,I.pin,I.hok,I.len⟩
theorem SP.unwish{D:a2c}{f:Flow}{s':b5}(h:SP (X.wish E) pins D f s'):SP X pins D f s':=by
 cases f with
 | next=>obtain⟨σ',H',I,q⟩:=h;exact⟨σ',H',I.unwish,q⟩
 | brk=>obtain⟨σ',H',I,q⟩:=h;exact⟨σ',H',I.unwish,q⟩
 | cont=>obtain⟨σ',H',I,q⟩:=h;exact⟨σ',H',I.unwish,q⟩
 | ret u=>obtain⟨v,σ',H',I,r,q⟩:=h;exact⟨v,σ',H',I.unwish,r,q⟩
theorem PSs.nox{st:List Stmt}{t:TS}(h:PSs X.nox st t):PSs X st t:=fun pins s σ H D I hw=>
 O0 (h pins s σ H D (I.wish _) hw) (fun _ _ q=>q.unwish) fun _ _ z=>False.elim z
end
section
variable {st:Stmt}{W7:List Stmt}{t u:TS}
def A0:TS:=fun D σ H=>D.nx σ H
def m8(t u:TS):TS:=fun D σ H=>t { D with nx:=u D } σ H
theorem b0t:PSs X [] A0:=fun _ _ σ H _ I h=>a7Q ⟨σ,H,I,h⟩
theorem a8N(h1:PS X st t)(h2:PSs X W7 u):PSs X (st::W7) (m8 t u):=by
 intro pins s σ H D I h
 refine wpAny_execs_cons (thn (h1 pins s σ H { D with nx:=u D } I h) fun f s1 q=>?_)
 cases f with
 | next=>
  obtain⟨σ',H',I',q⟩:=q
  exact h2 pins s1 σ' H' D I' q
 | ret v=>exact q
 | brk=>exact q
 | cont=>exact q
theorem b0s(h1:PS X st t):PSs X [st] t:=by
 intro pins s σ H D I h
 refine wpAny_execs_cons (thn (h1 pins s σ H D I h) fun f s1 q=>?_)
 cases f with
 | next=>exact a7Q q
 | ret v=>exact q
 | brk=>exact q
 | cont=>exact q
theorem Inv.quiet(I:Inv X pins σ H s):interactive X.env=false:=by simp[interactive,I.ok.kind]
def a4g(te:TE):TS:=fun D σ H=>te σ H fun _ H1=>D.nx σ H1
theorem b0u(he:PE X e te)(hs:a7S e none pos.line X.env=pure false:=by rfl):PS X (.Expr e pos) (a4g te):=by
 intro pins s σ H D I h
 exact wpAny_Expr_any (thn (he pins s σ H _ I h) fun v s1 ⟨x,H1,I1,r1,q1⟩=>⟨σ,H1,I1,q1⟩) I.quiet hs
def z6(te:TE):TS:=fun D σ H=>te σ H D.rt
theorem b2A(he:PE X e te):PS X (.Return (some e) pos) (z6 te):=by
 intro pins s σ H D I h
 exact wpAny_Return_some (thn (he pins s σ H _ I h) fun v s1 ⟨x,H1,I1,r1,q1⟩=>⟨x,σ,H1,I1,r1,q1⟩)
def F6(c:TT)(t u:TS):TS:=fun D σ H=>c σ H fun b H1=>if b=true then t D σ H1 else u D σ H1
theorem b4w{c:Expr}{a b:List Stmt}{tc:TT}(hc:PT X c tc)(ha:PSs X a t)(hb:PSs X b u):PS X (.If c a b pos) (F6 tc t u):=by
 intro pins s σ H D I h
 refine wpAny_If (thn (hc pins s σ H _ I h) fun d s1 ⟨H1,I1,q1⟩=>?_)
 cases d with
 | true=>exact ha pins s1 σ H1 D I1 q1
 | false=>exact hb pins s1 σ H1 D I1 q1
end
abbrev TG:=V->St->Hp->(St->Hp->Prop)->Prop
variable{g:TG}
abbrev TGs:=List V->St->Hp->(St->Hp->Prop)->Prop
def PG(X:Cx)(target:Expr)(t:TG):Prop:=
 ∀(pins:List (Addr×Obj)) (s:b5) (σ:St) (H:Hp) (v:V) (u:Value) (Q:St->Hp->Prop),Inv X pins σ H s->m3 v u->t v σ H Q ->
  wpAny (model X.prog X.w) X.A (b1D target X.env u) (fun _ s'=>∃σ' H',Inv X pins σ' H' s'/\Q σ' H') X.xe s
def PGs(X:Cx)(ts:List Expr)(t:TGs):Prop:=
 ∀(pins:List (Addr×Obj)) (s:b5) (σ:St) (H:Hp) (vs:List V) (us:List Value) (Q:St->Hp->Prop),Inv X pins σ H s->o3 vs us->t vs σ H Q ->
  wpAny (model X.prog X.w) X.A (assignInOrder ((L1 ts X.env).map (·.2)) us) (fun _ s'=>∃σ' H',Inv X pins σ' H' s'/\Q σ' H') X.xe s
abbrev a2b:=V->V->V->Hp->(Hp->Prop)->Prop
def a9C(X:Cx)(t:a2b):Prop:=
 ∀(pins:List (Addr×Obj)) (s:b5) (σ:St) (H:Hp) (o i v:V) (ov iv u:Value) (Q:Hp->Prop),Inv X pins σ H s->m3 o ov->m3 i iv->m3 v u->t o i v H Q ->
  wpAny (model X.prog X.w) X.A (b5a ov iv u) (fun _ s'=>∃H',Inv X pins σ H' s'/\Q H') X.xe s
abbrev TIp:=V->V->Hp->VK->Prop
def PIp(X:Cx)(op:a7J)(t:TIp):Prop:=
 ∀(pins:List (Addr×Obj)) (s:b5) (σ:St) (H:Hp) (x y:V) (v u:Value) (Q:VK),Inv X pins σ H s->m3 x v->m3 y u->t x y H Q ->
  wpAny (model X.prog X.w) X.A (inplaceOp op v u) (EP X pins σ Q) X.xe s
section
def l4(i:Nat):TG:=fun v σ H Q=>Q (σ.set i (some v)) H
theorem b0A(hN:X.N.Nodup)(hi:X.N[i]? = some x)(hx:Loc X.env.scope x)(hf:X.fn x=true\/X.env.scope.names.lookup x=some .local:=by first | exact .inl rfl | exact .inr rfl | assumption):PG X (.Name x pos) (l4 i):=by
 intro pins s σ H v u Q I r h
 exact wpAny_assign_Name (a1s I hN hi hx r (fun s' I'=>⟨_,H,I',h⟩) hf)
def b1k:TGs:=fun vs σ H Q=>vs=[]/\Q σ H
def a2D(t:TG)(u:TGs):TGs:=fun vs σ H Q=>∃v r,vs=v::r/\t v σ H fun σ' H'=>u r σ' H' Q
theorem b0z:PGs X [] b1k:=by
 intro pins s σ H vs us Q I r h
 obtain⟨e,h⟩:=h
 subst e
 cases r
 exact assignInOrder_nil ⟨σ,H,I,h⟩
theorem a8S{t:TG}{u:TGs}(h1:PG X e t)(h2:PGs X es u)
  (hs:(L1 (e::es) X.env).map (·.2)=b1D e X.env::(L1 es X.env).map (·.2):=by rfl):PGs X (e::es) (a2D t u):=by
 intro pins s σ H vs us Q I r h
 obtain⟨v,vr,e1,h⟩:=h
 subst e1
 cases r with
 | cons r rr=>
  rw[hs]
  refine assignInOrder_cons (thn (h1 pins s σ H _ _ _ I r h) fun _ s1 ⟨σ1,H1,I1,q1⟩=>?_)
  exact h2 pins s1 σ1 H1 _ _ Q I1 rr q1
def b1j(K:Fg)(n:Nat)(t:TGs):TG:=fun v σ H Q=>∃a xs,v=.ref a/\SqT K H a xs/\xs.length=n/\t xs σ H Q
theorem b2E{k:Nat}{t:TGs}{n:Nat}(hc:X.calm=true)(h:PGs X es t)
  (hn:(L1 es X.env).length=n:=by rfl) (hst:(L1 es X.env).findIdx? (·.1)=none:=by rfl):PG X (.Tuple es k pos) (b1j X.K n t):=by
 intro pins s σ H v u Q I r hw
 obtain⟨a,xs,e1,hq,hl,hw⟩:=hw
 subst e1
 cases r
 obtain⟨its,rv,ht,hz⟩:=I.tuple hq
 refine assign_Tuple_tuple (I.ok.hd hc) ht (by simp[hn,<-hl,rv.length]) hst fun h' hx=>?_
 have I1:Inv X pins σ H { s with heap:=h' }:=I.kept (t':=s.toks) fun b o e=>hx b o (o4 (c8 e)) e
 exact h pins _ σ H xs _ Q I1 (by simpa using rv) hw
def a7t(to ti:TE)(t:a2b):TG:=fun v σ H Q=>to σ H fun o H1=>ti σ H1 fun i H2=>t o i v H2 fun H3=>Q σ H3
theorem b2F{o i:Expr}{to ti:TE}{t:a2b}(ho:PE X o to)(hi:PE X i ti)(hs:a9C X t)
  (ha:∀v,b1D (.Subscript o i pos) X.env v=(do
   let ov <-a1g [v] (eval o X.env)
   let iv <-a1g [v,ov] (eval i X.env)
   standAt pos
   a1g [v,ov,iv] (b5a ov iv v)
   release [v,ov,iv] []):=by intro _;rfl):PG X (.Subscript o i pos) (a7t to ti t):=by
 intro pins s σ H v u Q I r h
 rw[ha]
 refine b9 (U0 (thn (ho pins s σ H _ I h) fun ov s1 ⟨x,H1,I1,r1,q1⟩=>?_))
 refine b9 (U0 (thn (hi pins s1 σ H1 _ I1 q1) fun iv s2 ⟨y,H2,I2,r2,q2⟩=>?_))
 refine b9 (wpAny_standAt (b9 (U0 (thn (hs pins s2 σ H2 x y v ov iv u _ I2 r1 r2 r q2) fun _ s3 ⟨H3,I3,q3⟩=>?_))))
 exact wpAny_release ⟨σ,H3,I3,q3⟩
def z8(te:TE)(g:TG):TS:=fun D σ H=>te σ H fun x H1=>g x σ H1 D.nx
theorem b2C(he:PE X e te)(hg:PG X tg g)(hs:swapsWithSole [tg] e pos.line X.env=pure false:=by rfl)(hw:swappedStores [tg] e X.env=pure none:=by rfl)
  (h1:(L1 [tg] X.env).map (·.2)=[b1D tg X.env]:=by rfl):PS X (.Assign [tg] e pos) (z8 te g):=by
 intro pins s σ H D I h
 refine wpAny_Assign_stores (thn (he pins s σ H _ I h) fun v s1 ⟨x,H1,I1,r1,q1⟩=>?_) hs hw
 rw[h1]
 exact thn (hg pins s1 σ H1 x v _ I1 r1 q1) fun _ s2 q=>q
theorem b2z{pos':Pos}(hN:X.N.Nodup)(hi:X.N[i]? = some x)(hx:Loc X.env.scope x)(he:PE X e te)(hs:a7S e (some (.Name x pos')) pos.line X.env=pure false:=by rfl)(hf:X.fn x=true\/X.env.scope.names.lookup x=some .local:=by first | exact .inl rfl | exact .inr rfl | assumption) :
  PS X (.Assign [.Name x pos'] e pos) (z8 te (l4 i)):=by
 intro pins s σ H D I h
 refine wpAny_Assign_Name (thn (he pins s σ H _ I h) fun v s1 ⟨y,H1,I1,r1,q1⟩=>?_) hs
 exact a1s I1 hN hi hx r1 (fun s2 I2=>⟨_,H1,I2,q1⟩) hf
def a6i(to ti te:TE)(tget:V->V->Hp->VK->Prop)(tip:TIp)(tset:a2b):TS:=fun D σ H=>to σ H fun o H1=>ti σ H1 fun i H2=>tget o i H2 fun x H3=>te σ H3 fun y H4=>tip x y H4 fun z H5=>tset o i z H5 fun H6=>D.nx σ H6
def b3C(X:Cx)(t:V->V->Hp->VK->Prop):Prop:=
 ∀(pins:List (Addr×Obj)) (s:b5) (σ:St) (H:Hp) (o i:V) (ov iv:Value) (Q:VK),Inv X pins σ H s->m3 o ov->m3 i iv->t o i H Q ->
  wpAny (model X.prog X.w) X.A (a0p ov iv) (EP X pins σ Q) X.xe s
theorem b0v{o i:Expr}{to ti:TE}{tget:V->V->Hp->VK->Prop}{tip:TIp}{tset:a2b}{op:a7J}{tpos:Pos}(ho:PE X o to)(hi:PE X i ti)(hg:b3C X tget)(he:PE X e te)(hp:PIp X op tip)(hs:a9C X tset)
  (ha:∀ov iv new,augStore i ov iv new=(do a1g [new,ov,iv] (b5a ov iv new);release [new,ov,iv] [];pure .next):=by intros;rfl):PS X (.AugAssign (.Subscript o i tpos) op e pos) (a6i to ti te tget tip tset):=by
 intro pins s σ H D I h
 refine wpAny_AugAssign_SubscriptAny (thn (ho pins s σ H _ I h) fun ov s1 ⟨x1,H1,I1,r1,q1⟩=>?_) ha
 refine thn (hi pins s1 σ H1 _ I1 q1) fun iv s2 ⟨x2,H2,I2,r2,q2⟩=>?_
 refine thn (hg pins s2 σ H2 x1 x2 ov iv _ I2 r1 r2 q2) fun old s3 ⟨x3,H3,I3,r3,q3⟩=>?_
 refine thn (he pins s3 σ H3 _ I3 q3) fun v s4 ⟨x4,H4,I4,r4,q4⟩=>?_
 refine thn (hp pins s4 σ H4 x3 x4 old v _ I4 r3 r4 q4) fun new s5 ⟨x5,H5,I5,r5,q5⟩=>?_
 exact thn (hs pins s5 σ H5 x1 x2 x5 ov iv new _ I5 r1 r2 r5 q5) fun _ s6 ⟨H6,I6,q6⟩=>⟨σ,H6,I6,q6⟩
def ipI(f:Int->Int->Int):TIp:=fun x y H Q=>∃i j,x=.int i/\y=.int j/\Q (.int (f i j)) H
theorem b3s:PIp X .Add (ipI fun i j=>i+j):=by
 intro pins s σ H x y v u Q I r1 r2 h
 obtain⟨i,j,e1,e2,q⟩:=h
 subst e1;subst e2
 obtain⟨t,rfl⟩:=r1
 obtain⟨t',rfl⟩:=r2
 exact iadd_int ⟨.int _,H,I.tok _,⟨_,rfl⟩,q⟩
end
section
end
structure It where
 go:Nat->Hp->Prop
 yld:Nat->Hp->V->Hp->Prop
 stop:Nat->Hp->Prop
def a0T(X:Cx)(pins:List (Addr×Obj))(H:Hp)(b:Addr):Prop:=
 H b=none/\b≠X.env.locals/\b∉X.fs/\(b∈X.ex\/X.s₀.heap.objs.size<=b)/\(∀x c,X.env.cells.lookup x=some c->c≠b)/\∀p∈X.pn++pins,p.1≠b
theorem Inv.fpOk(I:Inv X pins σ H s)(hb:s.heap.objs.size<=b)(hn:H' b=none):a0T X pins H' b:=by
 refine⟨hn,Nat.ne_of_gt (f8 I.lt hb),I.nofs hb,.inr (j3 I.sz hb),fun x c e z=>?_,fun p hp z=>?_⟩
 ·obtain⟨v,q⟩:=I.cell x c e
  exact absurd (f8 q.lt (by rw[z];exact hb)) (A2 _)
 ·exact absurd (f8 (c8 (I.pin p hp).1) (by rw[z];exact hb)) (A2 _)
structure a7D(P:g7)(w:World)(K:Fg)(tg:Expr)(J:It)(fp:List Addr)(it:Addr)(tn:Nat->Heap->Prop):Prop where
 mem:it∈fp
 obj:∀i h,tn i h->∀b∈fp,∃o,h.get? b=some o/\∀v,o.data≠.cell v
 keep:∀i h h',tn i h->(∀b∈fp,∀o,h.get? b=some o->h'.get? b=some o)->tn i h'
 item:∀(X:Cx),X.prog=P->X.w=w->X.K=K->X.calm=true->∀(i:Nat) (pins:List (Addr×Obj)) (s:b5) (σ:St) (H:Hp) (E:Value->b5->Prop),Inv X pins σ H s->(∀b∈fp,a0T X pins H b)->tn i s.heap->J.go i H ->
  wpAny (model P w) X.A (pyNext (.ref it)) (fun r s1=>∃u,r=some u /\
   wpAny (model P w) X.A (U5 tg (.ref it) u) (fun _ s2=>∃x H',Inv X pins σ H' s2/\m3 x u/\J.yld i H x H'/\tn (i+1) s2.heap/\∀b∈fp,H' b=none) E s1) E s
 done:∀(X:Cx),X.prog=P->X.w=w->X.K=K->X.calm=true->∀(i:Nat) (pins:List (Addr×Obj)) (s:b5) (σ:St) (H:Hp) (E:Value->b5->Prop),Inv X pins σ H s->(∀b∈fp,a0T X pins H b)->tn i s.heap->J.stop i H ->
  wpAny (model P w) X.A (pyNext (.ref it)) (fun r s1=>r=none/\Inv X pins σ H s1) E s
 self:∀(A:u6) (i:Nat) (s:b5) (Q:Value->b5->Prop) (E:Value->b5->Prop),tn i s.heap->Q (.ref it) s->wpAny (model P w) A (pyIter (.ref it)) Q E s
abbrev TI:=St->Hp->(It->Hp->Prop)->Prop
def PIE(X:Cx)(pins:List (Addr×Obj))(σ:St)(tg:Expr)(R:It->Hp->Prop)(itv:Value)(s2:b5):Prop:=
 ∃(it:Addr) (fp:List Addr) (tn:Nat->Heap->Prop) (J:It) (H':Hp),itv=.ref it/\Inv X pins σ H' s2/\a7D X.prog X.w X.K tg J fp it tn/\tn 0 s2.heap/\(∀b∈fp,a0T X pins H' b)/\R J H'
def PI(X:Cx)(tg iter:Expr)(wi:TI):Prop:=
 ∀(pins:List (Addr×Obj)) (s:b5) (σ:St) (H:Hp) (R:It->Hp->Prop),Inv X pins σ H s->wi σ H R ->
  wpAny (model X.prog X.w) X.A (eval iter X.env) (fun v s1=>wpAny (model X.prog X.w) X.A (pyIter v) (PIE X pins σ tg R) X.xe s1) X.xe s
theorem a9m{M:Model}{A:u6}{E:Value->b5->Prop}{it:Addr}{o:Obj}{n:String}{vs:Array Value}{Q:Unit->b5->Prop}(ho:s.heap.get? it=some o)(hc:o.cls=.type n)(hd:o.data=.fields vs)
  (hn:["enumerate","zip","dict_itemiterator","dict_reverseitemiterator","odict_iterator","itertools.zip_longest","itertools.pairwise"].contains n=false) (hQ:Q () s):wpAny M A (U5 tg (.ref it) u) Q E s:=by
 unfold U5
 cases tg <;> first
  | exact f6 hQ
  | (cases u <;> first
    | exact f6 hQ
    | (refine b9 (wpAny_load ho ?_)
       rw[hc,hd]
       show wpAny M A (if(["enumerate","zip","dict_itemiterator","dict_reverseitemiterator","odict_iterator","itertools.zip_longest","itertools.pairwise"].contains n&&vs[0]? == some (rawInt _))=true then _ else _) Q E s
       rw[if_neg (by intro h;rw[hn,z0]at h;cases h)]
       exact f6 hQ))
def Itl(K:Fg)(a:Addr):It:=
 ⟨fun i H=>∃xs x,SqL K H a xs/\xs[i]? = some x,fun i H x H'=>H'=H/\∀xs,SqL K H a xs->xs[i]? = some x,fun i H=>∃xs,SqL K H a xs/\xs.length<=i⟩
def Itr(lo:Int)(n:Nat):It:=⟨fun i _=>i<n,fun i H x H'=>H'=H/\x=.int (lo+i),fun i _=>n<=i⟩
theorem a6Q{P:g7}{K:Fg}(a it:Addr):a7D P w K tg (Itl K a) [it] it (fun i h=>h.IsListIter it a i) where
 mem:=by simp
 obj:=fun i h st b hb=>by
  have e:b=it:=by simpa using hb
  subst e
  obtain⟨o,e,c,d⟩:=st
  exact⟨o,e,fun v z=>by rw[d]at z;cases z⟩
 keep:=fun i h h' st k=>st.at fun o e=>k it (by simp) o e
 item:=by
  intro X hP hw hK hc i pins s σ H E I hf st hg
  subst hP hw hK
  obtain⟨xs,x,hq,hx⟩:=hg
  obtain⟨its,rv,p,hz⟩:=I.list hq
  obtain⟨u,hu,ru⟩:=rv.get hx
  obtain⟨f0,f1,f2,f3,f4,f5⟩:=hf it (by simp)
  refine wpAny_pyNext_list_item st p.isList (x:=u) (by simpa using hu) fun h' st' sb=>?_
  have I1:Inv X pins σ H { s with heap:=h' }:=I.turned (t':=s.toks) (fun b o hb e=>(sb.2 b hb).trans e) f0 f1 f3 f4 f5
  obtain⟨o,e,c,d⟩:=id st'
  exact⟨u,rfl,a9m (s:={ s with heap:=h' }) e c d (by decide) ⟨x,H,I1,ru,⟨rfl,fun ys hy=>by rw[I.list_inj hy hq];exact hx⟩,st',fun b hb=>(hf b hb).1⟩⟩
 done:=by
  intro X hP hw hK hc i pins s σ H E I hf st hg
  subst hP hw hK
  obtain⟨xs,hq,hx⟩:=hg
  obtain⟨its,rv,p,hz⟩:=I.list hq
  obtain⟨f0,f1,f2,f3,f4,f5⟩:=hf it (by simp)
  have hl:=rv.length
  exact wpAny_pyNext_list_end (I.ok.hd hc) st p.isList (by simp;omega) fun h' eb=>⟨rfl,I.turned (t':=s.toks) (fun b o hb e=>eb b o hb e) f0 f1 f3 f4 f5⟩
 self:=fun _ _ _ _ _ st h=>wpAny_pyIter_listiter st h
theorem a5b{P:g7}{K:Fg}(it:Addr)(lo:Int)(n:Nat):a7D P w K tg (Itr lo n) [it] it (fun i h=>IsRangeIter h it (lo+(i:Nat) * 1) ((n:Int) - (i:Nat)) 1) where
 mem:=by simp
 obj:=fun i h st b hb=>by
  have e:b=it:=by simpa using hb
  subst e
  exact⟨_,st,fun v z=>by
   have z':Data.fields _=Data.cell v:=z
   cases z'⟩
 keep:=fun i h h' st k=>k it (by simp) _ st
 item:=by
  intro X hP hw hK hc i pins s σ H E I hf st hg
  subst hP hw hK
  obtain⟨f0,f1,f2,f3,f4,f5⟩:=hf it (by simp)
  have W:=Walks.range (prog:=X.prog) (w:=X.w) (I.ok.hd hc) it lo 1 n
  refine W.item i s _ _ hg st fun v h' tk hv st' kk=>?_
  obtain⟨t,rfl⟩:=hv
  have I1:Inv X pins σ H { s with heap:=h',toks:=tk }:=I.turned (fun b o hb e=>kk b o (by simpa using hb) e) f0 f1 f3 f4 f5
  refine⟨_,rfl,a9m (s:={ s with heap:=h',toks:=tk }) (n := "range_iterator") st' rfl rfl (by decide) ⟨.int (lo+i),H,I1,⟨t,?_⟩,⟨rfl,rfl⟩,st',fun b hb=>(hf b hb).1⟩⟩
  rw[Int.mul_one]
 done:=by
  intro X hP hw hK hc i pins s σ H E I hf st hg
  subst hP hw hK
  obtain⟨f0,f1,f2,f3,f4,f5⟩:=hf it (by simp)
  exact wpAny_pyNext_range_end (I.ok.hd hc) st (by have:n<=i:=hg;omega) fun h' eb=>⟨rfl,I.turned (t':=s.toks) (fun b o hb e=>eb b o hb e) f0 f1 f3 f4 f5⟩
 self:=fun _ _ _ _ _ st h=>wpAny_pyIter_rangeiter st h
section
def a4D(K:Fg)(tl:TE):TI:=fun σ H R=>tl σ H fun x H1=>∃a,x=.ref a/\(∃xs,SqL K H1 a xs)/\R (Itl K a) H1
theorem b0y{l:Expr}{tl:TE}(hl:PE X l tl):PI X tg l (a4D X.K tl):=by
 intro pins s σ H R I h
 refine thn (hl pins s σ H _ I h) fun v s1 ⟨x,H1,I1,r1,q1⟩=>?_
 obtain⟨a,e,⟨xs,hq⟩,q⟩:=q1
 subst e
 cases r1
 obtain⟨its,rv,p,hz⟩:=I1.list hq
 refine wpAny_pyIter_list p.isList ?_
 refine⟨s1.heap.objs.size,[s1.heap.objs.size],_,_,H1,rfl,I1.kept (t':=s1.toks) fun b o e=>c5 _ e,a6Q a _,⟨_,l5 _ rfl,rfl,rfl⟩,fun b hb=>?_,q⟩
 have e:b=s1.heap.objs.size:=by simpa using hb
 subst e
 exact I1.fpOk (a8 _) (I1.hok.fresh (a8 _))
theorem a8B{R:It->Hp->Prop}{E:Value->b5->Prop}{lo hi:Int}{t u v:Tok}{tk:Nat}(I:Inv X pins σ H s)(h1 : -(2 ^ 62)<=lo)(h2:lo<2 ^ 62)(h3 : -(2 ^ 62)<=hi)(h4:hi<2 ^ 62)
  (q:R (Itr lo (hi - lo).toNat) H):wpAny (model X.prog X.w) X.A (pyIter (.ref s.heap.objs.size)) (PIE X pins σ tg R) E { s with heap:=s.heap.push { cls:=.type "range",data:=.fields #[.int lo t,.int hi u,.int 1 v] },toks:=tk }:=by
 refine wpAny_pyIter_range (IsRange.new ..) (small_one h1 h2 h3 h4) ?_
 have I1:Inv X pins σ H { s with heap:=s.heap.push { cls:=.type "range",data:=.fields #[.int lo t,.int hi u,.int 1 v] },toks:=tk }:=I.kept fun b o e=>c5 _ e
 refine⟨(s.heap.push { cls:=.type "range",data:=.fields #[.int lo t,.int hi u,.int 1 v] }).objs.size,[(s.heap.push { cls:=.type "range",data:=.fields #[.int lo t,.int hi u,.int 1 v] }).objs.size],_,_,H,rfl,
  I1.kept (t':=tk) fun b o e=>c5 _ e,a5b _ lo (hi - lo).toNat,?_,fun b hb=>?_,q⟩
 ·have e1:lo+((0:Nat):Int) * 1=lo:=by simp
  have e2:(((hi - lo).toNat:Nat):Int) - ((0:Nat):Int)=Builtin.Range.rangeSize lo hi 1:=by rw[rangeSize_one];split <;> omega
  show IsRangeIter _ _ (lo+((0:Nat):Int) * 1) ((((hi - lo).toNat:Nat):Int) - ((0:Nat):Int)) 1
  rw[e1,e2]
  exact l5 _ rfl
 ·have e:b=(s.heap.push { cls:=.type "range",data:=.fields #[.int lo t,.int hi u,.int 1 v] }).objs.size:=by simpa using hb
  subst e
  exact I1.fpOk (a8 _) (I1.hok.fresh (a8 _))
def a2C(ta:TA):TI:=fun σ H R=>ta σ H fun vs H1=>∃j:Int,vs=[.int j] /\ -(2 ^ 62)<=j/\j<2 ^ 62/\R (Itr 0 j.toNat) H1
theorem a7b{a:Expr}{ta:TA}(hg:Gl X "range")(hm:X.mg "range" = none)(ha:PA X [a] ta)(hs:c4 [a] X.env=[(false,eval a X.env)]:=by rfl):PI X tg (.Call (.Name "range" p) [a] [] pos) (a2C ta):=by
 intro pins s σ H R I h
 refine Call_ (a1I I hg hm boot_range (N3 (thn (ha pos pins s σ H _ I h) fun us s1 ⟨vs,H1,I1,r1,q1⟩=>?_) hs rfl))
 obtain⟨j,e,q1,q2,q⟩:=q1
 subst e
 cases r1 with
 | cons r rr=>
  cases rr
  obtain⟨t,rfl⟩:=r
  exact call_range_1 (a8B I1 (by omega) (by omega) q1 q2 (by simpa using q))
def a5f(wi:TI)(g:TG)(tb:TS):TS:=fun D σ H=>wi σ H fun J H1=>∃W:Nat->Nat->St->Hp->Prop,(∃m,W 0 m σ H1)/\∀i m σ H,W i m σ H ->
 (J.stop i H/\D.nx σ H)\/(J.go i H/\∃N:St->Hp->Prop,(∀σ' H',N σ' H'->∃m',m'<m/\W (i+1) m' σ' H')/\∀x H',J.yld i H x H'->g x σ H' fun σ2 H2=>tb { D with nx:=N,ct:=N,bk:=D.nx } σ2 H2)
def a0B(fp:List Addr)(h:Heap):List (Addr×Obj):=fp.filterMap fun b=>(h.get? b).map fun o=>(b,o)
theorem S8{fp:List Addr}{o:Obj}(hb:b∈fp)(e:h.get? b=some o):(b,o)∈a0B fp h:=a9L.mpr ⟨b,hb,by rw[e];rfl⟩
theorem a7j{fp:List Addr}{p:Addr×Obj}(hp:p∈a0B fp h):p.1∈fp/\h.get? p.1=some p.2:=by
 obtain⟨b,hb,e⟩:=a9L.mp hp
 cases q:h.get? b with
 | none=>rw[q]at e;cases e
 | some o=>
  rw[q]at e
  have e':(b,o)=p:=Option.some.inj e
  subst e'
  exact⟨hb,q⟩
theorem Inv.pinned{fp:List Addr}(I:Inv X pins σ H s)(hf:∀b∈fp,a0T X pins H b)(ho:∀b∈fp,∃o,s.heap.get? b=some o/\∀v,o.data≠.cell v):Inv X (pins++a0B fp s.heap) σ H s:=
 I.pins_of fun p hp=>(E5.mp hp).elim (fun z=>I.pin p (j5 _ z)) fun z=>by
  obtain⟨hb,e⟩:=a7j z
  obtain⟨f0,f1,f2,_⟩:=hf p.1 hb
  obtain⟨o,e',d⟩:=ho p.1 hb
  rw[e]at e';cases e'
  exact⟨e,f0,f1,f2,d⟩
theorem Inv.unpinned{pl:List (Addr×Obj)}(I:Inv X (pins++pl) σ H s):Inv X pins σ H s:=I.pins_of fun p hp=>I.pin p (j5 _ (Y5 _ hp))
theorem b2B{iter:Expr}{body:List Stmt}{wi:TI}{tb:TS}(hp:PassesOwn (model X.prog X.w) X.A X.env X.xe)(hc:X.calm=true)(hi:PI X tg iter wi)(hg:PG X tg g)(hb:PSs X body tb)
  (hs:∀x,Y6 iter X.env x=pure x:=by intro _;rfl):PS X (.For tg iter body [] pos) (a5f wi g tb):=by
 intro pins s σ H D I h
 refine wpAny_For (thn (hi pins s σ H _ I h) fun v s1 h1=>thn h1 fun itv s2 h2=>?_) hs
 obtain⟨it,fp,tn,J,H2,e,I2,T,st2,f2,W,⟨m0,w0⟩,turn⟩:=h2
 subst e
 have stat:∀ {H':Hp},(∀b∈fp,H' b=none)->∀b∈fp,a0T X pins H' b:=fun hn b hb=>⟨hn b hb,(f2 b hb).2⟩
 refine codeAny_forLoop_any (fun n s'=>∃i σ' H',Inv X pins σ' H' s'/\tn i s'.heap/\(∀b∈fp,H' b=none)/\W i n σ' H') ?_ m0 ⟨0,σ,H2,I2,st2,fun b hb=>(f2 b hb).1,w0⟩
 rintro n s3 ⟨i,σ3,H3,I3,st3,fr3,w3⟩
 rcases turn i n σ3 H3 w3 with ⟨stop,qn⟩ | ⟨go,N,hN,step⟩
 ·refine U3 hp (thn (T.done X rfl rfl rfl hc i pins s3 σ3 H3 X.xe I3 (stat fr3) st3 stop) fun r s4 ⟨hr,I4⟩=>?_)
  subst hr
  exact a7Q ⟨σ3,H3,I4,qn⟩
 ·refine U3 hp (thn (T.item X rfl rfl rfl hc i pins s3 σ3 H3 X.xe I3 (stat fr3) st3 go) fun r s4 ⟨u,hr,h4⟩=>?_)
  subst hr
  refine U3 hp (thn h4 fun _ s5 ⟨x,H5,I5,r5,y5,st5,fr5⟩=>?_)
  have I5':=I5.pinned (stat fr5) (T.obj _ _ st5)
  refine U3 hp (thn (hg _ s5 σ3 H5 x u _ I5' r5 (step x H5 y5)) fun _ s6 ⟨σ6,H6,I6,q6⟩=>?_)
  refine U3 hp (thn (hb _ s6 σ6 H6 _ I6 q6) fun f s7 q7=>?_)
  have again:∀ {σ7:St} {H7:Hp},Inv X (pins++a0B fp s5.heap) σ7 H7 s7->N σ7 H7->∃m,m<n/\∃i σ' H',Inv X pins σ' H' s7/\tn i s7.heap/\(∀b∈fp,H' b=none)/\W i m σ' H':=fun {σ7 H7} I7 n7=>by
   obtain⟨m',hm,w7⟩:=hN σ7 H7 n7
   refine⟨m',hm,i+1,σ7,H7,I7.unpinned,T.keep _ _ _ st5 fun b hb o e=>(I7.pin (b,o) (j5 _ (j5 _ (S8 hb e)))).1,fun b hb=>?_,w7⟩
   obtain⟨o,e,d⟩:=T.obj _ _ st5 b hb
   exact(I7.pin (b,o) (j5 _ (j5 _ (S8 hb e)))).2.1
  cases f with
  | next=>obtain⟨σ7,H7,I7,n7⟩:=q7;exact again I7 n7
  | cont=>obtain⟨σ7,H7,I7,n7⟩:=q7;exact again I7 n7
  | brk=>obtain⟨σ7,H7,I7,q7⟩:=q7;exact⟨σ7,H7,I7.unpinned,q7⟩
  | ret v=>obtain⟨x7,σ7,H7,I7,r7,q7⟩:=q7;exact⟨x7,σ7,H7,I7.unpinned,r7,q7⟩
end
theorem a9n{K:Fg}{tb:TS}{D:a2c}(Pv:Nat->St->Hp->Prop)(h0:Pv 0 σ H)(hl:∀i σ H,i<=xs.length->Pv i σ H->SqL K H a xs)
  (hs:∀i x σ H,xs[i]? = some x->Pv i σ H->g x σ H fun σ2 H2=>tb { D with nx:=Pv (i+1),ct:=Pv (i+1),bk:=D.nx } σ2 H2) (hd:∀σ H,Pv xs.length σ H->D.nx σ H) :
  ∃W:Nat->Nat->St->Hp->Prop,(∃m,W 0 m σ H)/\∀i m σ H,W i m σ H ->
   ((Itl K a).stop i H/\D.nx σ H)\/((Itl K a).go i H/\∃N:St->Hp->Prop,(∀σ' H',N σ' H'->∃m',m'<m/\W (i+1) m' σ' H')/\∀x H',(Itl K a).yld i H x H'->g x σ H' fun σ2 H2=>tb { D with nx:=N,ct:=N,bk:=D.nx } σ2 H2):=by
 refine⟨fun i m σ H=>m=xs.length - i/\i<=xs.length/\Pv i σ H,⟨xs.length,by simp,y0 _,h0⟩,?_⟩
 rintro i m σ H ⟨rfl,hi,p⟩
 have q:=hl i σ H hi p
 by_cases hlt:i<xs.length
 ·refine .inr ⟨⟨xs,xs[i],q,by simp[hlt]⟩,Pv (i+1),fun σ' H' p'=>⟨xs.length - (i+1),by omega,rfl,hlt,p'⟩,fun x H' y=>?_⟩
  obtain⟨e,y⟩:=y
  subst e
  exact hs i x σ _ (y xs q) p
 ·have e:i=xs.length:=by omega
  subst e
  exact .inl ⟨⟨xs,q,a8 _⟩,hd σ H p⟩
theorem a2E{lo:Int}{n:Nat}{tb:TS}{D:a2c}(Pv:Nat->St->Hp->Prop)(h0:Pv 0 σ H)
  (hs:∀i σ H,i<n->Pv i σ H->g (.int (lo+i)) σ H fun σ2 H2=>tb { D with nx:=Pv (i+1),ct:=Pv (i+1),bk:=D.nx } σ2 H2) (hd:∀σ H,Pv n σ H->D.nx σ H) :
  ∃W:Nat->Nat->St->Hp->Prop,(∃m,W 0 m σ H)/\∀i m σ H,W i m σ H ->
   ((Itr lo n).stop i H/\D.nx σ H)\/((Itr lo n).go i H/\∃N:St->Hp->Prop,(∀σ' H',N σ' H'->∃m',m'<m/\W (i+1) m' σ' H')/\∀x H',(Itr lo n).yld i H x H'->g x σ H' fun σ2 H2=>tb { D with nx:=N,ct:=N,bk:=D.nx } σ2 H2):=by
 refine⟨fun i m σ H=>m=n - i/\i<=n/\Pv i σ H,⟨n,by simp,y0 _,h0⟩,?_⟩
 rintro i m σ H ⟨rfl,hi,p⟩
 by_cases hlt:i<n
 ·refine .inr ⟨hlt,Pv (i+1),fun σ' H' p'=>⟨n - (i+1),by omega,rfl,hlt,p'⟩,fun x H' y=>?_⟩
  obtain⟨e,y⟩:=y
  subst e y
  exact hs i σ _ hlt p
 ·have e:i=n:=by omega
  subst e
  exact .inl ⟨a8 _,hd σ H p⟩
abbrev R2:=V->V->Hp->VK->Prop
variable{r:R2}
def OpR(X:Cx)(f:Value->Value->Sem Value)(r:R2):Prop:=
 ∀(pins:List (Addr×Obj)) (s:b5) (σ:St) (H:Hp) (x y:V) (v u:Value) (Q:VK),Inv X pins σ H s->m3 x v->m3 y u->r x y H Q ->
  wpAny (model X.prog X.w) X.A (f v u) (EP X pins σ Q) X.xe s
def UnR(X:Cx)(f:Value->Sem Value)(r:V->Hp->VK->Prop):Prop:=
 ∀(pins:List (Addr×Obj)) (s:b5) (σ:St) (H:Hp) (x:V) (v:Value) (Q:VK),Inv X pins σ H s->m3 x v->r x H Q ->
  wpAny (model X.prog X.w) X.A (f v) (EP X pins σ Q) X.xe s
def J4(X:Cx)(f:Value)(r:List V->Hp->VK->Prop):Prop:=
 ∀(pins:List (Addr×Obj)) (s:b5) (σ:St) (H:Hp) (xs:List V) (us:List Value) (Q:VK),Inv X pins σ H s->o3 xs us->r xs H Q ->
  wpAny (model X.prog X.w) X.A (call f us) (EP X pins σ Q) X.xe s
def tOp(r:R2)(ta tb:TE):TE:=fun σ H Q=>ta σ H fun x H1=>tb σ H1 fun y H2=>r x y H2 Q
def tUn(r:V->Hp->VK->Prop)(ta:TE):TE:=fun σ H Q=>ta σ H fun x H1=>r x H1 Q
def rI(C:Int->Int->Prop)(g:Int->Int->V):R2:=fun x y H Q=>∃i j,x=.int i/\y=.int j/\C i j/\Q (g i j) H
def rI0(g:Int->Int->V):R2:=fun x y H Q=>∃i j,x=.int i/\y=.int j/\Q (g i j) H
def rU(g:Int->V):V->Hp->VK->Prop:=fun x H Q=>∃i,x=.int i/\Q (g i) H
section
variable {a b c:Expr}{tb tc:TE}
theorem b3w(ha:PE X a ta)(hb:PE X b tb){R:V->V->Hp->Prop}(I:Inv X pins σ H s)
  (h:ta σ H fun x H1=>tb σ H1 fun y H2=>R x y H2) {Q:Value->b5->Prop} {f:Value->Value->Sem Value}
  (hf:∀v u s2 x y H2,Inv X pins σ H2 s2->m3 x v->m3 y u->R x y H2->wpAny (model X.prog X.w) X.A (f v u) Q X.xe s2) :
  wpAny (model X.prog X.w) X.A (eval a X.env) (fun v s₁=>wpAny (model X.prog X.w) X.A (eval b X.env) (fun u s₂=>wpAny (model X.prog X.w) X.A (f v u) Q X.xe s₂) X.xe s₁) X.xe s:=by
 refine thn (ha pins s σ H _ I h) fun v s1 ⟨x,H1,I1,r1,q1⟩=>?_
 refine thn (hb pins s1 σ H1 _ I1 q1) fun u s2 ⟨y,H2,I2,r2,q2⟩=>?_
 exact hf v u s2 x y H2 I2 r1 r2 q2
theorem b4y{op:a7J}(ho:OpR X (y4 op) r)(ha:PE X a ta)(hb:PE X b tb):PE X (.BinOp a op b pos) (tOp r ta tb):=by
 intro pins s σ H Q I h
 exact wpAny_BinOp (b3w ha hb I h fun v u s2 x y H2 I2 rx ry q=>ho pins s2 σ H2 x y v u Q I2 rx ry q)
theorem b1N{op:UnaryOp}{r:V->Hp->VK->Prop}(ho:UnR X (unaryOp op) r)(ha:PE X a ta):PE X (.UnaryOp op a pos) (tUn r ta):=by
 intro pins s σ H Q I h
 exact UnaryOp_ (thn (ha pins s σ H _ I h) fun v s1 ⟨x,H1,I1,r1,q1⟩=>ho pins s1 σ H1 x v Q I1 r1 q1)
theorem opI{f:Value->Value->Sem Value}{C:Int->Int->Prop}{g:Int->Int->Int}
  (rule:∀(i j:Int) (t u:Tok) (s:b5) (Q:Value->b5->Prop) (E:Value->b5->Prop),C i j->Q (.int (g i j) s.toks) { s with toks:=s.toks+1 }->wpAny (model X.prog X.w) X.A (f (.int i t) (.int j u)) Q E s) :
  OpR X f (rI C fun i j=>.int (g i j)):=by
 intro pins s σ H x y v u Q I rx ry h
 obtain⟨i,j,rfl,rfl,hc,q⟩:=h
 obtain⟨t,rfl⟩:=rx
 obtain⟨t',rfl⟩:=ry
 exact rule i j t t' s _ _ hc ⟨.int (g i j),H,I.tok _,⟨_,rfl⟩,q⟩
theorem b4J{f:Value->Value->Sem Value}{g:Int->Int->Int}
  (rule:∀(i j:Int) (t u:Tok) (s:b5) (Q:Value->b5->Prop) (E:Value->b5->Prop),Q (.int (g i j) s.toks) { s with toks:=s.toks+1 }->wpAny (model X.prog X.w) X.A (f (.int i t) (.int j u)) Q E s) :
  OpR X f (rI0 fun i j=>.int (g i j)):=by
 intro pins s σ H x y v u Q I rx ry h
 obtain⟨i,j,rfl,rfl,q⟩:=h
 obtain⟨t,rfl⟩:=rx
 obtain⟨t',rfl⟩:=ry
 exact rule i j t t' s _ _ ⟨.int (g i j),H,I.tok _,⟨_,rfl⟩,q⟩
theorem b0T{f:Value->Value->Sem Value}{g:Int->Int->Bool}
  (rule:∀(i j:Int) (t u:Tok) (s:b5) (Q:Value->b5->Prop) (E:Value->b5->Prop),Q (.bool (g i j)) s->wpAny (model X.prog X.w) X.A (f (.int i t) (.int j u)) Q E s) :
  OpR X f (rI0 fun i j=>.bl (g i j)):=by
 intro pins s σ H x y v u Q I rx ry h
 obtain⟨i,j,rfl,rfl,q⟩:=h
 obtain⟨t,rfl⟩:=rx
 obtain⟨t',rfl⟩:=ry
 exact rule i j t t' s _ _ ⟨.bl (g i j),H,I,rfl,q⟩
def b4T(i j:Int):Prop:=0<=j/\j<=1000000/\i.natAbs<2 ^ 64
def b1w(i j:Int):Prop:=(-(2 ^ 64)<i/\i<2 ^ 64)\/(-(2 ^ 64)<j/\j<2 ^ 64)
theorem b1w.ok{i j:Int}(h:b1w i j):IntMulOk i j:=by
 rcases h with ⟨h1,h2⟩ | ⟨h1,h2⟩
 ·exact .of_left (intBits_le_64 h1 h2)
 ·exact .of_right (intBits_le_64 h1 h2)
theorem b3c:OpR X (y4 .Add) (rI0 fun i j=>.int (i+j)):=b4J fun _ _ _ _ _ _ _ q=>add_int q
theorem b2R:OpR X (y4 .Sub) (rI0 fun i j=>.int (i - j)):=b4J fun _ _ _ _ _ _ _ q=>sub_int q
theorem b2Z:OpR X (y4 .Mult) (rI b1w fun i j=>.int (i * j)):=opI fun _ _ _ _ _ _ _ hc q=>mul_int q hc.ok
theorem b3a:OpR X (y4 .Mod) (rI (fun _ j=>0<j) fun i j=>.int (i % j)):=opI fun i j _ _ _ _ _ hc q=>by
 have h1:(0:Int)<j:=hc
 exact mod_int' (by omega) (by rw[Int.fmod_eq_emod_of_nonneg i (by omega)];exact q)
theorem b2Y:OpR X (y4 .Pow) (rI b4T fun i j=>.int (i ^ j.toNat)):=opI fun _ _ _ _ _ _ _ hc q=>pow_int_small hc.1 hc.2.1 hc.2.2 q
theorem unI{f:Value->Sem Value}{g:Int->Int}
  (rule:∀(i:Int) (t:Tok) (s:b5) (Q:Value->b5->Prop) (E:Value->b5->Prop),Q (.int (g i) s.toks) { s with toks:=s.toks+1 }->wpAny (model X.prog X.w) X.A (f (.int i t)) Q E s) :
  UnR X f (rU fun i=>.int (g i)):=by
 intro pins s σ H x v Q I rx h
 obtain⟨i,rfl,q⟩:=h
 obtain⟨t,rfl⟩:=rx
 exact rule i t s _ _ ⟨.int (g i),H,I.tok _,⟨_,rfl⟩,q⟩
theorem a8i:UnR X (unaryOp .USub) (rU fun i=>.int (-i)):=unI fun _ _ _ _ _ q=>neg_int q
end
def a4i:V->V->Bool
 | .non,.non=>true | .non,.int _=>true | .int _,.non=>true | .non,.bl _=>true | .bl _,.non=>true | .non,.str _=>true | .str _,.non=>true
 | .int _,.int _=>true | .bl _,.bl _=>true | .str _,.str _=>true | .byt _,.byt _=>true
 | .int _,.str _=>true | .str _,.int _=>true | .bl _,.str _=>true | .str _,.bl _=>true
 | _,_=>false
def rEq:R2:=fun x y H Q=>a4i x y=true/\Q (.bl (decide (x=y))) H
def rNe:R2:=fun x y H Q=>a4i x y=true/\Q (.bl (!decide (x=y))) H
theorem a6A{i j:Int}:decide (V.int i=V.int j)=(i == j):=by
 rw[P5]
 simp
theorem a9t{i j:Bool}:decide (V.bl i=V.bl j)=(i == j):=by
 rw[P5]
 simp
theorem a6z{i j:Str}:decide (V.str i=V.str j)=(i == j):=by
 rw[P5]
 simp
theorem a6B{i j:Array UInt8}:decide (V.byt i=V.byt j)=(i.toList == j.toList):=by
 rw[P5]
 cases i
 cases j
 simp
section
variable {a b c:Expr}{tb tc:TE}
theorem u4{Q:VK}{k k':Bool}(I:Inv X pins σ H s)(q:Q (.bl k) H)(e:k=k'):EP X pins σ Q (.bool k') s:=by
 subst e
 exact⟨.bl k,H,I,rfl,q⟩
theorem b4I:OpR X (d9 .Eq) rEq:=by
 intro pins s σ H x y v u Q I rx ry h
 obtain⟨hs,q⟩:=h
 cases x with
 | non=>
  cases rx
  cases y with
  | non=>cases ry;exact PySem.EqNone.eq_none_none (u4 I q (by simp))
  | bl j=>cases ry;exact PySem.EqNone.eq_none_bool (u4 I q (by simp))
  | int j=>obtain⟨t',rfl⟩:=ry;exact PySem.EqNone.eq_none_int (u4 I q (by simp))
  | str j=>obtain⟨t',rfl⟩:=ry;exact PySem.EqNone.eq_none_str (u4 I q (by simp))
  | _=>exact absurd (show false=true from hs) c7
 | bl i=>
  cases rx
  cases y with
  | non=>cases ry;exact PySem.EqNone.eq_bool_none (u4 I q (by simp))
  | bl j=>cases ry;exact eq_bool (u4 I q a9t)
  | str j=>obtain⟨t',rfl⟩:=ry;exact PySem.EqMixed.eq_bool_str (u4 I q (by simp))
  | _=>exact absurd (show false=true from hs) c7
 | int i=>
  obtain⟨t,rfl⟩:=rx
  cases y with
  | non=>cases ry;exact PySem.EqNone.eq_int_none (u4 I q (by simp))
  | int j=>obtain⟨t',rfl⟩:=ry;exact eq_int (u4 I q a6A)
  | str j=>obtain⟨t',rfl⟩:=ry;exact PySem.EqMixed.eq_int_str (u4 I q (by simp))
  | _=>exact absurd (show false=true from hs) c7
 | str i=>
  obtain⟨t,rfl⟩:=rx
  cases y with
  | non=>cases ry;exact PySem.EqNone.eq_str_none (u4 I q (by simp))
  | bl j=>cases ry;exact PySem.EqMixed.eq_str_bool (u4 I q (by simp))
  | int j=>obtain⟨t',rfl⟩:=ry;exact PySem.EqMixed.eq_str_int (u4 I q (by simp))
  | str j=>obtain⟨t',rfl⟩:=ry;exact eq_str (u4 I q a6z)
  | _=>exact absurd (show false=true from hs) c7
 | byt i=>
  obtain⟨t,rfl⟩:=rx
  cases y with
  | byt j=>obtain⟨t',rfl⟩:=ry;exact PySem.W.eq_bytes (u4 I q a6B)
  | _=>exact absurd (show false=true from hs) c7
 | _=>cases y <;> exact absurd (show false=true from hs) c7
theorem b4D:OpR X (d9 .NotEq) rNe:=by
 intro pins s σ H x y v u Q I rx ry h
 obtain⟨hs,q⟩:=h
 cases x with
 | non=>
  cases rx
  cases y with
  | non=>cases ry;exact PySem.EqNone.ne_none_none (u4 I q (by simp))
  | bl j=>cases ry;exact PySem.EqNone.ne_none_bool (u4 I q (by simp))
  | int j=>obtain⟨t',rfl⟩:=ry;exact PySem.EqNone.ne_none_int (u4 I q (by simp))
  | str j=>obtain⟨t',rfl⟩:=ry;exact PySem.EqNone.ne_none_str (u4 I q (by simp))
  | _=>exact absurd (show false=true from hs) c7
 | bl i=>
  cases rx
  cases y with
  | non=>cases ry;exact PySem.EqNone.ne_bool_none (u4 I q (by simp))
  | bl j=>cases ry;exact ne_bool (u4 I q (congrArg not a9t))
  | str j=>obtain⟨t',rfl⟩:=ry;exact PySem.EqMixed.ne_bool_str (u4 I q (by simp))
  | _=>exact absurd (show false=true from hs) c7
 | int i=>
  obtain⟨t,rfl⟩:=rx
  cases y with
  | non=>cases ry;exact PySem.EqNone.ne_int_none (u4 I q (by simp))
  | int j=>obtain⟨t',rfl⟩:=ry;exact ne_int (u4 I q (congrArg not a6A))
  | str j=>obtain⟨t',rfl⟩:=ry;exact PySem.EqMixed.ne_int_str (u4 I q (by simp))
  | _=>exact absurd (show false=true from hs) c7
 | str i=>
  obtain⟨t,rfl⟩:=rx
  cases y with
  | non=>cases ry;exact PySem.EqNone.ne_str_none (u4 I q (by simp))
  | bl j=>cases ry;exact PySem.EqMixed.ne_str_bool (u4 I q (by simp))
  | int j=>obtain⟨t',rfl⟩:=ry;exact PySem.EqMixed.ne_str_int (u4 I q (by simp))
  | str j=>obtain⟨t',rfl⟩:=ry;exact ne_str (u4 I q (congrArg not a6z))
  | _=>exact absurd (show false=true from hs) c7
 | byt i=>
  obtain⟨t,rfl⟩:=rx
  cases y with
  | byt j=>obtain⟨t',rfl⟩:=ry;exact PySem.W.ne_bytes (u4 I q (congrArg not a6B))
  | _=>exact absurd (show false=true from hs) c7
 | _=>cases y <;> exact absurd (show false=true from hs) c7
theorem b4E:OpR X (d9 .Lt) (rI0 fun i j=>.bl (decide (i<j))):=b0T fun _ _ _ _ _ _ _ q=>lt_int q
theorem b4F:OpR X (d9 .LtE) (rI0 fun i j=>.bl (decide (i<=j))):=b0T fun _ _ _ _ _ _ _ q=>le_int q
theorem b4G:OpR X (d9 .Gt) (rI0 fun i j=>.bl (decide (j<i))):=b0T fun _ _ _ _ _ _ _ q=>gt_int q
theorem b4H:OpR X (d9 .GtE) (rI0 fun i j=>.bl (decide (j<=i))):=b0T fun _ _ _ _ _ _ _ q=>ge_int q
theorem a7f:OpR X (d9 .In) (fun x y H Q=>∃i j,x=.str i/\y=.str j/\Q (.bl (!(Builtin.Str.occurrences j i 0 j.length 1).isEmpty)) H):=by
 intro pins s σ H x y v u Q I rx ry h
 obtain⟨i,j,rfl,rfl,q⟩:=h
 obtain⟨t,rfl⟩:=rx
 obtain⟨t',rfl⟩:=ry
 exact in_str (u4 I q rfl)
theorem OpR.or{f:Value->Value->Sem Value}{r':R2}(h:OpR X f r)(h':OpR X f r'):OpR X f (fun x y H Q=>r x y H Q\/r' x y H Q):=by
 intro pins s σ H x y v u Q I rx ry q
 rcases q with q | q
 ·exact h pins s σ H x y v u Q I rx ry q
 ·exact h' pins s σ H x y v u Q I rx ry q
theorem a0G(b:Expr){op:CmpOp}(h:op≠.In:=by decide)(h2:op≠.NotIn:=by decide):D6 op b=false:=by
 have e1:(op == CmpOp.In)=false:=by cases op <;> first | rfl | exact absurd rfl h
 have e2:(op == CmpOp.NotIn)=false:=by cases op <;> first | rfl | exact absurd rfl h2
 cases b <;> simp[D6,e1,e2]
theorem b0F{op:CmpOp}(ho:OpR X (d9 op) r)(ha:PE X a ta)(hb:PE X b tb)(hm:D6 op b=false):PE X (.Compare a [op] [b] pos) (tOp r ta tb):=by
 intro pins s σ H Q I h
 exact wpAny_Compare1 (b3w ha hb I h fun v u s2 x y H2 I2 rx ry q=>ho pins s2 σ H2 x y v u Q I2 rx ry q) hm
def y9(t:TE):TT:=fun σ H Q=>t σ H fun x H'=>∃k,x=.bl k/\Q k H'
theorem b0r{op:CmpOp}(ho:OpR X (d9 op) r)(ha:PE X a ta)(hb:PE X b tb)(hm:D6 op b=false):PT X (.Compare a [op] [b] pos) (y9 (tOp r ta tb)):=by
 intro pins s σ H Q I h
 refine b3R (thn (ha pins s σ H _ I h) fun v s1 ⟨x,H1,I1,r1,q1⟩=>thn (hb pins s1 σ H1 _ I1 q1) fun u s2 ⟨y,H2,I2,r2,q2⟩=>
  thn (ho pins s2 σ H2 x y v u _ I2 r1 r2 q2) fun c s3 ⟨z,H3,I3,r3,k,e,q3⟩=>?_) hm
 subst e
 cases r3
 exact t9 ⟨H3,I3,q3⟩
def S0(r r':R2)(ta tb tc:TE):TE:=fun σ H Q=>ta σ H fun x H1=>tb σ H1 fun y H2=>r x y H2 fun z H3=>∃k,z=.bl k /\
 (if k=true then tc σ H3 fun w' H4=>r' y w' H4 Q else Q (.bl false) H3)
theorem a8W{op op':CmpOp}{r':R2}(ho:OpR X (d9 op) r)(ho':OpR X (d9 op') r')(ha:PE X a ta)(hb:PE X b tb)(hc:PE X c tc)
  (hm:b3U [op,op'] [b,c]=false:=by with_unfolding_all rfl):PE X (.Compare a [op,op'] [b,c] pos) (S0 r r' ta tb tc):=by
 intro pins s σ H Q I h
 refine Compare_chain (thn (ha pins s σ H _ I h) fun v s1 ⟨x,H1,I1,r1,q1⟩=>chain_link (thn (hb pins s1 σ H1 _ I1 q1) fun u s2 ⟨y,H2,I2,r2,q2⟩=>
  thn (ho pins s2 σ H2 x y v u _ I2 r1 r2 q2) fun d s3 ⟨z,H3,I3,r3,k,e,q3⟩=>?_)) hm
 subst e
 cases r3
 refine t9 ?_
 cases k with
 | false=>exact ite_ff ⟨.bl false,H3,I3,rfl,q3⟩
 | true=>exact ite_tt (chain_last (thn (hc pins s3 σ H3 _ I3 q3) fun w' s4 ⟨z',H4,I4,r4,q4⟩=>ho' pins s4 σ H4 y z' u w' Q I4 r2 r4 q4))
theorem a8M{op op':CmpOp}{r':R2}(ho:OpR X (d9 op) r)(ho':OpR X (d9 op') r')(ha:PE X a ta)(hb:PE X b tb)(hc:PE X c tc)
  (hm:b3U [op,op'] [b,c]=false:=by with_unfolding_all rfl):PT X (.Compare a [op,op'] [b,c] pos) (y9 (S0 r r' ta tb tc)):=by
 intro pins s σ H Q I h
 refine isTrue_chain (thn (ha pins s σ H _ I h) fun v s1 ⟨x,H1,I1,r1,q1⟩=>test_link (thn (hb pins s1 σ H1 _ I1 q1) fun u s2 ⟨y,H2,I2,r2,q2⟩=>
  thn (ho pins s2 σ H2 x y v u _ I2 r1 r2 q2) fun d s3 ⟨z,H3,I3,r3,k,e,q3⟩=>?_)) hm
 subst e
 cases r3
 refine t9 ?_
 cases k with
 | false=>
  obtain⟨k',e',q'⟩:=q3
  cases e'
  exact ite_ff ⟨H3,I3,q'⟩
 | true=>
  refine ite_tt (test_last (thn (hc pins s3 σ H3 _ I3 q3) fun w' s4 ⟨z',H4,I4,r4,q4⟩=>thn (ho' pins s4 σ H4 y z' u w' _ I4 r2 r4 q4) fun d' s5 ⟨z2,H5,I5,r5,k2,e2,q5⟩=>?_))
  subst e2
  cases r5
  exact t9 ⟨H5,I5,q5⟩
theorem Y1:(c9:Nat)<2 ^ 63:=by rw[sizeLine_eq];decide
theorem a5z:OpR X (y4 .Add) (fun x y H Q=>∃i j,x=.str i/\y=.str j/\i.length+j.length<=c9/\Q (.str (i++j)) H):=by
 intro pins s σ H x y v u Q I rx ry h
 obtain⟨i,j,rfl,rfl,hz,q⟩:=h
 obtain⟨t,rfl⟩:=rx
 obtain⟨t',rfl⟩:=ry
 exact add_str (fun t' tk=>⟨.str (i++j),H,I.tok _,⟨_,rfl⟩,q⟩) hz
theorem a2n{x:V}(r:o3 [x] us):∃u,us=[u]/\m3 x u:=by
 cases r with
 | cons r1 r2=>cases r2;exact⟨_,rfl,r1⟩
theorem b3W{x:V}(r:o3 [x,y] us):∃u w',us=[u,w']/\m3 x u/\m3 y w':=by
 cases r with
 | cons r1 r2=>
  cases r2 with
  | cons r3 r4=>cases r4;exact⟨_,_,rfl,r1,r3⟩
theorem a9y:J4 X (.builtin "abs") (fun xs H Q=>∃i,xs=[.int i]/\Q (.int (if i<0 then -i else i)) H):=by
 intro pins s σ H xs us Q I r h
 obtain⟨i,rfl,q⟩:=h
 obtain⟨u,rfl,t,rfl⟩:=a2n r
 exact call_abs_int fun u tk=>⟨.int (if i<0 then -i else i),H,I.tok _,⟨_,rfl⟩,q⟩
end
structure b3D(h:Heap)(x dx C:Addr)(mA:Str->Option Value):Prop where
 obj:h.get? x=some (a1O C dx)
 ns:h.Ns1 dx mA
 ne:dx≠x
theorem a7m{mA:Str->Option Value}(n:h.Ns1 dx mA):∃od,h.get? dx=some od/\∀name,a2e name od=some (mA name):=by
 obtain⟨o,es,ep,ho,hd,hk,_,hm⟩:=n
 refine⟨o,ho,fun name=>?_⟩
 have e:=hm name
 unfold nsFind findBy at e
 rw[<-Array.find?_toList]at e
 unfold a2e
 rw[hd]
 dsimp only
 split
 ·rename_i y q
  rw[q]at e
  exact congrArg some e
 ·rename_i q
  rw[q]at e
  have a:es.toList.any (·.refKey)=false:=by
   rw[List.any_eq_false]
   intro y hy
   obtain⟨z,t,hkey⟩:=hk y (Array.mem_toList_iff.mp hy)
   simp[DictEntry.refKey,hkey]
  have a':¬es.toList.any (·.refKey)=true:=by rw[a];exact c7
  rw[if_neg a']
  exact congrArg some e
theorem b3D.look{x:Addr}{mA:Str->Option Value}(I:b3D h x dx C mA):∃od,PySem.W.InstAt h x (a1O C dx) C (some od)/\∀name,a2e name od=some (mA name):=
 let⟨od,ho,hl⟩:=a7m I.ns
 ⟨od,⟨I.obj,rfl,rfl,ho⟩,hl⟩
section
variable {prog:g7}{A:u6}{E:Value->b5->Prop}{K:Fg}{x:Addr}{mA:Str->Option Value}{name:Str}{v:Value}
end
theorem a1M.some_of{o:Option Value}(r:a1M (some v) o):∃u,o=some u/\m3 v u:=by
 cases o with
 | none=>exact(show False from r).elim
 | some u=>exact⟨u,rfl,r⟩
section
variable {P:g7}{fs fs':List (Str×V)}
theorem b1i(hok:HOk P w H h)(e:H a=some (.ins C dx fs)):∃mA,b3D h a dx C mA/\(∀f,a1M (fs.lookup f) (mA f))/\PySem.Within mA (fs.map (·.1))/\fs.length<=1000/\H dx=some (.own a):=by
 obtain⟨d,z,ne,ob,mA,n,r,q⟩:=(show A7 P w H h a (.ins C dx fs)from hok a _ e)
 exact⟨mA,⟨ob,n,ne⟩,r,q,z,d⟩
end
structure Cls(K:Fg)(C:Addr):Prop where
 pg:a0V K C Str.empty=true
 hd:a7N K C=true
 po:a7K K C=true
 sa:C7 K (.ref C) "__setattr__" = some (some (.builtin "object.__setattr__"))
theorem Cls.get{K:Fg}(c:Cls K C)(f:Str):a0V K C f=true:=c.pg
structure Con(K:Fg)(C:Addr)(f:Str)(v:V)(u:Value):Prop where
 at_:C7 K (.ref C) f=some (some u)
 rel:m3 v u
 get:a0J K u "__get__" = some none
 cp:PySem.W.copiedNames.contains f=false
structure b5x(K:Fg)(C:Addr)(m:Str)(f:Addr):Prop where
 at_:C7 K (.ref C) m=some (some (.ref f))
 fn:a4M K (.ref f)=true
 kp:C6 K (.ref f)=true
section
variable {fs:List (Str×V)}{f:Str}{A:u6}{E:Value->b5->Prop}
end
section
variable {o value:Expr}{f:Str}{pos' tpos:Pos}{tv:TE}
end
section
variable {A:u6}{E:Value->b5->Prop}{c:Value}{b:Bool}
inductive a0I(K:Fg)(H:Hp):V->Value->Prop where
 | non:a0I K H .non (.type "NoneType")
 | bl (x:Bool):a0I K H (.bl x) (.type "bool")
 | int (i:Int):a0I K H (.int i) (.type "int")
 | str (x:Str):a0I K H (.str x) (.type "str")
 | flt (x:UInt64):a0I K H (.flt x) (.type "float")
 | lst {a:Addr} {xs:List V} (e:H a=some (.lst xs)):a0I K H (.ref a) (.type "list")
 | frz {a:Addr} {o:Obj} {xs:List V} (e:H a=some (.frz o (.lst xs))):a0I K H (.ref a) (.type "list")
 | tup {a:Addr} {xs:List V} (e:H a=some (.tup xs)):a0I K H (.ref a) (.type "tuple")
 | dK {a:Addr} {kvs:List (Key×V)} (e:H a=some (.dK kvs)):a0I K H (.ref a) (.type "dict")
 | dT {a:Addr} {kvs:List (List Key×V)} (e:H a=some (.dT kvs)):a0I K H (.ref a) (.type "dict")
 | ins {a C dx:Addr} {fs:List (Str×V)} (e:H a=some (.ins C dx fs)) (cl:Cls K C) (ha:C7 K (.ref C) "__class__" = some (some (.builtin "object.__class__")))
   (hn:a0J K (.builtin "object.__class__") "__get__" = some (some (.builtin "getset_descriptor.__get__"))) (htk:a9I K (.builtin "object.__class__")=some true)
   (hm:b1R K C (.type "object")=some true):a0I K H (.ref a) (.ref C)
theorem a7p{x:V}{t:Value}(I:Inv X pins σ H s)(rx:m3 x u)(ty:a0I X.K H x t)(e:b1x X.K t c=some b)(h:∀tk,Q (.bool b) { s with toks:=tk }) :
  wpAny (model X.prog X.w) A (call (.builtin "isinstance") [u,c]) Q E s:=by
 cases ty with
 | non=>cases (show u=Value.none from rx);exact u5 PySem.W.kitx_none I.kIn True.intro e (fun z=>nomatch z) h
 | bl y=>cases (show u=Value.bool y from rx);exact u5 PySem.W.kitx_bool I.kIn True.intro e (fun z=>nomatch z) h
 | int i=>obtain⟨t,q⟩:=(show ∃t,u=Value.int i t from rx);cases q;exact u5 PySem.W.kitx_int I.kIn True.intro e (fun z=>nomatch z) h
 | str y=>obtain⟨t,q⟩:=(show ∃t,u=Value.str y t from rx);cases q;exact u5 PySem.W.kitx_str I.kIn True.intro e (fun z=>nomatch z) h
 | flt y=>obtain⟨t,q⟩:=(show ∃t,u=Value.float y t from rx);cases q;exact u5 PySem.W.kitx_float I.kIn True.intro e (fun z=>nomatch z) h
 | @lst a xs ea=>
  cases (show u=Value.ref a from rx)
  obtain⟨_,_,n,_,h1⟩:=(show A7 X.prog X.w H s.heap a (.lst xs)from I.hok a _ ea)
  exact u5 a7L I.kIn ⟨_,h1,rfl⟩ e (fun z=>nomatch z) h
 | @frz a ob xs ea=>
  cases (show u=Value.ref a from rx)
  obtain⟨_,_,_,n,_,h1⟩:=(show A7 X.prog X.w H s.heap a (.frz ob (.lst xs))from I.hok a _ ea)
  exact u5 a7L I.kIn ⟨_,h1,rfl⟩ e (fun z=>nomatch z) h
 | @tup a xs ea=>
  cases (show u=Value.ref a from rx)
  obtain⟨_,_,_,p⟩:=(show A7 X.prog X.w H s.heap a (.tup xs)from I.hok a _ ea)
  obtain⟨o,h1,h2,_⟩:=p
  exact u5 PySem.W.kitx_tuple I.kIn ⟨o,h1,h2⟩ e (fun z=>nomatch z) h
 | @dK a kvs ea=>
  cases (show u=Value.ref a from rx)
  obtain⟨_,_,vs,_,p⟩:=(show A7 X.prog X.w H s.heap a (.dK kvs)from I.hok a _ ea)
  obtain⟨o,es,ep,h1,h2,_⟩:=p
  exact u5 a7M I.kIn ⟨o,h1,h2.1⟩ e (fun z=>nomatch z) h
 | @dT a kvs ea=>
  cases (show u=Value.ref a from rx)
  obtain⟨_,_,xs,_,o,es,ep,h1,h2,_⟩:=(show A7 X.prog X.w H s.heap a (.dT kvs)from I.hok a _ ea)
  exact u5 a7M I.kIn ⟨o,h1,h2.1⟩ e (fun z=>nomatch z) h
 | @ins a C dx fs ea cl ha hn htk hm=>
  cases (show u=Value.ref a from rx)
  obtain⟨mA,O,_⟩:=b1i I.hok ea
  obtain⟨od,J,_⟩:=O.look
  exact u5 (PySem.W.kitx_own (cl.get _) cl.hd ha hn htk hm) I.kIn J e (fun z=>nomatch z) h
end
structure F0(k:Nat)(A:u6):Prop where
 hd:A.handled=none
 dp:A.depth+3 * k+5<recursionLimit
 un:A.units+16 * k+200<cLine
 gd:A.guards=some []
theorem F0.mono{j k:Nat}{A:u6}(r:F0 k A)(h:j<=k):F0 j A:=⟨r.hd,by have:=r.dp;omega,by have:=r.un;omega,r.gd⟩
theorem F0.deeper{k:Nat}{A:u6}(r:F0 (k+1) A)(env:Env):F0 k (A.deeper env):=
 ⟨r.hd,by have:=r.dp;show A.depth+1+3 * k+5<_;omega,by have:=r.un;show A.units+3+16 * k+200<_;omega,r.gd⟩
theorem F0.depth{k:Nat}{A:u6}(r:F0 k A):A.depth<recursionLimit:=by have:=r.dp;omega
theorem F0.units{k:Nat}{A:u6}(r:F0 k A):A.units+64<cLine:=by have:=r.un;omega
theorem F0.units0{k:Nat}{A:u6}(r:F0 k A):A.units<cLine:=by have:=r.un;omega
def d4:TA:=fun _ H Q=>Q [] H
def a6(ta:TE)(tr:TA):TA:=fun σ H Q=>ta σ H fun x H1=>tr σ H1 fun xs H2=>Q (x::xs) H2
section
theorem b2Q:PA X [] d4:=fun _ _ _ _ H Q I h=>Calls.spliced_nil ⟨[],H,I,.nil,h⟩
theorem b0I(ha:PE X e te)(hr:PA X es t)(hs:c4 (e::es) X.env=(false,eval e X.env)::c4 es X.env:=by rfl):PA X (e::es) (a6 te t):=by
 intro pos pins s σ H Q I h
 rw[hs]
 show wpAny _ _ (spliced ((false,eval e X.env)::Q9 pos (c4 es X.env))) _ _ s
 refine Calls.spliced_cons (thn (ha pins s σ H _ I h) fun u s1 ⟨x,H1,I1,r1,q1⟩=>?_)
 exact thn (hr pos pins s1 σ H1 _ I1 q1) fun us s2 ⟨xs,H2,I2,r2,q2⟩=>⟨x::xs,H2,I2,.cons r1 r2,q2⟩
def R1(t:TA):TE:=fun σ H Q=>t σ H fun xs H1=>xs.length<=c9/\∀p,H1 p=none->Q (.ref p) (upd H1 p (.tup xs))
def R3(t:TA):TE:=fun σ H Q=>t σ H fun xs H1=>xs.length<=c9/\∀p,H1 p=none->Q (.ref p) (upd H1 p (.lst xs))
theorem b2H{x1}(h:PA X es t):PE X (.Tuple es x1 pos) (R1 t):=by
 intro pins s σ H Q I hq
 refine wpAny_Tuple_spliced (thn (h pos pins s σ H _ I hq) fun us s1 ⟨xs,H1,I1,r,z,q⟩=>⟨by rw[<-r.length];exact z,?_⟩)
 have hf:H1 s1.heap.objs.size=none:=I1.hok.fresh (a8 _)
 refine⟨.ref s1.heap.objs.size,upd H1 s1.heap.objs.size (.tup xs),I1.laid (t':=s1.toks) (fun b u e=>c5 _ e) (a8 _) ?_,rfl,q _ hf⟩
 exact⟨z,us,r,⟨_,l5 _ rfl,rfl,_,rfl⟩⟩
theorem b2O(h:PA X es t):PE X (.List es pos) (R3 t):=by
 intro pins s σ H Q I hq
 refine wpAny_List_spliced (thn (h pos pins s σ H _ I hq) fun us s1 ⟨xs,H1,I1,r,z,q⟩=>⟨by rw[<-r.length];exact z,?_⟩)
 have hf:H1 s1.heap.objs.size=none:=I1.hok.fresh (a8 _)
 refine⟨.ref s1.heap.objs.size,upd H1 s1.heap.objs.size (.lst xs),I1.laid (t':=s1.toks) (fun b u e=>c5 _ e) (a8 _) ?_,rfl,q _ hf⟩
 exact⟨z,us,0,r,l5 _ rfl⟩
end
abbrev Sp:=List V->Hp->VK->XK->Prop
abbrev CXT:=List Env->Hp->b5->XK->Value->b5->Prop
variable{CX:CXT}
structure b1v(P:g7)(w:World)(K:Fg)(mg:Str->Option Value)(base:Heap)(A:u6)(outer:List Env)(s:b5)(H:Hp):Prop where
 frames:A.frames=some outer
 mod:Mod K mg base
 bs:∀b o,base.get? b=some o->s.heap.get? b=some o/\H b=none
 bsz:base.objs.size<=s.heap.objs.size
 funs:s.heap.FunFrames base outer
 frf:∀b∈frs outer,H b=none
 hok:HOk P w H s.heap
 bare:a2U s.gens
def CE(outer:List Env)(P:g7)(w:World)(H:Hp)(s:b5)(Q:VK)(u:Value)(s':b5):Prop:=
 ∃v H',s'.os=s.os/\a2U s'.gens/\Un (frs outer) [] H H' s.heap s'.heap/\HOk P w H' s'.heap/\m3 v u/\Q v H'
def CR(CX:CXT)(outer:List Env)(P:g7)(w:World)(H:Hp)(s:b5)(Q:VK)(E:XK)(r:Result)(s':b5):Prop:=
 match r with
 | .ok (.ret u)=>CE outer P w H s Q u s'
 | .ok _=>False
 | .error e=>CX outer H s E e s'
structure D8(P:g7)(w:World)(K:Fg)(mg:Str->Option Value)(base:Heap)(CX:CXT)(k:Nat)(f:Addr)(fd:E4)(ps:List Str)(sp:Sp):Prop where
 len:∀vs H Q E,sp vs H Q E->vs.length=ps.length
 run:∀(A:u6) (outer:List Env) (s:b5) (H:Hp) (args:Args) (us:List Value) (vs:List V) (Q:VK) (E:XK),F0 k A->b1v P w K mg base A outer s H->a7X s fd args (ps.zip us)->o3 vs us->sp vs H Q E ->
  a7V (model P w) A (.call (.ref f) args) (CR CX outer P w H s Q E) s
section
variable {s':b5}
theorem Inv.env0(I:Inv X pins σ H s):b1v X.prog X.w X.K X.mg X.base X.A X.stack s H:=
 ⟨I.ok.frames,I.ok.mod,I.bs,j3 I.ok.bsz I.sz,I.stack,I.stkFree,I.hok,I.bare⟩
theorem Inv.after{Q:VK}(I:Inv X pins σ H s)(h:CE X.stack X.prog X.w H s Q u s'):EP X pins σ Q u s':=by
 obtain⟨v,H',os,bare,un,hok,r,q⟩:=h
 obtain⟨hh,g,d,t,os'⟩:=s'
 obtain rfl:os'=s.os:=os
 exact⟨v,H',I.call (h':=hh) (g':=g) (d':=d) (t':=t) (ch:=[]) un hok bare (fun b z=>absurd z (by simp)),r,q⟩
end
def h9(sp:Sp)(dvs:List V)(E:XK)(t:TA):TE:=fun σ H Q=>t σ H fun vs H1=>sp (vs++dvs) H1 Q E
def a0k(K:Fg)(fd:E4)(ps:List Str)(ds:List Value):Prop:=
 ∀(s:b5) (us:List Value),K.In s.heap->(us++ds).length=ps.length->a7X s fd ⟨us,[]⟩ (ps.zip (us++ds))
theorem a0k.all{K:Fg}{fd:E4}(h:∀us:List Value,us.length=ps.length->bindArgs fd ⟨us,[]⟩=pure (ps.zip us)):a0k K fd ps []:=fun s us _ hl=>by
 rw[b3M]at hl ⊢
 exact .of_eq (h us hl)
def a5U(CX:CXT)(X:Cx)(E:XK):Prop:=∀(pins:List (Addr×Obj)) (σ:St) (H:Hp) (s:b5) (e:Value) (s':b5),Inv X pins σ H s->CX X.stack H s E e s'->X.xe e s'
section
variable {k:Nat}{fd:E4}{sp:Sp}{dvs:List V}{ds:List Value}{E:XK}{m:Str}{apos:Pos}{o:Expr}
theorem b2m{Q:VK}{vs:List V}(F:D8 X.prog X.w X.K X.mg X.base CX k f fd ps sp)(hr:F0 k X.A)(hb:a0k X.K fd ps ds)(hd:o3 dvs ds)(hx:a5U CX X E)
  (I:Inv X pins σ H s) (r:o3 vs us) (h:sp (vs++dvs) H Q E):wpAny (model X.prog X.w) X.A (call (.ref f) us) (EP X pins σ Q) X.xe s:=by
 have r2:o3 (vs++dvs) (us++ds):=r.append hd
 have hl:(us++ds).length=ps.length:=by rw[<-r2.length];exact F.len _ _ _ _ h
 refine wpAny_call (b3V (F.run X.A X.stack s H ⟨us,[]⟩ (us++ds) (vs++dvs) Q E hr I.env0 (hb s us I.kIn hl) r2 h) fun r s' hq=>?_)
 cases r with
 | error e=>exact hx pins σ H s e s' I hq
 | ok fl=>
  cases fl with
  | ret u=>exact I.after hq
  | next=>exact False.elim hq
  | brk=>exact False.elim hq
  | cont=>exact False.elim hq
theorem b0G(F:D8 X.prog X.w X.K X.mg X.base CX k f fd ps sp)(hr:F0 k X.A)(hg:Gl X x)(hm:X.mg x=some (.ref f))(hk:C6 X.K (.ref f)=true)(hb:a0k X.K fd ps ds)(hd:o3 dvs ds)(hx:a5U CX X E)
  (ha:PA X (e::es) t) (hdb:(x == ("__debug__" : Str))=false:=by decide) (he:c4 (e::es) X.env=(false,eval e X.env)::c4 es X.env:=by rfl) (hpl:(Q9 pos (c4 es X.env)).any (·.1)=false:=by rfl) :
  PE X (.Call (.Name x p) (e::es) [] pos) (h9 sp dvs E t):=by
 intro pins s σ H Q I h
 refine a3O (a6u I hg hm ?_ hdb)
 refine PySem.W.callWith_K (h₀:=X.base) I.ok.mod.kin hk (thn (ha pos pins s σ H _ I h) fun us s1 ⟨vs,H1,I1,r,q⟩=>⟨I1.kIn,?_⟩) he hpl
 exact b2m F hr hb hd hx I1 r q
structure Mk(K:Fg)(C f:Addr):Prop where
 makes:a9J K C=true
 init:C7 K (.ref C) "__init__" = some (some (.ref f))
 fn:a4M K (.ref f)=true
 kp:C6 K (.ref C)=true
end
section
variable {k:Nat}{fd:E4}{ks:List Str}{sp:Sp}{E:XK}{m:Str}{apos kpos:Pos}{o:Expr}{kws:List a2T}{tk:TA}{nm:Option Str}
structure b5z(K:Fg)(fd:E4)(ps ks:List Str)(g:List Value->List Value->List Value)(gV:List V->List V->List V):Prop where
 to:∀(s:b5) (us ws:List Value),K.In s.heap->(g us ws).length=ps.length->a7X s fd ⟨us,ks.zip ws⟩ (ps.zip (g us ws))
 rel:∀ {vs:List V} {us:List Value} {zs:List V} {ws:List Value},o3 vs us->o3 zs ws->o3 (gV vs zs) (g us ws)
variable {g:List Value->List Value->List Value}{gV:List V->List V->List V}
end
structure n9(N P:List Str)(sc:Scope):Prop where
 kind:sc.kind=.function
 co:sc.isCoroutine=false
 gen:sc.isGenerator=false
 nd:N.Nodup
 pre:N.take P.length=P
 par:∀x∈P,sc.names.lookup x=some .local\/sc.names.lookup x=some .cell
 nofree:∀y∈sc.names,y.2≠.free
theorem a2J{kindOf:Str->Option a0q}:∀ {binds:List (Str×Value)} {m:Str->Option Value},(∀v,(x,v)∉binds)->bindL kindOf binds m x=m x
 | [],_,_=>rfl
 | (n,v)::r,m,h=>by
  unfold bindL
  rw[a2J fun w hw=>h w (l7 _ hw)]
  split
  ·have:x≠n:=by rintro rfl;exact h v E3
   simp[this]
  ·rfl
theorem a2L{kindOf:Str->Option a0q}:∀ {binds:List (Str×Value)} {m:Str->Option Value},(∀v,(x,v)∉binds)->bindC kindOf binds m x=m x
 | [],_,_=>rfl
 | (n,v)::r,m,h=>by
  unfold bindC
  rw[a2L fun w hw=>h w (l7 _ hw)]
  split
  ·rfl
  ·have:x≠n:=by rintro rfl;exact h v E3
   simp[this]
theorem a2K{kindOf:Str->Option a0q}{v:Value}:∀ {P:List Str} {vs:List Value} {i:Nat} {m:Str->Option Value},P.Nodup->P[i]? = some x->vs[i]? = some v->kindOf x=some .local ->
  bindL kindOf (P.zip vs) m x=some v
 | [],_,_,_,_,h,_,_=>by simp at h
 | _::_,[],_,_,_,_,h,_=>by simp at h
 | p::P,w::vs,0,m,nd,h1,h2,hk=>by
  simp at h1 h2;subst h1;subst h2
  show bindL kindOf ((p,w)::P.zip vs) m p=_
  unfold bindL
  rw[a2J fun v hv=>(X1.mp nd).1 (a2P hv).1,if_pos hk]
  simp
 | p::P,w::vs,i+1,m,nd,h1,h2,hk=>by
  show bindL kindOf ((p,w)::P.zip vs) m x=_
  unfold bindL
  exact a2K (i:=i) (X1.mp nd).2 (by simpa using h1) (by simpa using h2) hk
theorem a2M{kindOf:Str->Option a0q}{v:Value}:∀ {P:List Str} {vs:List Value} {i:Nat} {m:Str->Option Value},P.Nodup->P[i]? = some x->vs[i]? = some v->kindOf x≠some .local ->
  bindC kindOf (P.zip vs) m x=some v
 | [],_,_,_,_,h,_,_=>by simp at h
 | _::_,[],_,_,_,_,h,_=>by simp at h
 | p::P,w::vs,0,m,nd,h1,h2,hk=>by
  simp at h1 h2;subst h1;subst h2
  show bindC kindOf ((p,w)::P.zip vs) m p=_
  unfold bindC
  rw[a2L fun v hv=>(X1.mp nd).1 (a2P hv).1,if_neg hk]
  simp
 | p::P,w::vs,i+1,m,nd,h1,h2,hk=>by
  show bindC kindOf ((p,w)::P.zip vs) m x=_
  unfold bindC
  exact a2M (i:=i) (X1.mp nd).2 (by simpa using h1) (by simpa using h2) hk
def Z3(N:List Str)(vs:List V):St:=vs.map some++a3M (N.length - vs.length) none
def a4I(CX:CXT)(P:g7)(w:World)(K:Fg)(mg:Str->Option Value)(base:Heap)(N:List Str)(qual:Str)(scope:Scope)(f:Addr)(cd:Value)(A:u6)(outer:List Env)(s:b5)(H:Hp)(E:XK):Cx where
 prog:=P
 w:=w
 K:=K
 mg:=mg
 base:=base
 A:=A.deeper (a3P qual scope s.heap.objs.size f cd)
 N:=N
 s₀:=s
 H₀:=H
 env:=a3P qual scope s.heap.objs.size f cd
 outer:=outer
 stack:=a3P qual scope s.heap.objs.size f cd::outer
 ex:=[]
 calm:=true
 fn:=fun _=>true
 pn:=[]
 xe:=fun e s'=>wpAny (model P w) (A.deeper (a3P qual scope s.heap.objs.size f cd)) (leaving (a3P qual scope s.heap.objs.size f cd) e) (fun _ s''=>CX outer H s E e s'') (fun e' s''=>CX outer H s E e' s'') s'
theorem a4K{sc:Scope}{n:Nat}(h:sc.names.lookup x=some .cell):∃c,(cellsFrom n sc.names []).lookup x=some c:=by
 have q:=a4N sc.names n [] (.inl h)
 exact R9.mp q
theorem a7q{P:g7}{K:Fg}{mg:Str->Option Value}{base:Heap}{N:List Str}{qual:Str}{scope:Scope}{cd:Value}{A:u6}{outer:List Env}{s1:b5}{E:XK}{vs:List V}
  (S:n9 N ps scope) (hd:A.handled=none) (e0:b1v P w K mg base A outer s H) (hl:vs.length=ps.length) (r:o3 vs us)
  (x:InCallC s s.heap.objs.size (bindL (a3P qual scope s.heap.objs.size f cd).kindOf (ps.zip us) fun _=>none) (cellsFrom (s.heap.objs.size+1) scope.names []) (bindC (a3P qual scope s.heap.objs.size f cd).kindOf (ps.zip us) fun _=>none) s1) :
  Inv (a4I CX P w K mg base N qual scope f cd A outer s H E) [] (Z3 N vs) H s1:=by
 have hpl:ps.length<=N.length:=by have:=congrArg List.length S.pre;rw[o9]at this;omega
 obtain⟨h1,tk,rfl,hk⟩:=x.done
 have noA:∀b:Addr,b∉(a4I CX P w K mg base N qual scope f cd A outer s H E).ex:=fun b z=>absurd (show b∈([]:List Addr)from z) (by simp)
 refine⟨⟨e0.mod,S.kind,rfl,rfl,a8 _,fun y z c h1 h2=>?_,fun y hy=>?_,fun y c _ h=>?_,fun _=>hd,Around.frames_deeper e0.frames,.inr ⟨rfl,rfl⟩,fun b z=>absurd z (noA b),e0.bs,e0.bsz,fun b _ _=>noA b,fun b z=>absurd z (noA b),e0.funs,e0.frf⟩,
  rfl,e0.bare,Un.kept hk,⟨_,x.toInCall.ns,fun i y v h1 h2 h3=>?_⟩,fun y c h=>⟨_,x.cell y c h⟩,e0.hok.fresh (a8 _),fun y c h=>?_,fun p hp=>absurd (show p∈([]:List (Addr×Obj))from hp) (by simp),e0.hok.kept hk,?_⟩
 ·exact name_of_addr x.apart (m7 h1) (m7 h2)
 ·have hy:scope.names.lookup y=some .cell\/scope.names.lookup y=some .free:=hy
  rcases hy with hy | hy
  ·exact a4K hy
  ·exact absurd rfl (S.nofree _ (m7 hy))
 ·exact a7G (x.above y c (m7 h))
 ·have hi:i<vs.length:=by
   unfold Z3 at h2
   by_cases hi:i<vs.length
   ·exact hi
   ·rw[List.getElem?_append_right (by simpa using hi)]at h2
    rw[List.getElem?_replicate]at h2
    split at h2 <;> cases h2
  have ha:vs[i]? = some v:=by
   unfold Z3 at h2
   rw[List.getElem?_append_left (by simpa using hi),T7]at h2
   cases e:vs[i]? with
   | none=>rw[e]at h2;cases h2
   | some a=>rw[e]at h2;cases h2;rfl
  obtain⟨u,hu,rv⟩:=r.get ha
  have hp:ps[i]? = some y:=by
   rw[<-S.pre,List.getElem?_take_of_lt (by omega)];exact h1
  have ndP:ps.Nodup:=by rw[<-S.pre];exact S.nd.sublist (List.take_sublist _ _)
  refine⟨u,rv,?_⟩
  rcases S.par y (Y4 hp)with k | k
  ·exact .inl ⟨k,a2K ndP hp hu k⟩
  ·obtain⟨c,e⟩:=a4K (n:=s.heap.objs.size+1) k
   refine .inr ⟨.inl k,c,e,?_⟩
   have q:=x.cell y c e
   rw[a2M ndP hp hu (by show scope.names.lookup y≠_;rw[k];decide)]at q
   exact q
 ·exact e0.hok.fresh (a7G (x.above y c (m7 h)))
 ·unfold Z3
  show _=N.length
  rw[u8,g8,List.length_replicate]
  omega
theorem b4P{P:g7}{K:Fg}{mg:Str->Option Value}{base:Heap}{k:Nat}{name qual:Str}{params:Arguments}{body:List Stmt}{scope:Scope}{dV kV doc pm cdv ct oc:Value}{an od:Option Addr}
  {osl:Array (Option Value)} {N ps:List Str} {sp:Sp} (lk:K.lookup f=some ⟨oc,od,.func (F5 name qual params body scope dV kV doc pm an cdv ct),osl⟩) (hcd:X0 K cdv qual=true) (S:n9 N ps scope)
  (len:∀vs H Q E,sp vs H Q E->vs.length=ps.length)
  (hbody:∀(A:u6) (outer:List Env) (s:b5) (H:Hp) (vs:List V) (Q:VK) (E:XK),F0 k (A.deeper (a3P qual scope s.heap.objs.size f cdv))->sp vs H Q E ->
   ∃t,PSs (a4I CX P w K mg base N qual scope f cdv A outer s H E) body t/\t { nx:=fun _ H'=>Q .non H',rt:=Q } (Z3 N vs) H) :
  D8 P w K mg base CX (k+1) f (F5 name qual params body scope dV kV doc pm an cdv ct) ps sp:=by
 refine⟨len,fun A outer s H args us vs Q E hr e0 hb r hsp=>?_⟩
 have hl:=len _ _ _ _ hsp
 have KX:K.In s.heap:=e0.mod.kin.keeps fun b o e=>(e0.bs b o e).1
 have lim:s.heap.NoLimit:=e0.mod.nolimit.keeps fun b o e=>(e0.bs b o e).1
 have hkind:∀y∈ps.zip us,scope.names.lookup y.1=some .local\/(scope.names.lookup y.1=some .cell/\((cellsFrom (s.heap.objs.size+1) scope.names []).lookup y.1).isSome=true):=fun⟨n,v⟩ hy=>by
  rcases S.par n (a2P hy).1 with q | q
  ·exact .inl q
  ·exact .inr ⟨q,a4N _ _ _ (.inl q)⟩
 refine codeAny_call_function hr.depth (KX _ _ lk) rfl S.co S.gen rfl (PySem.W.codeRec_of KX hcd) (hb _ _ _ _ ?_)
 refine wpAny_newFunctionEnv_cells S.kind hkind fun env he s1 x=>?_
 subst he
 refine⟨lim.keeps x.toInCall.keep,codeAny_func ?_⟩
 obtain⟨t,ht,hq⟩:=hbody A outer s H vs Q E (hr.deeper _) hsp
 have I:Inv (a4I CX P w K mg base N qual scope f cdv A outer s H E) [] (Z3 N vs) H s1:=a7q S hr.hd e0 hl r x
 refine O0 (ht [] s1 (Z3 N vs) H _ I hq) (fun fl s' hs=>?_) fun e s' hs=>hs
 have fin:∀ {σ':St} {H':Hp} {v:V} {u:Value},Inv (a4I CX P w K mg base N qual scope f cdv A outer s H E) [] σ' H' s'->m3 v u->Q v H'->CE outer P w H s Q u s':=
  fun {σ' H' v u} J rv q=>⟨v,H',J.os,J.bare,J.base,J.hok,rv,q⟩
 cases fl with
 | ret u=>
  obtain⟨v,σ',H',J,rv,q⟩:=hs
  exact fin J rv q
 | next=>
  obtain⟨σ',H',J,q⟩:=hs
  exact fin (v:=V.non) (u:=Value.none) J rfl q
 | brk=>
  obtain⟨_,_,_,q⟩:=hs
  exact False.elim q
 | cont=>
  obtain⟨_,_,_,q⟩:=hs
  exact False.elim q
section
variable {id T:String}{r:List V->Hp->VK->Prop}
def tCB(r:List V->Hp->VK->Prop)(t:TA):TE:=fun σ H Q=>t σ H fun vs H1=>r vs H1 Q
theorem a8X(hc:J4 X (.builtin id) r)(hg:Gl X x)(hm:X.mg x=none)(hv:J5 x=some (.builtin id))(ha:PA X (e::es) t)(hn:x ≠ "__name__" := by decide)(hdb:(x == ("__debug__" : Str))=false:=by decide)
  (he:c4 (e::es) X.env=(false,eval e X.env)::c4 es X.env:=by rfl) (hpl:(Q9 pos (c4 es X.env)).any (·.1)=false:=by rfl):PE X (.Call (.Name x p) (e::es) [] pos) (tCB r t):=by
 intro pins s σ H Q I h
 refine a3O (a1I I hg hm hv ?_ hn hdb)
 exact PyProof.Rows.callWith_builtin1 (thn (ha pos pins s σ H _ I h) fun us s1 ⟨vs,H1,I1,r1,q1⟩=>hc pins s1 σ H1 vs us Q I1 r1 q1) he hpl
theorem a7c(hc:J4 X (.type T) r)(hg:Gl X x)(hm:X.mg x=none)(hv:J5 x=some (.type T))(ha:PA X (e::es) t)(hn:x ≠ "__name__" := by decide)(hdb:(x == ("__debug__" : Str))=false:=by decide)
  (he:c4 (e::es) X.env=(false,eval e X.env)::c4 es X.env:=by rfl) (hpl:(Q9 pos (c4 es X.env)).any (·.1)=false:=by rfl):PE X (.Call (.Name x p) (e::es) [] pos) (tCB r t):=by
 intro pins s σ H Q I h
 refine a3O (a1I I hg hm hv ?_ hn hdb)
 exact N3 (thn (ha pos pins s σ H _ I h) fun us s1 ⟨vs,H1,I1,r1,q1⟩=>hc pins s1 σ H1 vs us Q I1 r1 q1) he hpl
end
section
variable {κ:Type}[DecidableEq κ]
def a0R(kvs:List (κ×V))(k:κ):Option V:=(kvs.find? fun kv=>decide (kv.1=k)).map (·.2)
def a4t(kvs:List (κ×V))(k:κ)(v:V):List (κ×V):=
 if(kvs.any fun kv=>decide (kv.1=k))=true then kvs.map (fun kv=>if kv.1=k then (kv.1,v)else kv)else kvs++[(k,v)]
theorem a4a{p:κ×V}{r:List (κ×V)}{k:κ}(e:p.1=k):a0R (p::r) k=some p.2:=by simp[a0R,E6,e]
theorem a4b{p:κ×V}{r:List (κ×V)}{k:κ}(e:¬p.1=k):a0R (p::r) k=a0R r k:=by simp[a0R,E6,e]
theorem a4B(kvs:List (κ×V))(k:κ)(v:V):(a4t kvs k v).length<=kvs.length+1:=by
 unfold a4t
 split
 ·rw[g8];omega
 ·rw[u8,D4,a2Q];omega
theorem a1M.isSome_eq{o:Option V}{u:Option Value}(r:a1M o u):o.isSome=u.isSome:=by
 cases o with
 | none=>cases u with
  | none=>rfl
  | some _=>exact(show False from r).elim
 | some _=>cases u with
  | none=>exact(show False from r).elim
  | some _=>rfl
theorem KV.val{kvs:List (κ×V)}{vs:List (κ×Value)}(r:KV kvs vs)(k:κ):a1M (a0R kvs k) (a7R vs k):=by
 unfold KV at r
 induction r with
 | nil=>exact True.intro
 | @cons p q ps qs h t ih=>
  obtain⟨h1,h2⟩:=h
  by_cases e:p.1=k
  ·have e':q.1=k:=h1.symm.trans e
   have b:a7R (q::qs) k=some q.2:=by simp[a7R,E6,e']
   rw[a4a e,b];exact h2
  ·have e':¬q.1=k:=fun z=>e (h1.trans z)
   have b:a7R (q::qs) k=a7R qs k:=by simp[a7R,E6,e']
   rw[a4b e,b];exact ih
theorem KV.any{kvs:List (κ×V)}{vs:List (κ×Value)}(r:KV kvs vs)(k:κ):(kvs.any fun kv=>decide (kv.1=k))=vs.any fun kv=>decide (kv.1=k):=by
 unfold KV at r
 induction r with
 | nil=>rfl
 | cons h t ih=>rw[T9,T9,ih,h.1]
theorem KV.repl{kvs:List (κ×V)}{vs:List (κ×Value)}(r:KV kvs vs)(k:κ)(ry:m3 y u) :
  KV (kvs.map fun kv=>if kv.1=k then (kv.1,y)else kv) (vs.map fun kv=>if kv.1=k then (kv.1,u)else kv):=by
 unfold KV at r ⊢
 induction r with
 | nil=>exact .nil
 | @cons p q ps qs h t ih=>
  rw[C5,C5]
  refine .cons ?_ ih
  obtain⟨h1,h2⟩:=h
  by_cases e:p.1=k
  ·rw[if_pos e,if_pos (h1.symm.trans e)];exact⟨h1,ry⟩
  ·rw[if_neg e,if_neg (fun z=>e (h1.trans z))];exact⟨h1,h2⟩
theorem KV.put{kvs:List (κ×V)}{vs:List (κ×Value)}(r:KV kvs vs)(k:κ)(ry:m3 y u):KV (a4t kvs k y) (stored vs k u):=by
 unfold a4t stored
 rw[r.any k]
 by_cases e:(vs.any fun kv=>decide (kv.1=k))=true
 ·rw[if_pos e,if_pos e];exact r.repl k ry
 ·rw[if_neg e,if_neg e];exact Paired.snoc r ⟨rfl,ry⟩
end
theorem a6v{P:g7}{k:Key}(r:m3 (kV k) u):(E1 P w).is k u=true:=by
 cases k with
 | inl i=>obtain⟨t,e⟩:=(show ∃t,u=Value.int i t from r);subst e;exact a4z P w i t
 | inr x=>obtain⟨t,e⟩:=(show ∃t,u=Value.str x t from r);subst e;exact a4y P w x t
theorem a2B{P:g7}:∀ {ks:List Key} {us:List Value},o3 (ks.map kV) us->ItemsAre (E1 P w) ks us
 | [],_,r=>by rw[a1e]at r;cases r;exact .nil
 | k::ks,_,r=>by
  rw[C5]at r
  cases r with
  | cons h t=>exact .cons (a6v h) (a2B t)
abbrev KT(H:Hp):List (List Key×V)->List (List Key×Addr×Value)->Prop:=Paired fun p q=>p.1=q.1/\H q.2.1=some (.tup (p.1.map kV))/\m3 p.2 q.2.2
theorem KT.val{kvs:List (List Key×V)}{xs:List (List Key×Addr×Value)}(r:KT H kvs xs)(k:List Key):a1M (a0R kvs k) ((atKey xs k).map (·.2)):=by
 induction r with
 | nil=>exact True.intro
 | @cons p q ps qs h t ih=>
  obtain⟨h1,_,h2⟩:=h
  by_cases e:p.1=k
  ·have e':q.1=k:=h1.symm.trans e
   have b:atKey (q::qs) k=some q.2:=by simp[atKey,E6,e']
   rw[a4a e,b];exact h2
  ·have e':¬q.1=k:=fun z=>e (h1.trans z)
   have b:atKey (q::qs) k=atKey qs k:=by simp[atKey,E6,e']
   rw[a4b e,b];exact ih
section
variable {P:g7}
theorem b1K{u:HO}(ok:HOk P w H h)(e:Rd H a u):A7 P w H h a u:=e.ok ok
theorem a6x(ok:HOk P w H h)(e:Rd H a (.dK kvs)):kvs.length<=c9/\(a == U2)=false/\∃vs,KV kvs vs/\h.DictOf (E1 P w) a vs:=
 show A7 P w H h a (.dK kvs)from b1K ok e
theorem a9s(ok:HOk P w H h)(e:H a=some (.dK kvs)):kvs.length<=c9/\(a == U2)=false/\∃vs,KV kvs vs/\h.DictOf (E1 P w) a vs:=a6x ok (.inl e)
theorem a5I{ks:List Key}(ok:HOk P w H h)(e:H a=some (.tup (ks.map kV))):(b3S (E1 P w)).is h ks a:=by
 obtain⟨_,its,r,o,h1,h2,n,h3⟩:=(show A7 P w H h a (.tup (ks.map kV))from ok a _ e)
 exact⟨o,its.toArray,n,h1,h2,h3,by simpa using a2B r⟩
theorem a9r{kvs:List (List Key×V)}(ok:HOk P w H h)(e:Rd H a (.dT kvs)):kvs.length<=c9/\(a == U2)=false /\
  ∃xs,KT H kvs xs/\h.DictOfH (b3S (E1 P w)) a xs:=by
 obtain⟨z,y,xs,r,o,es,ep,h1,h2,h3,h4,h5⟩:=(show A7 P w H h a (.dT kvs)from b1K ok e)
 refine⟨z,y,xs,r,o,es,ep,h1,h2,h3,h4,fun x hx=>?_,h5⟩
 have all:∀ {l:List (List Key×V)} {m:List (List Key×Addr×Value)},KT H l m->∀x∈m,(b3S (E1 P w)).is h x.1 x.2.1:=by
  intro l m q
  induction q with
  | nil=>intro x hx;exact nomatch hx
  | @cons p q ps qs hq t ih=>
   intro x hx
   rcases g5.mp hx with e | hx
   ·subst e
    exact a5I ok (by rw[<-hq.1];exact hq.2.1)
   ·exact ih x hx
 exact all r x hx
end
def a2d(H:Hp)(a:Addr)(y:V)(r:Option V):Prop:=
 (∃kvs k,Rd H a (.dK kvs)/\y=kV k/\r=a0R kvs k)\/∃kvs k b,Rd H a (.dT kvs)/\y=.ref b/\H b=some (.tup (k.map kV))/\r=a0R kvs k
theorem a2d.k{k:Key}(e:H a=some (.dK kvs)):a2d H a (kV k) (a0R kvs k):=.inl ⟨kvs,k,.inl e,rfl,rfl⟩
section
variable {r:Value}{o:Option V}{A:u6}{E:Value->b5->Prop}
theorem Inv.big(I:Inv X pins σ H s):U2<s.heap.objs.size:=by
 have h:e8<s.heap.objs.size:=(I.mod.glob.keeps I.bk).lt
 exact Nat.lt_trans (by decide) h
theorem a7u(hu:A.units+1<cLine)(I:Inv X pins σ H s)(g:a2d H a y (some v))(ry:m3 y u)(h:∀w' s',Inv X pins σ H s'->m3 v w'->Q w' s') :
  wpAny (model X.prog X.w) A (a0p (.ref a) u) Q E s:=by
 rcases g with ⟨kvs,k,e,ey,l⟩ | ⟨kvs,k,b,e,ey,eb,l⟩
 ·subst ey
  obtain⟨z,hd,vs,rel,dd⟩:=a6x I.hok e
  obtain⟨w',hw,rw'⟩:=a1M.some_of (v:=v) (o:=a7R vs k) (by rw[l];exact rel.val k)
  exact wpAny_getItem_of (a6v ry) dd.mapOf hw (h w' _ (I.tok _) rw')
 ·subst ey
  cases (show u=Value.ref b from ry)
  obtain⟨z,hd,xs,rel,dd⟩:=a9r I.hok e
  obtain⟨w',hw,rw'⟩:=a1M.some_of (v:=v) (o:=(atKey xs k).map (·.2)) (by rw[l];exact rel.val k)
  obtain⟨p,hp,hp2⟩:=L5.mp hw
  refine wpAny_getItem_heap (tupleKind_room_in1 hu) (a5I I.hok eb) dd hp ?_
  rw[hp2]
  exact h w' _ (I.tok _) rw'
theorem b1n(hu:A.units+1<cLine)(I:Inv X pins σ H s)(g:a2d H a y o)(ry:m3 y u)(h:∀s',Inv X pins σ H s'->Q (.bool (!o.isSome)) s') :
  wpAny (model X.prog X.w) A (d9 .NotIn u (.ref a)) Q E s:=by
 rcases g with ⟨kvs,k,e,ey,l⟩ | ⟨kvs,k,b,e,ey,eb,l⟩
 ·subst ey
  obtain⟨z,hd,vs,rel,dd⟩:=a6x I.hok e
  refine wpAny_notIn_of (a6v ry) hd dd.mapOf ?_
  rw[<-(rel.val k).isSome_eq,<-l]
  exact h _ (I.tok _)
 ·subst ey
  cases (show u=Value.ref b from ry)
  obtain⟨z,hd,xs,rel,dd⟩:=a9r I.hok e
  refine wpAny_notIn_heap (tupleKind_room_in1 hu) (a5I I.hok eb) hd dd ?_
  have q:=(rel.val k).isSome_eq
  rw[Option.isSome_map]at q
  rw[<-q,<-l]
  exact h _ (I.tok _)
theorem b1m{ob:HO}(I:Inv X pins σ H s)(mu:Mut (H a))(hs:Heap.SameBut a s.heap h')(he:∃q,h'.get? a=some q)(new:A7 X.prog X.w (upd H a ob) h' a ob) :
  Inv X pins σ (upd H a ob) { s with heap:=h',toks:=t' }:=
 I.write (x:=a) (e:=a) mu (.inl rfl) (fun b q hb z=>(hs.2 b hb).trans z) he new
theorem b3v{P:g7}{vs:List (Key×Value)}(z:kvs.length<=c9)(hd:(a == U2)=false)(rel:KV kvs vs)(dd:h'.DictOf (E1 P w) a vs) :
  A7 P w H' h' a (.dK kvs):=⟨z,hd,vs,rel,dd⟩
end
section
variable {k:Key}{A:u6}{E:Value->b5->Prop}
end
def b3E(i:Expr):Prop:=∀ov iv,a7T i false ov iv=operate [ov,iv] (a0p ov iv)
theorem a9X{prog:g7}{A:u6}{E:Value->b5->Prop}{env:Env}{value slice:Expr}{T id:String}
  (hl:typeLookup (.type T) "__getitem__" = pure (some (.builtin id))) (hs:b3E slice)
  (h:wpAny (model prog w) A (eval value env) (fun o s₁=>wpAny (model prog w) A (eval slice env) (fun i s₂=>s₂.TypeIs o T/\wpAny (model prog w) A (a0p o i) Q E s₂) E s₁) E s) :
  wpAny (model prog w) A (eval (.Subscript value slice pos) env) Q E s:=by
 refine Subscript_ (O0 h (fun o s₁ h₁=>O0 h₁ (fun i s₂ h₂=>?_) fun _ _ x=>x) fun _ _ x=>x)
 obtain⟨hT,h₂⟩:=h₂
 unfold b1U
 refine b9 ?_
 rw[getitemInPython_of_ne hT.not_modules]
 refine b9 (wpAny_specialOf hT hl ?_)
 have fin:wpAny (model prog w) A (a7T slice false o i) (fun r s₃=>wpAny (model prog w) A (letTemporaryGo value o r >>= fun _=>pure r) Q E s₃) E s₂:=by
  rw[hs o i]
  exact wpAny_operating (O0 h₂ (fun r s₃ h₃=>b9 (wpAny_letTemporaryGo (f6 h₃))) fun _ _ x=>x)
 first
  | exact f6 (b9 fin)
  | exact b9 (f6 (b9 fin))
  | exact b9 fin
theorem a4G{o:Option V}(I:Inv X pins σ H s)(g:a2d H a y o):s.TypeIs (.ref a) "dict" := by
 rcases g with ⟨kvs,k,e,_,_⟩ | ⟨kvs,k,b,e,_,_,_⟩
 ·obtain⟨_,_,vs,_,dd⟩:=a6x I.hok e
  exact dd.typeIs
 ·obtain⟨_,_,xs,_,dd⟩:=a9r I.hok e
  exact dd.typeIs
def a6h(td ty:TE):TE:=fun σ H Q=>td σ H fun x H1=>ty σ H1 fun y H2=>∃a v,x=.ref a/\a2d H2 a y (some v)/\Q v H2
def a3a(ty td:TE):TE:=fun σ H Q=>ty σ H fun y H1=>td σ H1 fun x H2=>∃a o,x=.ref a/\a2d H2 a y o/\Q (.bl (!o.isSome)) H2
section
variable {o i value:Expr}{pos' tpos:Pos}{td ty tv:TE}
theorem b0D(hu:X.A.units+1<cLine)(ho:PE X o td)(hi:PE X i ty)(hs:b3E i):PE X (.Subscript o i pos) (a6h td ty):=by
 intro pins s σ H Q I h
 refine a9X PySem.F.slot_dict_getitem.lookup hs (thn (ho pins s σ H _ I h) fun u s1 ⟨x,H1,I1,rx,q1⟩=>thn (hi pins s1 σ H1 _ I1 q1) fun iv s2 ⟨y,H2,I2,ry,a,v,ex,g,q2⟩=>?_)
 subst ex
 obtain rfl:u=Value.ref a:=rx
 exact⟨a4G I2 g,a7u hu I2 g ry fun w' s3 I3 rw'=>⟨v,H2,I3,rw',q2⟩⟩
theorem a7d(hu:X.A.units+1<cLine)(hi:PE X i ty)(ho:PE X o td):PC X .NotIn i o (a3a ty td):=by
 intro pins s σ H Q I h
 refine thn (hi pins s σ H _ I h) fun iv s1 ⟨y,H1,I1,ry,q1⟩=>thn (ho pins s1 σ H1 _ I1 q1) fun u s2 ⟨x,H2,I2,rx,a,ov,ex,g,q2⟩=>?_
 subst ex
 obtain rfl:u=Value.ref a:=rx
 exact b1n hu I2 g ry fun s3 I3=>⟨.bl (!ov.isSome),H2,I3,rfl,q2⟩
end
theorem a4F{P:g7}(h:Heap)(hb:U2<h.objs.size):A7 P w H (h.push { cls:=.type "dict",data:=.dict #[] }) h.objs.size (.dK []):=
 ⟨y0 _,beq_eq_false_iff_ne.mpr (Ne.symm (o4 hb)),[],.nil,Heap.DictOf.new h⟩
def a5g:TE:=fun _ H Q=>∀p,H p=none->Q (.ref p) (upd H p (.dK []))
section
theorem a8V:PE X (.Dict [] [] pos) a5g:=fun pins s σ H Q I h=>
 wpAny_Dict_empty ⟨.ref s.heap.objs.size,_,I.laid (a:=s.heap.objs.size) (o:=.dK []) (t':=s.toks) (fun _ _ q=>c5 _ q) (a8 _) (a4F s.heap I.big),rfl,h _ (I.hok.fresh (a8 _))⟩
end
def a5e:List (TE×TE)->St->Hp->(List (V×V)->Hp->Prop)->Prop
 | [],_,H,Q=>Q [] H
 | (tk,tv)::r,σ,H,Q=>tk σ H fun x H1=>tv σ H1 fun y H2=>a5e r σ H2 fun ps H3=>Q ((x,y)::ps) H3
abbrev VV:List (V×V)->List (Value×Value)->Prop:=Paired fun p q=>m3 p.1 q.1/\m3 p.2 q.2
def PPs(X:Cx)(pos:Pos)(keys:List (Option Expr))(values:List Expr)(trs:List (TE×TE)):Prop:=
 ∀(pins:List (Addr×Obj)) (s:b5) (σ:St) (H:Hp) (Q:List (V×V)->Hp->Prop),Inv X pins σ H s->a5e trs σ H Q ->
  wpAny (model X.prog X.w) X.A (evalPairs (pairTrees keys values X.env pos)) (fun vs s'=>∃ps H',Inv X pins σ H' s'/\VV ps vs/\Q ps H') X.xe s
theorem b0w:PPs X pos [] [] []:=fun pins s σ H Q I h=>pairTrees_nil_walk ⟨[],H,I,.nil,h⟩
theorem a8O{k v:Expr}{ks:List (Option Expr)}{vs:List Expr}{tk tv:TE}{trs:List (TE×TE)}(hk:PE X k tk)(hv:PE X v tv)(hr:PPs X pos ks vs trs) :
  PPs X pos (some k::ks) (v::vs) ((tk,tv)::trs):=fun pins s σ H Q I h=>
 pairTrees_cons_walk (thn (hk pins s σ H _ I h) fun u s1 ⟨x,H1,I1,rx,q1⟩=>thn (hv pins s1 σ H1 _ I1 q1) fun w2 s2 ⟨y,H2,I2,ry,q2⟩=>
  thn (hr pins s2 σ H2 _ I2 q2) fun ws s3 ⟨ps,H3,I3,rel,q3⟩=>⟨(x,y)::ps,H3,I3,.cons ⟨rx,ry⟩ rel,q3⟩)
def a1G(kvs more:List (Key×V)):List (Key×V):=more.foldl (fun acc kv=>a4t acc kv.1 kv.2) kvs
theorem KV.merge:∀ {more:List (Key×V)} {rs:List (Key×Value)} {kvs:List (Key×V)} {vs:List (Key×Value)},KV more rs->KV kvs vs->KV (a1G kvs more) (merged vs rs):=by
 intro more rs kvs vs r
 unfold KV at r
 induction r generalizing kvs vs with
 | nil=>intro q;exact q
 | @cons p q ps qs h t ih=>
  intro r0
  have e:KV (a4t kvs p.1 p.2) (stored vs q.1 q.2):=by
   have:=r0.put p.1 h.2
   rw[<-h.1];exact this
  exact ih e
theorem X4:∀(more kvs:List (Key×V)),(a1G kvs more).length<=kvs.length+more.length
 | [],kvs=>by show kvs.length<=kvs.length+0;omega
 | p::r,kvs=>by
  have h1:=X4 r (a4t kvs p.1 p.2)
  have h2:=a4B kvs p.1 p.2
  show(a1G (a4t kvs p.1 p.2) r).length<=_
  rw[D4];omega
theorem a1K{P:g7}{w:World}:∀ {kvs:List (Key×V)} {ws:List (Value×Value)},VV (kvs.map fun kv=>(kV kv.1,kv.2)) ws->∃rs,Carries (E1 P w) ws rs/\KV kvs rs
 | [],_,r=>by rw[a1e]at r;cases r;exact⟨[],True.intro,.nil⟩
 | p::kvs,_,r=>by
  rw[C5]at r
  cases r with
  | @cons a b as bs h t=>
   obtain⟨rs,c,q⟩:=a1K (P:=P) (w:=w) t
   obtain⟨b1,b2⟩:=b
   exact⟨(p.1,b2)::rs,⟨a6v h.1,rfl,c⟩,.cons ⟨rfl,h.2⟩ q⟩
def a6g(trs:List (TE×TE)):TE:=fun σ H Q=>∀p,H p=none->a5e trs σ (upd H p (.dK [])) fun ps H2=>H2 p=some (.dK [])/\∃kvs:List (Key×V),ps=kvs.map (fun kv=>(kV kv.1,kv.2))/\kvs.length<=15/\Q (.ref p) (upd H2 p (.dK (a1G [] kvs)))
theorem b0C{keys:List (Option Expr)}{values:List Expr}{trs:List (TE×TE)}(h:PPs X pos keys values trs)(hall:keys.all (·.isSome)=true)(hl:keys.length=values.length)(h0:keys≠[])
  (h15:keys.length<=15):PE X (.Dict keys values pos) (a6g trs):=by
 intro pins s σ H Q I q
 have hn:=I.hok.fresh (a8 s.heap.objs.size)
 have I1:=I.laid (a:=s.heap.objs.size) (o:=.dK []) (h':=s.heap.push { cls:=.type "dict",data:=.dict #[] }) (t':=s.toks) (fun _ _ q=>c5 _ q) (a8 _) (a4F s.heap I.big)
 refine wpAny_Dict_walk (knd:=E1 X.prog X.w) hall hl h0 h15 (thn (h pins _ σ _ _ I1 (q _ hn)) fun ws s2 ⟨ps,H2,I2,rel,e,kvs,ep,lk,q2⟩=>?_)
 subst ep
 obtain⟨rs,c,rk⟩:=a1K (P:=X.prog) (w:=X.w) rel
 obtain⟨z,hd,vs0,r0,dd⟩:=a9s I2.hok e
 cases r0
 refine⟨rs,c,dd,fun h' dd' hs=>⟨.ref s.heap.objs.size,_,?_,rfl,q2⟩⟩
 have hz:(a1G [] kvs).length<=c9:=by
  have h1:=X4 kvs []
  rw[a2Q]at h1
  rw[sizeLine_eq];omega
 have he:∃q,h'.get? s.heap.objs.size=some q:=let⟨q,_,_,hq,_⟩:=dd'; ⟨q,hq⟩
 exact b1m I2 (by rw[e];exact True.intro) hs he (b3v hz hd (rk.merge .nil) dd')
structure M1(X:Cx)(o:Expr)(m:Str)(apos:Pos)(e:Expr)(cpos:Pos):Prop where
 base:a3Q o m X.env (eval o X.env)=eval o X.env
 few:((Q9 cpos (c4 [e] X.env)).all (fun x => !x.1)&&(backToKw cpos (a7U [] X.env)).all (fun x=>x.1.isSome)
  && decide (([e]:List Expr).length+([]:List a2T).length+(if([]:List a2T).isEmpty then 0 else 1)<30))=true
 line:(apos.endLine == cpos.line)=true
 trees:Q9 cpos (c4 [e] X.env)=[(false,eval e X.env)]
structure M2(X:Cx)(o:Expr)(m:Str)(apos:Pos)(e f:Expr)(cpos:Pos):Prop where
 base:a3Q o m X.env (eval o X.env)=eval o X.env
 few:((Q9 cpos (c4 [e,f] X.env)).all (fun x => !x.1)&&(backToKw cpos (a7U [] X.env)).all (fun x=>x.1.isSome)
  && decide (([e,f]:List Expr).length+([]:List a2T).length+(if([]:List a2T).isEmpty then 0 else 1)<30))=true
 line:(apos.endLine == cpos.line)=true
 trees:Q9 cpos (c4 [e,f] X.env)=[(false,eval e X.env),(false,eval f X.env)]
section
variable {d:V}{r:Value}{o:Option V}{A:u6}{E:Value->b5->Prop}
end
section
variable {o f:Expr}{apos cpos:Pos}{td ty tx:TE}
end
section
variable {A:u6}{E:Value->b5->Prop}
end
section
variable {A:u6}{E:Value->b5->Prop}
end
end L2
namespace HT
open PySem PyProof.Rows
section
open PySem.SeqAt
open PySem.AutoSeq1 (wpAny_loadPart')
open PySem.MeetsSeq PySem.MeetsSeq2 PySem.MeetsSeq3
end
section
variable {prog:g7}{w:World}{A:u6}{E:Value->b5->Prop}{s:b5}
theorem b1o{t b:Addr}{vs ws:List Value}{Q:Value->b5->Prop}(ht:IsTup s.heap t vs.toArray)(hb:IsTup s.heap b ws.toArray)(hv:vs≠[])
  (h1:ws=[]->Q (.ref t) s) (h2:ws≠[]->Q (.ref s.heap.objs.size) { s with heap:=s.heap.push { cls:=.type "tuple",data:=.seq (vs++ws).toArray } })
  (hsz:vs.length+ws.length<=c9):wpAny (model prog w) A (y4 .Add (.ref t) (.ref b)) Q E s:=by
 obtain⟨⟨cls,dd,data,sl⟩,ho,hc,n,hd⟩:=id ht
 obtain⟨⟨cls2,dd2,data2,sl2⟩,ho2,hc2,n2,hd2⟩:=id hb
 simp only at hc hd hc2 hd2
 subst hc hd hc2 hd2
 have e:vs.toArray++ws.toArray=(vs++ws).toArray:=by simp
 by_cases hw:ws=[]
 ·exact concat_meets ⟨_,ho,rfl⟩ ⟨_,ho2,rfl⟩ noFill_tuple_add seq_tuple_add U1 T5 (R8 _ _)
   (tuple_addW1 t b vs.toArray ws.toArray n n2 dd dd2 sl sl2 (by simpa using hv) (by simp[hw])) ⟨ho,ho2,h1 hw⟩
 ·refine concat_meets ⟨_,ho,rfl⟩ ⟨_,ho2,rfl⟩ noFill_tuple_add seq_tuple_add U1 T5 (R8 _ _)
   (tuple_addW2 t b vs.toArray ws.toArray n n2 dd dd2 sl sl2 (by simpa using hv) (by simpa using hw) (by rw[b6,b6];exact hsz)) ⟨ho,ho2,?_⟩
  rw[e]
  exact h2 hw
def sIx(n d:Nat):Option Int->Nat
 | none=>d
 | some v=>if v<0 then (v+(n:Int)).toNat else min v.toNat n
theorem a4m(n d:Nat):sIx n d none=d:=rfl
theorem a0a(n d k:Nat):sIx n d (some (k:Int))=min k n:=by
 show(if(k:Int)<0 then ((k:Int)+(n:Int)).toNat else min (k:Int).toNat n)=min k n
 rw[if_neg (by omega),Int.toNat_natCast]
theorem b2l(n d:Nat)(hd:d<=n)(o:Option Int):sIx n d o<=n:=by
 cases o with
 | none=>exact hd
 | some v=>
  show(if v<0 then (v+(n:Int)).toNat else min v.toNat n)<=n
  by_cases hv:v<0
  ·rw[if_pos hv];omega
  ·rw[if_neg hv];exact Nat.min_le_right _ _
theorem a6C(v:Int)(n d:Nat):(if v<0 then max (v+(n:Int)) 0 else min v (n:Int))=((sIx n d (some v):Nat):Int):=by
 show(if v<0 then max (v+(n:Int)) 0 else min v (n:Int))=(((if v<0 then (v+(n:Int)).toNat else min v.toNat n):Nat):Int)
 by_cases hv:v<0
 ·simp only[if_pos hv];omega
 ·simp only[if_neg hv];omega
theorem a5T(lo hi:Option Int)(n:Nat):Builtin.Slice.sliceAdjust lo hi 1 (n:Int)=(((sIx n 0 lo:Nat):Int),((sIx n n hi:Nat):Int)):=by
 have h1:¬((1:Int)<0):=by omega
 unfold Builtin.Slice.sliceAdjust
 simp only[h1,if_false]
 refine Prod.ext ?_ ?_
 ·cases lo with
  | none=>rfl
  | some v=>exact a6C v n 0
 ·cases hi with
  | none=>rfl
  | some v=>exact a6C v n n
theorem a5u(i j:Nat):Builtin.Slice.slicePlaces (i:Int) (j:Int) 1=j - i:=by
 unfold Builtin.Slice.slicePlaces
 have h1:(1:Int) > 0:=by omega
 simp only[h1,if_true,Int.ediv_one]
 split <;> omega
theorem a1v{v:Value}{o:Option Int}{Q:Option Int->b5->Prop}(p:a5Z v o)(h:Q o s):wpAny (model prog w) A (Builtin.Slice.slicePartIndex v) Q E s:=by
 cases p with
 | none=>exact slicePart_none h
 | int i t=>exact slicePart_int h
theorem R5{sl:Addr}{vl vu:Value}{lo hi:Option Int}{n:Nat}{Q:Int×Int×Nat->b5->Prop}(hs:s.heap.IsSliceOf sl vl vu .none)(pl:a5Z vl lo)(pu:a5Z vu hi)
  (h:Q (((sIx n 0 lo:Nat):Int),1,sIx n n hi - sIx n 0 lo) s):wpAny (model prog w) A (Builtin.Slice.sliceApplied (.ref sl) (pure (n:Int))) Q E s:=by
 obtain⟨os,hos,hcs,hds⟩:=id hs
 unfold Builtin.Slice.sliceApplied Builtin.Slice.sliceFields
 refine b9 (b9 (b4Z hos hds (x:=vl) rfl (b9 (b4Z hos hds (x:=vu) rfl (b9 (b4Z hos hds (x:=.none) rfl (f6 ?_)))))))
 refine b9 (slicePart_none ?_)
 show wpAny _ _ (if((1:Int) == 0)=true then _ else _) _ _ s
 rw[if_neg (by decide)]
 refine b9 (a1v pl (b9 (a1v pu (b9 (f6 ?_)))))
 show wpAny _ _ (match Builtin.Slice.sliceAdjust lo hi 1 (n:Int)with | (lo,hi)=>pure (lo,(1:Int),Builtin.Slice.slicePlaces lo hi 1)) _ _ s
 rw[a5T lo hi n]
 show wpAny _ _ (pure (((sIx n 0 lo:Nat):Int),(1:Int),Builtin.Slice.slicePlaces ((sIx n 0 lo:Nat):Int) ((sIx n n hi:Nat):Int) 1)) _ _ s
 rw[a5u]
 exact f6 h
theorem a8Q(xs:Array Value)(i k:Nat):((Q8 k).filterMap fun(m:Nat)=>xs[((i:Int)+(m:Int) * 1).toNat]?).toArray=((xs.toList.drop i).take k).toArray:=by
 have e:(fun(m:Nat)=>xs[((i:Int)+(m:Int) * 1).toNat]?)=fun m=>xs[i+m]?:=by
  funext m
  have:((i:Int)+(m:Int) * 1).toNat=i+m:=by omega
  rw[this]
 rw[e]
 have:=pick_run xs i k
 rw[List.filterMap_map]at this
 have e2:((fun x=>xs[x]?) ∘ fun x=>i+x)=fun m=>xs[i+m]?:=rfl
 rw[e2]at this
 rw[this]
theorem a0g{t sl:Addr}{items:Array Value}{vl vu:Value}{lo hi:Option Int}{Q:Value->b5->Prop}(ht:IsTup s.heap t items)(hs:s.heap.IsSliceOf sl vl vu .none)(pl:a5Z vl lo)(pu:a5Z vu hi)
  (hw:¬(sIx items.size 0 lo=0/\sIx items.size items.size hi=items.size))
  (h:Q (.ref s.heap.objs.size) { s with heap:=s.heap.push { cls:=.type "tuple",data:=.seq ((items.toList.drop (sIx items.size 0 lo)).take (sIx items.size items.size hi - sIx items.size 0 lo)).toArray } })
  (hsz:items.size<=c9):wpAny (model prog w) A (a0p (.ref t) (.ref sl)) Q E s:=by
 have htake:sizeOk (.seq ((items.toList.drop (sIx items.size 0 lo)).take (sIx items.size items.size hi - sIx items.size 0 lo)).toArray):=by
  show((items.toList.drop (sIx items.size 0 lo)).take (sIx items.size items.size hi - sIx items.size 0 lo)).toArray.size<=c9
  rw[b6,o9,O2,q9]
  omega
 have hj:sIx items.size items.size hi<=items.size:=b2l _ _ (a8 _) hi
 obtain⟨os,hos,hcs,hds⟩:=id hs
 have hTs:s.TypeIs (.ref sl) "slice" := ⟨os,hos,hcs⟩
 unfold a0p
 try with_reducible refine U0 ?_
 first | refine b9 (f6 ?_) | skip
 refine b9 (wpAny_sequenceKey ht.typeIs (by decide) ?_)
 refine b9 (b1T (name:=Str.ofString "__getitem__") ht.typeIs n5
  (wpAny_call_entry n5 ht.typeIs entry_tuple_getitem ?_ (args_tuple_getitem _ _)))
 show wpAny _ _ (Builtin.Tuple.tupleItemsOf (.ref t) >>= _) _ _ s
 refine b9 (tupleItemsOf_ ht ?_)
 refine b9 (b3Q hTs ?_)
 rw[if_pos (by decide)]
 refine b9 (R5 hs pl pu ?_)
 have hno:¬((((sIx items.size 0 lo:Nat):Int) == 0&&(1:Int) == 1&&(sIx items.size items.size hi - sIx items.size 0 lo) == items.size)=true):=by
  intro q
  rw[p8,p8]at q
  have q1:((sIx items.size 0 lo:Nat):Int)=0:=eq_of_beq q.1.1
  have q2:sIx items.size items.size hi - sIx items.size 0 lo=items.size:=eq_of_beq q.2
  exact hw ⟨by omega,by omega⟩
 show wpAny _ _ (if(((sIx items.size 0 lo:Nat):Int) == 0&&(1:Int) == 1&&(sIx items.size items.size hi - sIx items.size 0 lo) == items.size)=true then _ else _) _ _ s
 rw[if_neg hno,a8Q]
 first
  | exact b9 (m:=Builtin.Tuple.tupleExact _) (Q1 (f6 ⟨_,rfl,f6 h⟩) htake)
  | exact b9 (m:=Builtin.Tuple.tupleExact _) (Q1 (b9 (f6 (f6 ⟨_,rfl,f6 h⟩))) htake)
  | exact b9 (b9 (m:=Builtin.Tuple.tupleExact _) (Q1 (f6 (f6 ⟨_,rfl,f6 h⟩)) htake))
  | exact b9 (b9 (m:=Builtin.Tuple.tupleExact _) (Q1 (f6 ⟨_,rfl,f6 h⟩) htake))
end
end HT
namespace L2
open PySem PySem.Spec PyProof.Rows
variable{X:Cx}{xs:List V}{us:List Value}{n:Nat}{pins:List (Addr×Obj)}{σ:St}{H:Hp}{s:b5}{x:V}
abbrev TO:=St->Hp->(Option Int->Hp->Prop)->Prop
def PO(X:Cx)(e:Option Expr)(t:TO):Prop:=
 ∀(pins:List (Addr×Obj)) (s:b5) (σ:St) (H:Hp) (Q:Option Int->Hp->Prop),Inv X pins σ H s->t σ H Q ->
  wpAny (model X.prog X.w) X.A (evalPart e X.env) (fun u s'=>∃o H',Inv X pins σ H' s'/\a5Z u o/\Q o H') X.xe s
def J8:TO:=fun _ H Q=>Q none H
def V1(t:TE):TO:=fun σ H Q=>t σ H fun x H1=>∃i,x=.int i/\Q (some i) H1
section
variable {e:Expr}{te:TE}{lo hi:Option Expr}{tl th:TO}{pos p2:Pos}
theorem b0x:PO X none J8:=by
 intro pins s σ H Q I h
 rw[evalPart_none]
 exact f6 ⟨none,H,I,.none,h⟩
theorem a6s(h:PE X e te):PO X (some e) (V1 te):=by
 intro pins s σ H Q I hw
 rw[evalPart_some]
 refine thn (h pins s σ H _ I hw) fun u s1 ⟨x,H1,I1,r1,q1⟩=>?_
 obtain⟨i,rfl,q⟩:=q1
 obtain⟨t,rfl⟩:=r1
 exact⟨some i,H1,I1,.int i t,q⟩
def SlR(X:Cx)(r:V->Option Int->Option Int->Hp->VK->Prop):Prop:=
 ∀(pins:List (Addr×Obj)) (s:b5) (σ:St) (H:Hp) (x:V) (v vl vu:Value) (lo hi:Option Int) (sl:Addr) (Q:VK),Inv X pins σ H s->m3 x v->s.heap.IsSliceOf sl vl vu .none->a5Z vl lo->a5Z vu hi->r x lo hi H Q ->
  ∃T id,typeLookup (.type T) "__getitem__" = pure (some (.builtin id))/\s.TypeIs v T/\wpAny (model X.prog X.w) X.A (a0p v (.ref sl)) (EP X pins σ Q) X.xe s
theorem SlR.or{r r':V->Option Int->Option Int->Hp->VK->Prop}(h:SlR X r)(h':SlR X r'):SlR X (fun x lo hi H Q=>r x lo hi H Q\/r' x lo hi H Q):=by
 intro pins s σ H x v vl vu lo hi sl Q I rx hs pl pu q
 rcases q with q | q
 ·exact h pins s σ H x v vl vu lo hi sl Q I rx hs pl pu q
 ·exact h' pins s σ H x v vl vu lo hi sl Q I rx hs pl pu q
def tSl(r:V->Option Int->Option Int->Hp->VK->Prop)(te:TE)(tl th:TO):TE:=fun σ H Q=>te σ H fun x H1=>tl σ H1 fun l H2=>th σ H2 fun u H3=>r x l u H3 Q
theorem a8T{r:V->Option Int->Option Int->Hp->VK->Prop}(hr:SlR X r)(he:PE X e te)(hl:PO X lo tl)(hu:PO X hi th):PE X (.Subscript e (.Slice lo hi none p2) pos) (tSl r te tl th):=by
 intro pins s σ H Q I h
 refine Subscript_ (thn (he pins s σ H _ I h) fun v s1 ⟨x,H1,I1,r1,q1⟩=>?_)
 refine wpAny_Slice (thn (hl pins s1 σ H1 _ I1 q1) fun vl s2 ⟨l,H2,I2,pl,q2⟩=>thn (hu pins s2 σ H2 _ I2 q2) fun vu s3 ⟨u,H3,I3,pu,q3⟩=>?_)
 rw[evalPart_none]
 refine f6 ?_
 have I4:Inv X pins σ H3 { s3 with heap:=s3.heap.push { cls:=.type "slice",data:=.fields #[vl,vu,.none] } }:=I3.kept (t':=s3.toks) fun b ob q=>c5 _ q
 obtain⟨T,id,hT,ht,hg⟩:=hr pins { s3 with heap:=s3.heap.push { cls:=.type "slice",data:=.fields #[vl,vu,.none] } } σ H3 x v vl vu l u s3.heap.objs.size Q I4 r1 (a2R ..) pl pu q3
 show wpAny (model X.prog X.w) X.A (b1U e (.Slice lo hi none p2) v (.ref s3.heap.objs.size)) (EP X pins σ Q) X.xe { s3 with heap:=s3.heap.push { cls:=.type "slice",data:=.fields #[vl,vu,.none] } }
 exact tail_any (ops:=[.ref s3.heap.objs.size,v]) ht hT hg (by with_unfolding_all rfl)
def Q6(xs:List V)(lo hi:Option Int):List V:=(xs.drop (HT.sIx xs.length 0 lo)).take (HT.sIx xs.length xs.length hi - HT.sIx xs.length 0 lo)
theorem a0P(xs:List V)(lo hi:Option Int):(Q6 xs lo hi).length<=xs.length:=by
 unfold Q6
 rw[o9,O2]
 omega
def b5l(K:Fg):V->Option Int->Option Int->Hp->VK->Prop:=fun x lo hi H Q=>∃a xs,x=.ref a/\SqT K H a xs /\
 ¬(HT.sIx xs.length 0 lo=0/\HT.sIx xs.length xs.length hi=xs.length)/\∀p,H p=none->Q (.ref p) (upd H p (.tup (Q6 xs lo hi)))
theorem a8p:SlR X (b5l X.K):=by
 intro pins s σ H x v vl vu lo hi sl Q I rx hs pl pu h
 obtain⟨a,xs,rfl,hx,hw,q⟩:=h
 cases rx
 obtain⟨its,r,ht,hz⟩:=I.tuple hx
 have hlen:its.toArray.size=xs.length:=by rw[b6];exact r.length.symm
 refine⟨"tuple",_,n5.lookup,ht.typeIs,?_⟩
 refine HT.a0g ht hs pl pu (by rw[hlen];exact hw) ?_ (by rw[hlen];exact hz)
 rw[hlen]
 refine⟨.ref s.heap.objs.size,_,I.laid (t':=s.toks) (o:=.tup (Q6 xs lo hi)) (fun b ob q=>c5 _ q) (a8 _) ?_,rfl,q _ (I.hok.fresh (a8 _))⟩
 exact⟨j3 (a0P xs lo hi) hz,_,(r.drop (HT.sIx xs.length 0 lo)).take (HT.sIx xs.length xs.length hi - HT.sIx xs.length 0 lo),IsTup.new _ _⟩
def b4p(K:Fg):R2:=fun x y H Q=>∃a b xs ys,x=.ref a/\y=.ref b/\SqT K H a xs/\SqT K H b ys/\xs≠[]/\xs.length+ys.length<=c9 /\
 (ys=[]->Q (.ref a) H)/\(ys≠[]->∀p,H p=none->Q (.ref p) (upd H p (.tup (xs++ys))))
theorem o3.nil_iff(r:o3 xs us):us=[]↔xs=[]:=by
 cases r with
 | nil=>simp
 | cons _ _=>simp
theorem b0R:OpR X (y4 .Add) (b4p X.K):=by
 intro pins s σ H x y v u Q I rx ry h
 obtain⟨a,b,xs,ys,rfl,rfl,ha,hb,hx,hz,q1,q2⟩:=h
 cases rx
 cases ry
 obtain⟨its,r1,p1,_⟩:=I.tuple ha
 obtain⟨its2,r2,p2,_⟩:=I.tuple hb
 refine HT.b1o p1 p2 (fun z=>hx (r1.nil_iff.mp z)) (fun z=>⟨.ref a,H,I,rfl,q1 (r2.nil_iff.mp z)⟩) (fun z=>?_) (by rw[<-r1.length,<-r2.length];exact hz)
 refine⟨.ref s.heap.objs.size,_,I.laid (t':=s.toks) (o:=.tup (xs++ys)) (fun b ob q=>c5 _ q) (a8 _) ?_,rfl,q2 (fun w=>z (r2.nil_iff.mpr w)) _ (I.hok.fresh (a8 _))⟩
 exact⟨by rw[u8];exact hz,_,r1.append r2,IsTup.new _ _⟩
end
def ixN(n:Nat)(i:Int):Option Nat:=if 0<=i then (if i<n then some i.toNat else none)else if -(n:Int)<=i then some (i+n).toNat else none
def atI{α:Type}(xs:List α)(i:Int):Option α:=(ixN xs.length i).bind fun j=>xs[j]?
theorem a6w{i:Int}{j:Nat}(h:ixN n i=some j):seqIndex? i n=some j/\j<n /\ -(n:Int)<=i/\i<n:=by
 unfold ixN at h
 by_cases h0:0<=i
 ·rw[if_pos h0]at h
  by_cases h1:i<n
  ·rw[if_pos h1]at h
   have e:i.toNat=j:=Option.some.inj h
   exact⟨by rw[b5b h0 h1,e],by omega,by omega,h1⟩
  ·rw[if_neg h1]at h;cases h
 ·rw[if_neg h0]at h
  by_cases h1 : -(n:Int)<=i
  ·rw[if_pos h1]at h
   have e:(i+n).toNat=j:=Option.some.inj h
   exact⟨by rw[b3T (by omega) h1,e],by omega,h1,by omega⟩
  ·rw[if_neg h1]at h;cases h
theorem a3E{α:Type}{xs:List α}{i:Int}{v:α}(h:atI xs i=some v):∃j,seqIndex? i xs.length=some j/\xs[j]? = some v/\j<xs.length /\ -(xs.length:Int)<=i/\i<xs.length:=by
 unfold atI at h
 cases e:ixN xs.length i with
 | none=>rw[e]at h;cases h
 | some j=>
  rw[e]at h
  obtain⟨h1,h2,h3,h4⟩:=a6w e
  exact⟨j,h1,h,h2,h3,h4⟩
theorem W6{α:Type}{xs:List α}{j:Nat}{v:α}(h:xs[j]? = some v):atI xs (j:Int)=some v:=by
 have hj:j<xs.length:=(p9.mp h).1
 have e:ixN xs.length (j:Int)=some j:=by
  unfold ixN
  rw[if_pos (by omega),if_pos (by omega)];simp
 unfold atI;rw[e];exact h
def a3F(b:Expr):Prop:=∀o i,a7T b false o i=operate [o,i] (a0p o i)
def IxR(X:Cx)(r:R2):Prop:=
 ∀(value slice:Expr) (pins:List (Addr×Obj)) (s:b5) (σ:St) (H:Hp) (x y:V) (v u:Value) (Q:VK),Inv X pins σ H s->m3 x v->m3 y u->r x y H Q ->
  a7T slice false v u=operate [v,u] (a0p v u)->wpAny (model X.prog X.w) X.A (b1U value slice v u) (EP X pins σ Q) X.xe s
def MtR(X:Cx)(id:String)(r:V->List V->Hp->VK->Prop):Prop:=
 ∀(pins:List (Addr×Obj)) (s:b5) (σ:St) (H:Hp) (x:V) (xs:List V) (v:Value) (us:List Value) (Q:VK),Inv X pins σ H s->m3 x v->o3 xs us->r x xs H Q ->
  wpAny (model X.prog X.w) X.A (call (.builtin id) (v::us)) (EP X pins σ Q) X.xe s
section
variable {a b:Expr}{ta tb:TE}{pos:Pos}
theorem IxR.or{r r':R2}(h:IxR X r)(h':IxR X r'):IxR X (fun x y H Q=>r x y H Q\/r' x y H Q):=by
 intro value slice pins s σ H x y v u Q I rx ry q hs
 rcases q with q | q
 ·exact h value slice pins s σ H x y v u Q I rx ry q hs
 ·exact h' value slice pins s σ H x y v u Q I rx ry q hs
theorem b4z{r:R2}(hr:IxR X r)(ha:PE X a ta)(hb:PE X b tb)(hs:a3F b):PE X (.Subscript a b pos) (tOp r ta tb):=by
 intro pins s σ H Q I h
 exact Subscript_ (b3w ha hb I h fun v u s2 x y H2 I2 rx ry q=>hr a b pins s2 σ H2 x y v u Q I2 rx ry q (hs _ _))
def b4o(K:Fg):R2:=fun x y H Q=>∃p xs i v,x=.ref p/\y=.int i/\SqL K H p xs/\atI xs i=some v/\Q v H
def b4m(K:Fg):R2:=fun x y H Q=>∃p xs i v,x=.ref p/\y=.int i/\SqT K H p xs/\atI xs i=some v/\Q v H
def b4n:R2:=fun x y H Q=>∃z i c,x=.str z/\y=.int i/\z.length<=c9/\atI z.cps.toList i=some c/\Q (.str ⟨#[c]⟩) H
theorem b1h:IxR X (b4o X.K):=by
 intro value slice pins s σ H x y v u Q I rx ry h hs
 obtain⟨p,xs,i,z,rfl,rfl,hq,he,q⟩:=h
 cases rx
 obtain⟨t,rfl⟩:=ry
 obtain⟨its,r,pl,hz⟩:=I.list hq
 obtain⟨j,h1,h2,h3,h4,h5⟩:=a3E he
 obtain⟨w,ew,rw'⟩:=r.get h2
 have hl:=r.length
 have hn:=Y1
 have fin:EP X pins σ Q w s:=⟨z,H,I,rw',q⟩
 by_cases h0:0<=i
 ·have hj:i.toNat=j:=by
   rw[b5b h0 h5]at h1
   exact Option.some.inj h1
  exact item_listR pl.isList h0 (by omega) (by rw[hj];simpa using ew) fin hs
 ·have hj:(i+(its.toArray.size:Int)).toNat=j:=by
   rw[b3T (by omega) h4]at h1
   rw[b6,<-hl]
   exact Option.some.inj h1
  exact b3O (x:=w) pl.isList.typeIs slot_list_getitem.lookup
   (wpAny_getItem_list_neg (Q:=fun r s'=>r=w/\EP X pins σ Q r s') pl.isList (by omega) (by rw[b6] <;> omega) (by omega) (by rw[hj];simpa using ew) ⟨rfl,fin⟩) hs
theorem b3o:IxR X (b4m X.K):=by
 intro value slice pins s σ H x y v u Q I rx ry h hs
 obtain⟨p,xs,i,z,rfl,rfl,hq,he,q⟩:=h
 cases rx
 obtain⟨t,rfl⟩:=ry
 obtain⟨its,r,pl,hz⟩:=I.tuple hq
 obtain⟨j,h1,h2,h3,h4,h5⟩:=a3E he
 obtain⟨w,ew,rw'⟩:=r.get h2
 have hl:=r.length
 have hn:=Y1
 have fin:EP X pins σ Q w s:=⟨z,H,I,rw',q⟩
 exact b3O (x:=w) pl.typeIs slot_tuple_getitem.lookup
  (getItem_tuple (j:=j) (Q:=fun r s'=>r=w/\EP X pins σ Q r s') pl (by omega) (by omega) (by rw[b6,<-hl];exact h1) (by simpa using ew) ⟨rfl,fin⟩) hs
theorem b3p:IxR X b4n:=by
 intro value slice pins s σ H x y v u Q I rx ry h hs
 obtain⟨z,i,c,rfl,rfl,hz,he,q⟩:=h
 obtain⟨t,rfl⟩:=rx
 obtain⟨t',rfl⟩:=ry
 obtain⟨j,h1,h2,h3,h4,h5⟩:=a3E he
 have hl:z.cps.toList.length=z.length:=by simp[Str.length]
 rw[hl]at h1 h4 h5
 have hn:=Y1
 exact tail_any (typeIs_str s z t) slot_str_getitem.lookup (getItem_str (c:=c) (by
  have e1:decide (i < -(2 ^ 63:Int))=false:=b6c (by omega)
  have e2:decide (i ≥ 2 ^ 63)=false:=b6c (by omega)
  rw[e1,e2,a4V]) (by rw[h1];simpa using h2) ⟨.str ⟨#[c]⟩,H,I.tok _,⟨_,rfl⟩,q⟩) hs
def rIx(K:Fg):R2:=fun x y H Q=>b4o K x y H Q\/b4m K x y H Q\/b4n x y H Q
theorem b3q:IxR X (rIx X.K):=b1h.or (b3o.or b3p)
theorem a5H(its:List Value)(n j:Nat)(u:Value):Obj.mapSeq (·.setIfInBounds j u) { cls:=.type "list",data:=.seq its.toArray n }={ cls:=.type "list",data:=.seq (its.set j u).toArray n }:=by
 simp[Obj.mapSeq]
theorem Inv.lst{pins:List (Addr×Obj)}{σ:St}{H:Hp}{s:b5}{p:Addr}{xs:List V}(I:Inv X pins σ H s)(h:H p=some (.lst xs)) :
  ∃(its:List Value) (n:Nat),o3 xs its/\s.heap.get? p=some { cls:=.type "list",data:=.seq its.toArray n }/\xs.length<=c9:=by
 obtain⟨z,its,n,r,e⟩:=I.hok p _ h
 exact⟨its,n,r,e,z⟩
theorem Inv.lstUpd{p:Addr}{ys:List V}{its its':List Value}{n':Nat}{f:Obj->Obj}(I:Inv X pins σ H s)(h:H p=some (.lst xs))
  (ho:s.heap.get? p=some { cls:=.type "list",data:=.seq its.toArray n }) (hf:f { cls:=.type "list",data:=.seq its.toArray n }={ cls:=.type "list",data:=.seq its'.toArray n' }) (r:o3 ys its') (hz:ys.length<=c9) (t:Nat) :
  Inv X pins σ (upd H p (.lst ys)) { s with heap:=s.heap.update p f,toks:=t }:=by
 have e:(s.heap.update p f).get? p=some { cls:=.type "list",data:=.seq its'.toArray n' }:=by
  rw[Heap.get?_update_self f ho (by rw[hf] <;> rfl),hf]
 refine I.write (x:=p) (e:=p) (by rw[h];trivial) (.inl rfl) (fun b u hb q=>(a6G _ _ (Ne.symm hb)).trans q) ⟨_,e⟩ ?_
 exact⟨hz,its',n',r,e⟩
def b4l:V->V->V->Hp->(Hp->Prop)->Prop:=fun o i v H Q=>∃p xs k j,o=.ref p/\i=.int k/\H p=some (.lst xs)/\ixN xs.length k=some j/\Q (upd H p (.lst (xs.set j v)))
theorem a8r:a9C X b4l:=by
 intro pins s σ H o i v ov iv u Q I ro ri rv h
 obtain⟨p,xs,k,j,rfl,rfl,hp,hj,q⟩:=h
 cases ro
 obtain⟨t,rfl⟩:=ri
 obtain⟨its,n,r,ho,hz⟩:=I.lst hp
 obtain⟨h1,h2,h3,h4⟩:=a6w hj
 have hl:=r.length
 have hn:=Y1
 have I':Inv X pins σ (upd H p (.lst (xs.set j v))) { s with heap:=s.heap.update p (Obj.mapSeq (·.setIfInBounds j u)) }:=
  I.lstUpd hp ho (a5H its n j u) (r.set rv j) (by rw[List.length_set];exact hz) s.toks
 by_cases h0:0<=k
 ·have hk:k.toNat=j:=by
   rw[b5b h0 h4]at h1
   exact Option.some.inj h1
  exact PySem.W.ki_setAt ho h0 (by omega) (by rw[b6,<-hl];exact h4) (by rw[hk];exact⟨_,I',q⟩)
 ·have hk:(k+(its.toArray.size:Int)).toNat=j:=by
   rw[b3T (by omega) h3]at h1
   rw[b6,<-hl]
   exact Option.some.inj h1
  exact PySem.W.ki_setBack ho (by omega) (by rw[b6,<-hl];exact h3) (by omega) (by rw[hk];exact⟨_,I',q⟩)
theorem a3c(lo hi:Option Int)(n:Nat):(U4 lo hi none n).1=((HT.sIx n 0 lo:Nat):Int)/\(U4 lo hi none n).2.1=((HT.sIx n n hi:Nat):Int)/\(U4 lo hi none n).2.2=1:=by
 refine⟨?_,?_,rfl⟩
 ·cases lo with
  | none=>simp[U4,HT.sIx]
  | some i=>
   simp only[U4,HT.sIx,a9K,show(1:Int) > 0 by decide,if_true]
   by_cases h:i<0
   ·simp only[h,if_true] <;> omega
   ·simp only[h,if_false] <;> omega
 ·cases hi with
  | none=>simp[U4,HT.sIx]
  | some i=>
   simp only[U4,HT.sIx,a9K,show(1:Int) > 0 by decide,if_true]
   by_cases h:i<0
   ·simp only[h,if_true] <;> omega
   ·simp only[h,if_false] <;> omega
theorem a1T(its:List Value)(lo hi:Option Int):slicePick its.toArray lo hi none=((its.drop (HT.sIx its.length 0 lo)).take (HT.sIx its.length its.length hi - HT.sIx its.length 0 lo)).toArray:=by
 obtain⟨h1,h2,h3⟩:=a3c lo hi its.toArray.size
 unfold slicePick
 rw[h1,h2,h3]
 simp only[sliceRange_one,pick_run,b6] <;> rfl
def b2p(K:Fg):V->Option Int->Option Int->Hp->VK->Prop:=fun x lo hi H Q=>∃a xs,x=.ref a/\SqL K H a xs/\∀p,H p=none->Q (.ref p) (upd H p (.lst (Q6 xs lo hi)))
theorem a6j:SlR X (b2p X.K):=by
 intro pins s σ H x v vl vu lo hi sl Q I rx hs pl pu h
 obtain⟨a,xs,rfl,hx,q⟩:=h
 cases rx
 obtain⟨its,r,ht,hz⟩:=I.list hx
 have hlen:=r.length
 refine⟨"list",_,slot_list_getitem.lookup,ht.isList.typeIs,?_⟩
 refine wpAny_getItem_list_slice ht.isList hs pl pu .none (by simp) ?_ (by rw[b6] <;> omega)
 rw[a1T,<-hlen]
 refine⟨.ref s.heap.objs.size,_,I.laid (t':=s.toks) (o:=.lst (Q6 xs lo hi)) (fun b ob q=>c5 _ q) (a8 _) ?_,rfl,q _ (I.hok.fresh (a8 _))⟩
 exact⟨j3 (a0P xs lo hi) hz,_,0,(r.drop (HT.sIx xs.length 0 lo)).take (HT.sIx xs.length xs.length hi - HT.sIx xs.length 0 lo),l5 _ rfl⟩
def C3:V->Bool
 | .non=>true
 | .bl _=>true
 | .int _=>true
 | .str _=>true
 | _=>false
def eqV:V->V->Bool
 | .non,.non=>true
 | .bl a,.bl b=>a == b
 | .bl a,.int b=>(if a then 1 else 0) == b
 | .int a,.bl b=>a == (if b then 1 else 0)
 | .int a,.int b=>a == b
 | .str a,.str b=>a == b
 | _,_=>false
theorem a9q{A:u6}{y:V}{u v:Value}(ry:m3 y u)(rx:m3 x v)(fy:C3 y=true)(fx:C3 x=true):SeqAt.EqAt A s u v (eqV y x):=by
 cases y with
 | non=>
  cases ry
  cases x with
  | non=>cases rx;exact SeqAt.EqAt.same _
  | bl b=>cases rx;exact SeqAt.EqAt.none_bool b
  | int b=>obtain⟨t,rfl⟩:=rx;exact SeqAt.EqAt.none_int b t
  | str b=>obtain⟨t,rfl⟩:=rx;exact SeqAt.EqAt.none_str b t
  | _=>exact absurd (show false=true from fx) c7
 | bl a=>
  cases ry
  cases x with
  | non=>cases rx;exact SeqAt.EqAt.bool_none a
  | bl b=>cases rx;exact SeqAt.EqAt.bool_bool a b
  | int b=>obtain⟨t,rfl⟩:=rx;exact SeqAt.EqAt.bool_int a b t
  | str b=>obtain⟨t,rfl⟩:=rx;exact SeqAt.EqAt.bool_str a b t
  | _=>exact absurd (show false=true from fx) c7
 | int a=>
  obtain⟨t',rfl⟩:=ry
  cases x with
  | non=>cases rx;exact SeqAt.EqAt.int_none a t'
  | bl b=>cases rx;exact SeqAt.EqAt.int_bool a t' b
  | int b=>obtain⟨t,rfl⟩:=rx;exact SeqAt.EqAt.int_int a t' b t
  | str b=>obtain⟨t,rfl⟩:=rx;exact SeqAt.EqAt.int_str a t' b t
  | _=>exact absurd (show false=true from fx) c7
 | str a=>
  obtain⟨t',rfl⟩:=ry
  cases x with
  | non=>cases rx;exact SeqAt.EqAt.str_none a t'
  | bl b=>cases rx;exact SeqAt.EqAt.str_bool a t' b
  | int b=>obtain⟨t,rfl⟩:=rx;exact SeqAt.EqAt.str_int a t' b t
  | str b=>obtain⟨t,rfl⟩:=rx;exact SeqAt.EqAt.str_str a t' b t
  | _=>exact absurd (show false=true from fx) c7
 | _=>exact absurd (show false=true from fy) c7
def eqU(x:V)(u:Value):Bool:=match u with
 | .none=>eqV .non x
 | .bool b=>eqV (.bl b) x
 | .int i _=>eqV (.int i) x
 | .str z _=>eqV (.str z) x
 | _=>false
theorem a9p{y:V}{u:Value}(r:m3 y u)(f:C3 y=true):eqU x u=eqV y x:=by
 cases y with
 | non=>cases r;rfl
 | bl b=>cases r;rfl
 | int i=>obtain⟨t,rfl⟩:=r;rfl
 | str z=>obtain⟨t,rfl⟩:=r;rfl
 | _=>exact absurd (show false=true from f) c7
theorem a0j:∀ {xs:List V} {us:List Value},o3 xs us->xs.all C3=true->us.any (eqU x)=xs.any fun y=>eqV y x
 | _,_,.nil,_=>rfl
 | y::xs,u::us,.cons r t,f=>by
  rw[a4U,p8]at f
  rw[T9,T9,a9p r f.1,a0j t f.2]
theorem V3{A:u6}{v:Value}(rx:m3 x v)(fx:C3 x=true):∀ {xs:List V} {us:List Value},o3 xs us->xs.all C3=true->∀u∈us,SeqAt.EqAt A s u v (eqU x u)
 | _,_,.nil,_=>fun u hu=>by cases hu
 | y::xs,u::us,.cons r t,f=>fun u' hu=>by
  rw[a4U,p8]at f
  rcases g5.mp hu with rfl | hu
  ·rw[a9p r f.1];exact a9q r rx f.1 fx
  ·exact V3 rx fx t f.2 u' hu
def inV(x:V)(xs:List V):Bool:=xs.any fun y=>eqV y x
def rIn(K:Fg)(neg:Bool):R2:=fun x y H Q=>∃p xs,y=.ref p/\(SqL K H p xs\/SqT K H p xs)/\C3 x=true/\xs.all C3=true/\Q (.bl (if neg then !inV x xs else inV x xs)) H
theorem a2y:OpR X (d9 .In) (rIn X.K false):=by
 intro pins s σ H x y v u Q I rx ry h
 obtain⟨p,xs,rfl,hq,fx,fs,q⟩:=h
 cases ry
 rcases hq with hq | hq
 ·obtain⟨its,r,pl,hz⟩:=I.list hq
  refine SeqAt.in_listAt (eqU x) pl.isList (fun w hw=>V3 rx fx r fs w (by simpa using hw)) ⟨.bl _,H,I,rfl,?_⟩
  rw[show its.toArray.any (eqU x)=its.any (eqU x) by simp,a0j r fs]
  exact q
 ·obtain⟨its,r,pl,hz⟩:=I.tuple hq
  refine SeqAt.in_tupleAt (eqU x) pl (fun w hw=>V3 rx fx r fs w (by simpa using hw)) ⟨.bl _,H,I,rfl,?_⟩
  rw[show its.toArray.any (eqU x)=its.any (eqU x) by simp,a0j r fs]
  exact q
theorem a3s:OpR X (d9 .NotIn) (rIn X.K true):=by
 intro pins s σ H x y v u Q I rx ry h
 obtain⟨p,xs,rfl,hq,fx,fs,q⟩:=h
 cases ry
 rcases hq with hq | hq
 ·obtain⟨its,r,pl,hz⟩:=I.list hq
  refine SeqAt.notIn_listAt (eqU x) pl.isList (fun w hw=>V3 rx fx r fs w (by simpa using hw)) ⟨.bl _,H,I,rfl,?_⟩
  rw[show its.toArray.any (eqU x)=its.any (eqU x) by simp,a0j r fs]
  exact q
 ·obtain⟨its,r,pl,hz⟩:=I.tuple hq
  refine SeqAt.notIn_tupleAt (eqU x) pl (fun w hw=>V3 rx fx r fs w (by simpa using hw)) ⟨.bl _,H,I,rfl,?_⟩
  rw[show its.toArray.any (eqU x)=its.any (eqU x) by simp,a0j r fs]
  exact q
theorem a3r:OpR X (d9 .NotIn) (fun x y H Q=>∃i j,x=.str i/\y=.str j/\Q (.bl (!(!(Builtin.Str.occurrences j i 0 j.length 1).isEmpty))) H):=by
 intro pins s σ H x y v u Q I rx ry h
 obtain⟨i,j,rfl,rfl,q⟩:=h
 obtain⟨t,rfl⟩:=rx
 obtain⟨t',rfl⟩:=ry
 exact notIn_str ⟨.bl _,H,I,rfl,q⟩
theorem a3C:J4 X (.builtin "len") (fun xs H Q=>∃p ys,xs=[.ref p]/\(SqL X.K H p ys\/SqT X.K H p ys)/\Q (.int ys.length) H):=by
 intro pins s σ H xs us Q I r h
 obtain⟨p,ys,rfl,hq,q⟩:=h
 obtain⟨u,rfl,rx⟩:=a2n r
 cases rx
 have hn:=Y1
 rcases hq with hq | hq
 ·obtain⟨its,r',pl,hz⟩:=I.list hq
  have hlen:=r'.length
  exact Calls.call_len_list pl.isList (by simp only[b6] <;> omega) ⟨.int ys.length,H,I.tok _,⟨s.toks+1,by rw[b6,hlen]⟩,q⟩
 ·obtain⟨its,r',pl,hz⟩:=I.tuple hq
  have hlen:=r'.length
  exact len_tuple pl (by simp only[b6] <;> omega) ⟨.int ys.length,H,I.tok _,⟨s.toks+1,by rw[b6,hlen]⟩,q⟩
theorem a3B:J4 X (.builtin "len") (fun xs H Q=>∃z,xs=[.str z]/\z.length<=c9/\Q (.int z.length) H):=by
 intro pins s σ H xs us Q I r h
 obtain⟨z,rfl,hz,q⟩:=h
 obtain⟨u,rfl,t,rfl⟩:=a2n r
 have hn:=Y1
 exact len_str (by omega) ⟨.int z.length,H,I.tok _,⟨_,rfl⟩,q⟩
theorem J4.or{f:Value}{r r':List V->Hp->VK->Prop}(h:J4 X f r)(h':J4 X f r'):J4 X f (fun xs H Q=>r xs H Q\/r' xs H Q):=by
 intro pins s σ H xs us Q I rs q
 rcases q with q | q
 ·exact h pins s σ H xs us Q I rs q
 ·exact h' pins s σ H xs us Q I rs q
theorem a3A:J4 X (.type "list") (fun xs H Q=>∃p ys,xs=[.ref p]/\(SqL X.K H p ys\/SqT X.K H p ys)/\∀l,H l=none->Q (.ref l) (upd H l (.lst ys))):=by
 intro pins s σ H xs us Q I r h
 obtain⟨p,ys,rfl,hq,q⟩:=h
 obtain⟨u,rfl,rx⟩:=a2n r
 cases rx
 have fin:∀(its:List Value),o3 ys its->ys.length<=c9->∀(h':Heap) (c':Nat),(∀b o',s.heap.get? b=some o'->h'.get? b=some o') ->
   h'.get? s.heap.objs.size=some { cls:=.type "list",dict:=none,data:=.seq its.toArray c',slots := #[] }->EP X pins σ Q (.ref s.heap.objs.size) { s with heap:=h' }:=fun its r' hz h' c' kp e=>
  ⟨.ref s.heap.objs.size,_,I.laid (t':=s.toks) kp (a8 _) (show A7 X.prog X.w _ h' _ (.lst ys)from⟨hz,its,c',r',e⟩),rfl,q _ (I.hok.fresh (a8 _))⟩
 rcases hq with hq | hq
 ·obtain⟨its,r',pl,hz⟩:=I.list hq
  have hlen:=r'.length
  obtain⟨o,ho,hc,n,hd⟩:=pl.isList
  exact call_list_seq p (.inl rfl) ho hc hd (fun h' c' kp e=>fin its r' hz h' c' kp e) (by simp only[b6] <;> omega)
 ·obtain⟨its,r',pl,hz⟩:=I.tuple hq
  have hlen:=r'.length
  obtain⟨o,ho,hc,n,hd⟩:=pl
  exact call_list_seq p (.inr rfl) ho hc hd (fun h' c' kp e=>fin its r' hz h' c' kp e) (by simp only[b6] <;> omega)
def tyV(K:Fg)(T:String)(x:V)(H:Hp):Prop:=match x with
 | .str _=>T = "str"
 | .int _=>T = "int"
 | .ref p=>(T = "list" /\ ∃xs,SqL K H p xs)\/(T = "tuple" /\ ∃o,K.lookup p=some o/\o.cls=.type "tuple" /\ o.dict=none) \/
   (T = "dict" /\ ((∃kvs,H p=some (.dK kvs))\/∃kvs,H p=some (.dT kvs)))\/(T = "set" /\ ∃S n,H p=some (.set S n))
 | _=>False
theorem b1Y{T:String}{v:Value}(I:Inv X pins σ H s)(r:m3 x v)(ty:tyV X.K T x H) :
  s.TypeIs v T/\∀a,v=.ref a->∃ob,s.heap.get? a=some ob/\ob.dict=none:=by
 cases x with
 | str z=>
  obtain⟨t,rfl⟩:=r
  cases (show T = "str" from ty)
  exact⟨typeIs_str s z t,fun _ e=>nomatch e⟩
 | int i=>
  obtain⟨t,rfl⟩:=r
  cases (show T = "int" from ty)
  exact⟨typeIs_int s i t,fun _ e=>nomatch e⟩
 | ref p=>
  cases r
  rcases ty with ⟨rfl,xs,hq⟩ | ⟨rfl,o,hk,hc,hd⟩ | ⟨rfl,hk⟩ | ⟨rfl,S,n,hk⟩
  ·obtain⟨its,_,pl,_⟩:=I.list hq
   refine⟨pl.isList.typeIs,fun a e=>?_⟩
   cases e
   obtain⟨o,n,e,c,hd,_⟩:=pl
   exact⟨o,e,hd⟩
  ·refine⟨⟨o,I.kIn p o hk,hc⟩,fun a e=>?_⟩
   cases e
   exact⟨o,I.kIn _ o hk,hd⟩
  ·have z:∃o,s.heap.get? p=some o/\o.ExactDict:=by
    rcases hk with ⟨kvs,hk⟩ | ⟨kvs,hk⟩
    ·obtain⟨_,_,_,_,o,_,_,e,ex,_⟩:=I.hok p _ hk
     exact⟨o,e,ex⟩
    ·obtain⟨_,_,_,_,o,_,_,e,ex,_⟩:=I.hok p _ hk
     exact⟨o,e,ex⟩
   obtain⟨o,e,ex⟩:=z
   refine⟨⟨o,e,ex.1⟩,fun a e2=>?_⟩
   cases e2
   exact⟨o,e,ex.2.1⟩
  ·obtain⟨o,_,_,_,e,ex,_⟩:=I.hok p _ hk
   refine⟨⟨o,e,ex.1⟩,fun a e2=>?_⟩
   cases e2
   exact⟨o,e,ex.2.1⟩
 | _=>exact False.elim ty
def tBM(K:Fg)(T:String)(r:V->List V->Hp->VK->Prop)(to:TE)(t:TA):TE:=fun σ H Q=>to σ H fun x H1=>tyV K T x H1/\t σ H1 fun xs H2=>r x xs H2 Q
variable {o e:Expr}{es:List Expr}{to:TE}{t:TA}{name:Str}{apos cpos:Pos}{T id:String}{r:V->List V->Hp->VK->Prop}
theorem b4A(pa:PlainAttrs T)(slot:Slot T name id)(hty:typeOf (.builtin id)=pure (.type "method_descriptor"))(hm:MtR X id r)(ho:PE X o to)(ha:PA X (e::es) t)
  (hbase:a3Q o name X.env (eval o X.env)=eval o X.env:=by rfl)
  (hfew:((Q9 cpos (c4 (e::es) X.env)).all (fun x => !x.1)&&(backToKw cpos (a7U [] X.env)).all (fun x=>x.1.isSome)
   && decide ((e::es).length+([]:List a2T).length+(if([]:List a2T).isEmpty then 0 else 1)<30))=true:=by rfl)
  (hline:(apos.endLine == cpos.line)=true:=by rfl) (hs:c4 (e::es) X.env=(false,eval e X.env)::c4 es X.env:=by rfl) (hplain:(Q9 cpos (c4 es X.env)).any (·.1)=false:=by rfl) :
  PE X (.Call (.Attribute o name apos) (e::es) [] cpos) (tBM X.K T r to t):=by
 intro pins s σ H Q I h
 refine wpAny_Call_method_late hbase hfew hline rfl (thn (ho pins s σ H _ I h) fun v s1 ⟨x,H1,I1,r1,ty,q1⟩=>?_)
 obtain⟨h1,h2⟩:=b1Y I1 r1 ty
 refine⟨T,id,pa,slot,hty,h1,h2,?_⟩
 have hA:=ha cpos pins s1 σ H1 _ I1 q1
 rw[hs]at hA ⊢
 refine Calls.callWith_builtin (by show(false||(Q9 cpos (c4 es X.env)).any (·.1))=false;rw[hplain] <;> rfl) (Calls.evalArgs_plain ?_)
 exact thn hA fun us s2 ⟨vs,H2,I2,r2,q2⟩=>hm pins s2 σ H2 x vs v us Q I2 r1 r2 q2
end
def MtM(X:Cx)(id:String)(r:V->List V->Hp->VK->Prop):Prop:=
 ∀(pins:List (Addr×Obj)) (s:b5) (σ:St) (H:Hp) (x:V) (xs:List V) (v:Value) (us:List Value) (Q:VK),Inv X pins σ H s->m3 x v->o3 xs us->r x xs H Q ->
  wpAny (model X.prog X.w) X.A (call (.builtin id) (v::us)) (EP X pins σ Q) X.xe s
theorem o3.one:∀ {x:V} {us:List Value},o3 [x] us->∃u,us=[u]/\m3 x u
 | _,_,.cons r .nil=>⟨_,rfl,r⟩
theorem o3.reverse(h:o3 xs us):o3 xs.reverse us.reverse:=by
 induction h with
 | nil=>exact .nil
 | cons r t ih=>rw[b1z,b1z];exact o3.append ih (.cons r .nil)
section
variable {l b:Addr}{ys zs:List V}
theorem Inv.lset{its its':List Value}{f:Array Value->Array Value}{t':Nat}(I:Inv X pins σ H s)(hH:H l=some (.lst xs))
  (e:s.heap.get? l=some { cls:=.type "list",data:=.seq its.toArray n }) (hf:f its.toArray=its'.toArray) (hv:o3 ys its') (hz:ys.length<=c9) :
  Inv X pins σ (upd H l (.lst ys)) { s with heap:=s.heap.update l (Obj.mapSeq f),toks:=t' }:=by
 have q:=PySem.IsL.update e f
 rw[hf]at q
 refine I.write (x:=l) (e:=l) (by rw[hH];exact trivial) (.inl rfl) (fun b' u hb hu=>(a6G s.heap (Obj.mapSeq f) (Ne.symm hb)).trans hu) ⟨_,q⟩ ?_
 exact⟨hz,its',_,hv,q⟩
theorem Inv.lnew{its:List Value}{t':Nat}(I:Inv X pins σ H s)(hv:o3 ys its)(hz:ys.length<=c9) :
  Inv X pins σ (upd H s.heap.objs.size (.lst ys)) { s with heap:=s.heap.push { cls:=.type "list",data:=.seq its.toArray },toks:=t' }:=
 I.laid (fun _ _ q=>c5 _ q) (a8 _) ⟨hz,its,0,hv,l5 _ rfl⟩
theorem Inv.fresh(I:Inv X pins σ H s):H s.heap.objs.size=none:=I.hok.fresh (a8 _)
theorem Inv.lstM(I:Inv X pins σ H s)(hH:H l=some (.lst xs)):xs.length<=c9/\∃(its:List Value) (n:Nat),o3 xs its/\xs.length=its.length/\s.heap.get? l=some { cls:=.type "list",data:=.seq its.toArray n }:=by
 obtain⟨z,its,n,r,e⟩:=I.hok l _ hH
 exact⟨z,its,n,r,r.length,e⟩
theorem a9f(h:n<=c9):Builtin.List.listTooLong n=false:=by
 unfold Builtin.List.listTooLong
 exact b6c (by omega)
end
section
def b0m:V->List V->Hp->VK->Prop:=fun x vs H Q=>∃l xs y,x=.ref l/\vs=[y]/\H l=some (.lst xs)/\xs.length<c9/\Q .non (upd H l (.lst (xs++[y])))
theorem a2z:MtM X "list.append" b0m:=by
 intro pins s σ H x vs v us Q I rx rv h
 obtain⟨l,xs,y,rfl,rfl,hH,hz,q⟩:=h
 cases rx
 obtain⟨u,rfl,ru⟩:=rv.one
 obtain⟨z,its,n,r,hl,e⟩:=I.lstM hH
 refine a1Q F.slot_list_append ⟨_,e,rfl⟩ F.entry_list_append (F.args_list_append_2 _ _) (PySem.list_append l its.toArray n u (by rw[b6];omega)) ⟨e,?_⟩
 refine⟨.non,_,I.lset (its':=its++[u]) hH e (by simp) (r.append (.cons ru .nil)) ?_,rfl,q⟩
 rw[u8,a7H]
 omega
def b0l:V->List V->Hp->VK->Prop:=fun x vs H Q=>∃l b xs zs,x=.ref l/\vs=[.ref b]/\H l=some (.lst xs)/\H b=some (.lst zs)/\xs.length+zs.length<=c9/\Q .non (upd H l (.lst (xs++zs)))
theorem a7l:MtM X "list.extend" b0l:=by
 intro pins s σ H x vs v us Q I rx rv h
 obtain⟨l,b,xs,zs,rfl,rfl,hH,hB,hz,q⟩:=h
 cases rx
 obtain⟨u,rfl,ru⟩:=rv.one
 cases ru
 obtain⟨z,its,n,r,hl,e⟩:=I.lstM hH
 obtain⟨z2,its2,n2,r2,hl2,e2⟩:=I.lstM hB
 have hsz:its.toArray.size+its2.toArray.size<=c9:=by rw[b6,b6];omega
 have hlong:¬(!its.toArray.isEmpty&&Builtin.List.listTooLong (its.toArray.size+its2.toArray.size))=true:=by
  rw[a9f hsz,Bool.and_false]
  exact c7
 refine a1Q F.slot_list_extend ⟨_,e,rfl⟩ F.entry_list_extend (F.args_list_extend_2 _ _)
  (AutoSeq1.list_extend_list_list_0 l its.toArray n b its2.toArray n2 hlong (by rw[b6];omega) (by omega)) ⟨e,e2,?_⟩
 refine⟨.non,_,I.lset (its':=its++its2) hH e (by simp) (r.append r2) ?_,rfl,q⟩
 rw[u8]
 omega
def b5m:R2:=fun x y H Q=>∃l b xs zs,x=.ref l/\y=.ref b/\H l=some (.lst xs)/\H b=some (.lst zs)/\xs.length+zs.length<=c9/\∀p,H p=none->Q (.ref p) (upd H p (.lst (xs++zs)))
theorem b3b:OpR X (y4 .Add) b5m:=by
 intro pins s σ H x y v u Q I rx ry h
 obtain⟨l,b,xs,zs,rfl,rfl,hH,hB,hz,q⟩:=h
 cases rx
 cases ry
 obtain⟨z,its,n,r,hl,e⟩:=I.lstM hH
 obtain⟨z2,its2,n2,r2,hl2,e2⟩:=I.lstM hB
 refine PySem.P.add_list e e2 ?_ (by rw[b6,b6];omega)
 have ea:its.toArray++its2.toArray=(its++its2).toArray:=by simp
 rw[ea]
 exact⟨.ref _,_,I.lnew (t':=s.toks) (r.append r2) (by rw[u8];omega),rfl,q _ I.fresh⟩
end
section
variable {prog:g7}{w:World}{A:u6}{E:Value->b5->Prop}
set_option maxRecDepth 100000 in
end
section
end
end L2
namespace Att
open PySem PySem.W PySem.Calls PyProof.Rows
theorem a0S{P:Params}{h:Heap}:∀(ns:List Int) (vs:List Value),WellAll P h vs (ns.map WData.int)->b5c vs ns:=by
 intro ns
 induction ns with
 | nil=>
  intro vs w
  rw[a1e]at w
  cases w
  exact .nil
 | cons n ns ih=>
  intro vs w
  rw[C5]at w
  cases w with
  | cons a b=>
   cases a
   exact .cons _ _ (ih _ b)
theorem a6U{l:OpenLaw}{n:Nat}(hn:l.most=some n){P:Params}{h:Heap}{args:List WData}{vals:List Value}
  (hpre:l.row.toRowW.claim.pre args=true) (hwl:WellAll P h vals args) :
  ∃a vs ns,vals=[Value.ref a]/\args=[WData.list (ns.map WData.int)]/\h.get? a=some { cls:=.type "list",data:=.seq vs.toArray }/\b5c vs ns/\ns.length<=n:=by
 have hsh:WShape.hasAll [] args [.list .int]=true:=(pre_splitW hpre).1
 have hc:l.pre.holds [] { args:=args }=true:=(pre_splitW hpre).2
 obtain⟨d,r,rfl,h1,h2⟩:=hasAllW_cons hsh
 obtain rfl:=hasAllW_nil h2
 obtain⟨xs,rfl,h3⟩:=hasW_list h1
 obtain⟨ns,rfl⟩:=items_int h3
 have hlen:ns.length<=n:=by
  unfold OpenLaw.pre at hc
  have h4:(WTm.not (.lt (.lit (.int (n:Int))) (.len (.arg 0)))).holds [] { args:=[.list (ns.map .int)] }=true:=by
   have h4:=(holds_andW hc).1
   rw[hn]at h4
   exact h4
  have h5:=condW_of h4 (w_not (w_lt w_lit (w_len_list (w_arg rfl))))
  rw[g8]at h5
  refine Nat.le_of_not_lt fun q=>?_
  have q':(n:Int)<((ns.length:Nat):Int):=by omega
  first
   | (rw[b6d q']at h5;exact absurd h5 (by decide))
   | (simp at h5;omega)
 cases hwl with
 | cons w1 w2=>
  cases w2
  cases w1 with
  | list ho hall=>exact⟨_,_,ns,rfl,rfl,ho,a0S ns _ hall,hlen⟩
theorem a7a(l:OpenLaw)(args:List WData):l.row.toRowW.claim.post args (.bool true) args=true:=
 postW_of (r:=l.row.toRowW) (X:=(true == true))
  (show WShape.has [] (.bool true) .bool=true by first | rfl | decide | simp[WShape.has,WShape.arms,WShape.armsAll])
  (show(WTm.eq .res (.lit (.bool true))).value [] { args:=args,res:=some (.bool true),after:=args }=some (.bool (true == true))from w_eq_bool (w_res rfl) w_lit) rfl
theorem a4L{l:OpenLaw}{n:Nat}{q:g7}{loose:List Str}{XP:(Str->Option Value)->Heap->Prop}{YP:World->Heap->Prop}{d:DefRec}
  (hn:l.most=some n) (hdf:d.params.defaults=[])
  (call:∀(w:World) (s₀ s₁:b5) (mg mb:Str->Option Value) (fa:Addr) (o:Obj) (pm cd doc:Value) (a:Addr) (vs:List Value) (ns:List Int),
   Ground q loose [] XP w s₀ mg mb s₁.heap->YP w s₁.heap ->
   s₁.heap.get? fa=some o->o.data=.func (docDef d.name d.params d.body d.scope pm cd doc)->s₁.heap.CodeRec cd d.name->mg d.name=some (.ref fa) ->
   s₁.heap.get? a=some { cls:=.type "list",data:=.seq vs.toArray }->b5c vs ns->ns.length<=n->s₁.gens = #[] ->
   a7V (model l.prog w) a7W (.call (.ref fa) ⟨[.ref a],[]⟩) (fun r s'=>r=.ok (.ret (.bool true))/\OldK s₁.heap s'.heap/\s'.os=s₁.os/\a2U s'.gens) s₁) :
  WalkO q loose XP YP l.row.toRowW d [] (fun f vs=>a3G f vs):=by
 intro w s₀ s₁ mg mb G Y fa o pm cd doc dV kV ho hd hcd hD hmg hg args vals as hpre hlay hrd hwl hlo
 obtain rfl:dV=.none:=Dflts.none hD hdf
 obtain rfl:kV=.none:=Dflts.noKw hD
 obtain⟨a,vs,ns,rfl,rfl,hobj,hints,hlen⟩:=a6U hn hpre hwl
 refine enter_call (b3V (call w s₀ s₁ mg mb fa o pm cd doc a vs ns G Y ho (fd_plain hd) hcd hmg hobj hints hlen hg) fun r s' hq=>?_)
 obtain⟨rfl,h2,h3,h4⟩:=hq
 exact⟨.inl ⟨.bool true,.bool true,[],rfl,fun _=>rfl,.bool true,a7a l _,fun _=>⟨List.Pairwise.nil,fun _ hm=>(nomatch hm)⟩⟩,h2,h3,h4⟩
section
variable {prog:g7}{w:World}{A:u6}{E:Value->b5->Prop}{s:b5}{K:Frag}
end
end Att
namespace L2
open PySem PySem.Spec PyProof.Rows
variable{x:Str}
theorem a2m:∀ {vs:List Value} {ns:List Int},b5c vs ns->o3 (ns.map V.int) vs
 | _,_,.nil=>.nil
 | _,_,.cons n t h=>.cons ⟨t,rfl⟩ (a2m h)
def b1u(H:Hp):Prop:=∀b,H b=none\/∃o xs,H b=some (.frz o (.lst xs))
theorem a9k{P:g7}{w:World}{K:Fg}{mg mb:Str->Option Value}{CX:CXT}{k:Nat}{fa a:Addr}{fd:E4}{sp:Sp}{s₁:b5}{vs:List Value}{ns:List Int}
  (KX:K.In s₁.heap) (hns:s₁.heap.Ns e8 mg) (hb:s₁.heap.Ns builtinsNs mb) (hbb:∀x:Str,x ≠ "__name__" -> mb x=J5 x) (hlim:s₁.heap.NoLimit) (hg:s₁.gens = #[])
  (ha:s₁.heap.get? a=some { cls:=.type "list",data:=.seq vs.toArray }) (hi:b5c vs ns) (hl:ns.length<=c9) (hr:F0 k a7W)
  (F:∀base:Heap,K.In base->base.Ns e8 mg->D8 P w K mg base CX k fa fd [x] sp) (hbind:∀(s:b5) (u:Value),a7X s fd ⟨[u],[]⟩ [(x,u)])
  (hsp:∀H:Hp,b1u H->SqL K H a (ns.map V.int)->sp [.ref a] H (fun v _=>v=.bl true) fun _ _ _=>False)
  (hCX:∀H e s',CX [] H s₁ (fun _ _ _=>False) e s'->False) :
  a7V (model P w) a7W (.call (.ref fa) ⟨[.ref a],[]⟩) (fun r s'=>r=.ok (.ret (.bool true))/\OldK s₁.heap s'.heap/\s'.os=s₁.os/\a2U s'.gens) s₁:=by
 have rv:=a2m hi
 have lenV:=hi.length
 have core:∀H:Hp,b1u H->SqL K H a (ns.map V.int)->HOk P w H s₁.heap->(∀b,H b≠none->b=a)->(H a≠none->K.lookup a=none) ->
   a7V (model P w) a7W (.call (.ref fa) ⟨[.ref a],[]⟩) (fun r s'=>r=.ok (.ret (.bool true))/\OldK s₁.heap s'.heap/\s'.os=s₁.os/\a2U s'.gens) s₁:=by
  intro H hO hS hok hA hK
  have base_of:∀ {b:Addr} {o:Obj},s₁.heap.get? b=some o->H b=none->(a3w s₁.heap H).get? b=some o:=fun e n=>a9l e n
  have noA:∀ {b:Addr} {o:Obj} {es:Array Y7} {ep:Nat},s₁.heap.get? b=some o->o.data=.dict es ep->H b=none:=fun {b o es ep} e d=>by
   cases q:H b with
   | none=>rfl
   | some u=>
    have e':b=a:=hA b (by rw[q];simp)
    subst e'
    rw[ha]at e;cases e
    have d':Data.seq vs.toArray _=Data.dict es ep:=d
    cases d'
  have nsK:∀ {b:Addr} {m:Str->Option Value},s₁.heap.Ns b m->(a3w s₁.heap H).Ns b m:=fun {b m} ⟨o,es,ep,e,d,r⟩=>⟨o,es,ep,base_of e (noA e d),d,r⟩
  have hKb:K.In (a3w s₁.heap H):=fun b o e=>base_of (KX b o e) (by
   cases q:H b with
   | none=>rfl
   | some u=>
    have e':b=a:=hA b (by rw[q];simp)
    subst e'
    rw[hK (by rw[q];simp)]at e;cases e)
  have hM:Mod K mg (a3w s₁.heap H):=⟨hKb,nsK hns,⟨mb,nsK hb,hbb⟩,let⟨mc,h1,h2⟩:=hlim; ⟨mc,nsK h1,h2⟩⟩
  have e0:b1v P w K mg (a3w s₁.heap H) a7W [] s₁ H:=⟨rfl,hM,fun b o e=>b0Y e,Nat.le_of_eq (a7s _ _),trivial,fun b hb=>absurd (show b∈([]:List Addr)from hb) (by simp),hok,.of_eq hg⟩
  refine b3V ((F _ hKb (nsK hns)).run a7W [] s₁ H ⟨[.ref a],[]⟩ [.ref a] [.ref a] _ _ hr e0 (hbind s₁ (.ref a)) (.cons rfl .nil) (hsp H hO hS)) fun r s' h=>?_
  cases r with
  | error e=>exact(hCX H e s' h).elim
  | ok fl=>
   cases fl with
   | next=>exact False.elim h
   | brk=>exact False.elim h
   | cont=>exact False.elim h
   | ret u=>
    obtain⟨v,H',os,bare,un,hok',r',q⟩:=h
    have q':v=.bl true:=q
    subst q'
    obtain rfl:u=Value.bool true:=r'
    refine⟨rfl,OldK.of_keep fun b o e=>?_,os,bare⟩
    cases q:H b with
    | none=>exact un.keep b o e q (by intro z;exact absurd (show b∈([]:List Addr)from z) (by simp)) (by simp)
    | some u=>
     rcases hO b with z | ⟨ob,xs,z⟩
     ·rw[q]at z;cases z
     ·have z2:=un.frzs b ob _ z
      obtain⟨e1,_⟩:=hok b _ z
      obtain⟨e2,_⟩:=hok' b _ z2
      rw[e]at e1;cases e1
      exact e2
 cases hk:K.lookup a with
 | some o=>
  have e:=KX a o hk
  rw[ha]at e
  cases e
  refine core (fun _=>none) (fun _=>.inl rfl) (.inr ⟨_,vs.toArray,_,hk,rfl,rfl,rfl,by rw[b6,lenV];exact hl,by simpa using rv⟩) (fun b u z=>by have z':(none:Option HO)=some u:=z;cases z') (fun b z=>absurd rfl z) fun z=>absurd rfl z
 | none=>
  refine core (fun b=>if b=a then some (.frz { cls:=.type "list",data:=.seq vs.toArray } (.lst (ns.map V.int)))else none) (fun b=>?_) (.inl (.inr ⟨{ cls:=.type "list",data:=.seq vs.toArray },if_pos rfl⟩)) (fun b u z=>?_) (fun b z=>?_) fun _=>hk
  ·by_cases hb:b=a
   ·exact .inr ⟨_,_,if_pos hb⟩
   ·exact .inl (if_neg hb)
  ·by_cases hb:b=a
   ·have z':=(if_pos hb).symm.trans z
    cases z'
    subst hb
    exact⟨ha,by rw[g8];exact hl,vs,_,rv,ha⟩
   ·have z':=(if_neg hb).symm.trans z
    cases z'
  ·by_cases hb:b=a
   ·exact hb
   ·exact absurd (if_neg hb) z
theorem a9S{l:PySem.W.OpenLaw}{n k:Nat}{q:g7}{loose:List Str}{XP:(Str->Option Value)->Heap->Prop}{YP:World->Heap->Prop}{d:DefRec}{K:Params->Fg}{CX:World->CXT}{sp:World->Sp}
  (hn:l.most=some n) (hn2:n<=c9) (hdf:d.params.defaults=[]) (hr:F0 k a7W)
  (hY:∀(w:World) (h:Heap),YP w h->(K w.params).In h)
  (F:∀(w:World) (mg:Str->Option Value) (fa:Addr) (h:Heap),(K w.params).In h->h.Ns e8 mg->mg d.name=some (.ref fa) ->
   ∃fd:E4,(∀(s:b5) (u:Value),a7X s fd ⟨[u],[]⟩ [(x,u)]) /\
    ∀base:Heap,(K w.params).In base->base.Ns e8 mg->D8 l.prog w (K w.params) mg base (CX w) k fa fd [x] (sp w))
  (hsp:∀(w:World) (H:Hp) (a:Addr) (ns:List Int),ns.length<=n->b1u H->SqL (K w.params) H a (ns.map V.int)->sp w [.ref a] H (fun v _=>v=.bl true) fun _ _ _=>False)
  (hCX:∀(w:World) (H:Hp) (s:b5) (e:Value) (s':b5),CX w [] H s (fun _ _ _=>False) e s'->False) :
  PySem.W.WalkO q loose XP YP l.row.toRowW d [] (fun f vs=>a3G f vs):=by
 refine Att.a4L hn hdf fun w s₀ s₁ mg mb fa o pm cd doc a vs ns G Y ho hd hcd hmg hobj hints hlen hg=>?_
 have KX:=hY w _ Y
 obtain⟨fd,hb,hF⟩:=F w mg fa _ KX G.T.g hmg
 exact a9k KX G.T.g G.T.b G.T.builtins G.T.nolimit hg hobj hints (j3 hlen hn2) hr hF hb (fun H hO hS=>hsp w H a ns hlen hO hS) fun H e s'=>hCX w H s₁ e s'
abbrev CX0:CXT:=fun _ _ _ _ _ _=>False
abbrev E0:XK:=fun _ _ _=>False
theorem b4C{X:Cx}:a5U CX0 X E0:=fun _ _ _ _ _ _ _ h=>h.elim
structure Fun(K:Fg)(x qual:Str)(st:Stmt)(f:Addr)(fd:E4):Prop where
 ex:∃(oc:Value) (od:Option Addr) (kV doc pm:Value) (an:Option Addr) (cdv ct:Value) (osl:Array (Option Value)),
  fd=F5 x qual (Q0 st) (K7 st) (d8 st) .none kV doc pm an cdv ct/\K.lookup f=some ⟨oc,od,.func fd,osl⟩/\X0 K cdv qual=true
 kp:C6 K (.ref f)=true
section
variable {P:g7}{w:World}{K:Fg}{mg:Str->Option Value}{base:Heap}
theorem Fun.ok{qual:Str}{st:Stmt}{f:Addr}{fd:E4}{N ps:List Str}{k:Nat}{sp:Sp}(F:Fun K x qual st f fd)(S:n9 N ps (d8 st))(len:∀vs H Q E,sp vs H Q E->vs.length=ps.length)
  (hbody:∀(cdv:Value) (A:u6) (outer:List Env) (s:b5) (H:Hp) (vs:List V) (Q:VK) (E:XK),F0 k (A.deeper (a3P qual (d8 st) s.heap.objs.size f cdv))->sp vs H Q E ->
   ∃t,PSs (a4I CX0 P w K mg base N qual (d8 st) f cdv A outer s H E).nox (K7 st) t/\t { nx:=fun _ H'=>Q .non H',rt:=Q } (Z3 N vs) H):D8 P w K mg base CX0 (k+1) f fd ps sp:=by
 obtain⟨oc,od,kV,doc,pm,an,cdv,ct,osl,rfl,lk,hcd⟩:=F.ex
 refine b4P lk hcd S len fun A outer s H vs Q E hr hsp=>?_
 obtain⟨t,h,q⟩:=hbody cdv A outer s H vs Q E hr hsp
 exact⟨t,h.nox,q⟩
theorem Fun.binds{qual:Str}{st:Stmt}{f:Addr}{fd:E4}{ps:List Str}(F:Fun K x qual st f fd)
  (h:∀(kV doc pm:Value) (an:Option Addr) (cdv ct:Value) (us:List Value),us.length=ps.length->bindArgs (F5 x qual (Q0 st) (K7 st) (d8 st) .none kV doc pm an cdv ct) ⟨us,[]⟩=pure (ps.zip us)):a0k K fd ps []:=by
 obtain⟨oc,od,kV,doc,pm,an,cdv,ct,osl,rfl,lk,hcd⟩:=F.ex
 exact .all (h kV doc pm an cdv ct)
theorem b3u{qual:Str}{st:Stmt}{f:Addr}{oc:Value}{od an:Option Addr}{osl:Array (Option Value)}{kV doc pm cdv ct:Value}(l:K.lookup f=some ⟨oc,od,.func (F5 x qual (Q0 st) (K7 st) (d8 st) .none kV doc pm an cdv ct),osl⟩)
  (c:X0 K cdv qual=true) (k:C6 K (.ref f)=true):Fun K x qual st f (F5 x qual (Q0 st) (K7 st) (d8 st) .none kV doc pm an cdv ct):=⟨⟨oc,od,kV,doc,pm,an,cdv,ct,osl,rfl,l,c⟩,k⟩
end
theorem b1P{A:u6}{k:Nat}(hr:F0 k A):A.units+1<cLine:=Nat.lt_of_le_of_lt (Nat.add_le_add_left (by decide:1<=64) _) hr.units
section
variable {X:Cx}
end
theorem a1Z{A B:Prop}(h:B):if false=true then A else B:=by
 rw[if_neg c7]
 exact h
theorem a3t{A B:Prop}(h:A):if true=true then A else B:=by
 rw[if_pos rfl]
 exact h
theorem W8{c A B:Prop}[Decidable c](h1:c->A)(h2:¬c->B):if c then A else B:=by
 by_cases h:c
 ·rw[if_pos h]
  exact h1 h
 ·rw[if_neg h]
  exact h2 h
def j7(H H':Hp):Prop:=∀b o,H b=some o->H' b=some o
theorem j7.refl(H:Hp):j7 H H:=fun _ _ h=>h
theorem j7.trans{H H1 H2:Hp}(a:j7 H H1)(b:j7 H1 H2):j7 H H2:=fun c o h=>b c o (a c o h)
theorem j7.free{H H':Hp}(e:j7 H H'){l:Addr}(h:H' l=Option.none):H l=Option.none:=by
 cases q:H l with
 | none=>rfl
 | some o=>
  rw[e l o q]at h
  cases h
section
variable {κ:Type}[DecidableEq κ]
end
end L2
set_option maxHeartbeats 4000000
namespace L2
open PySem PySem.Spec PyProof.Rows
variable{env:Env}{scope:Scope}{X:Cx}{s:b5}{elt iter:Expr}{ifs:List Expr}{pos:Pos}{x:Str}{pins:List (Addr×Obj)}{σ:St}{H:Hp}{fp:List Addr}{xs:List V}
theorem a3y:∀(names:List (Str×a0q)) (cs:List (Str×Addr)),(∀y∈names,y.2=.free->∃c,env.cells.lookup y.1=some c) ->
  (∀y c,cs.lookup y=some c->env.cells.lookup y=some c) ->
  ∃cl,(forIn names cs (fun(x:Str×a0q) (r:List (Str×Addr))=>(if(x.2 == NameKind.free)=true then (do let c <-cellOf env x.1;pure (ForInStep.yield ((x.1,c)::r)))else pure (ForInStep.yield r):Sem (ForInStep (List (Str×Addr)))))=(pure cl:Sem (List (Str×Addr)))) /\
   (∀y c,cl.lookup y=some c->env.cells.lookup y=some c)/\(∀y,(y,NameKind.free)∈names\/(cs.lookup y).isSome=true->(cl.lookup y).isSome=true)
 | [],cs,_,h=>⟨cs,rfl,h,fun y q=>q.elim (fun z=>absurd z (by simp)) id⟩
 | (n,k)::r,cs,hc,h=>by
  by_cases e:(k == NameKind.free)=true
  ·have ek:k=.free:=by simpa using e
   obtain⟨c,hcc⟩:=hc (n,k) E3 ek
   have h':∀y d,((n,c)::cs).lookup y=some d->env.cells.lookup y=some d:=by
    intro y d q
    rw[A3]at q
    cases eq:y == n with
    | true=>
     rw[eq]at q
     have e2:y=n:=by simpa using eq
     cases q;rw[e2];exact hcc
    | false=>rw[eq]at q;exact h y d q
   obtain⟨cl,h1,h2,h3⟩:=a3y r ((n,c)::cs) (fun y hy=>hc y (l7 _ hy)) h'
   refine⟨cl,?_,h2,fun y q=>h3 y ?_⟩
   ·rw[b3L]
    show((if(k == NameKind.free)=true then (do let c <-cellOf env n;pure (ForInStep.yield ((n,c)::cs)))else pure (ForInStep.yield cs):Sem (ForInStep (List (Str×Addr)))) >>= _)=_
    rw[if_pos e]
    have ec:cellOf env n=pure c:=by unfold cellOf;rw[hcc]
    rw[ec]
    exact h1
   ·rcases q with q | q
    ·rcases g5.mp q with q | q
     ·cases q
      right
      simp[A3]
     ·exact .inl q
    ·right
     rw[A3]
     cases y == n
     ·exact q
     ·rfl
  ·obtain⟨cl,h1,h2,h3⟩:=a3y r cs (fun y hy=>hc y (l7 _ hy)) h
   refine⟨cl,?_,h2,fun y q=>h3 y ?_⟩
   ·rw[b3L]
    show((if(k == NameKind.free)=true then (do let c <-cellOf env n;pure (ForInStep.yield ((n,c)::cs)))else pure (ForInStep.yield cs):Sem (ForInStep (List (Str×Addr)))) >>= _)=_
    rw[if_neg e]
    exact h1
   ·rcases q with q | q
    ·rcases g5.mp q with q | q
     ·cases q
      exact absurd rfl e
     ·exact .inl q
    ·exact .inr q
theorem a5P(hc:∀y∈scope.names,y.2=.free->∃c,env.cells.lookup y.1=some c) :
  ∃cl,closureFor scope env=pure cl/\(∀y c,cl.lookup y=some c->env.cells.lookup y=some c)/\∀y,(y,NameKind.free)∈scope.names->(cl.lookup y).isSome=true:=by
 obtain⟨cl,h1,h2,h3⟩:=a3y scope.names [] hc (fun y c q=>by cases q)
 refine⟨cl,?_,h2,fun y q=>h3 y (.inl q)⟩
 unfold closureFor
 first
  | exact h1
  | (show(forIn scope.names [] _ >>= fun r=>pure r)=_;rw[h1];rfl)
theorem E9{env:Env}:∀ {names:List (Str×a0q)} {y:Str} {k:a0q},
  (names.map fun(n,k)=>if(k == NameKind.free&&env.scope.kind == .function&&env.kindOf n == some .cell)then (n,NameKind.cell)else (n,k)).lookup y=some k ->
  names.lookup y=some k\/(names.lookup y=some .free/\k=.cell)
 | [],_,_,h=>by cases h
 | (n,k0)::r,y,k,h=>by
  have ih := @E9 env r y k
  rw[C5]at h
  rw[A3]
  cases hx:y == n with
  | true=>
   by_cases hc:(k0 == NameKind.free&&env.scope.kind == .function&&env.kindOf n == some .cell)=true
   ·have e2:k0=.free:=by simp at hc;exact hc.1.1
    dsimp only at h
    rw[if_pos hc,A3,hx]at h
    cases h
    exact .inr ⟨by rw[e2],rfl⟩
   ·dsimp only at h
    rw[if_neg hc,A3,hx]at h
    exact .inl h
  | false=>
   by_cases hc:(k0 == NameKind.free&&env.scope.kind == .function&&env.kindOf n == some .cell)=true
   ·dsimp only at h
    rw[if_pos hc,A3,hx]at h
    exact ih h
   ·dsimp only at h
    rw[if_neg hc,A3,hx]at h
    exact ih h
def hid(x:Str)(N:List Str):List Str:=N.map fun y=>if y=x then ("." : Str)++x else y
def D9(X:Cx)(scope:Scope)(cl:List (Str×Addr))(C:Addr)(x:Str)(fp:List Addr)(s3:b5)(H3:Hp):Cx:=
 { X with N:=x::hid x X.N,s₀:=s3,H₀:=H3,env:=compEnvC scope cl C X.env,outer:=X.stack,stack:=X.stack,ex:=fp,fn:=fun _=>false,pn:=[],xe:=fun _ _=>False }
structure T4(N:List Str)(osc sc:Scope)(x:Str):Prop where
 kind:sc.kind=.function
 cell:∀y∈sc.names,y.2≠.cell
 names:∀y∈sc.names,y.2=.local->sc.names.lookup y.1=some .local
 own:sc.names.lookup x=some .local
 fr:∀y∈sc.names,y.2=.free->osc.names.lookup y.1=some .cell\/osc.names.lookup y.1=some .free
 see:∀y∈hid x N,sc.names.lookup y≠some .local
 dot:sc.names.lookup (("." : Str)++x)=none
 nd:(x::hid x N).Nodup
def a0M(wi:TI)(tt:TT)(te:TE):TE:=fun σ H Q=>wi σ H fun J H1=>∀D,H1 D=none->∃W:Nat->Nat->List V->Hp->Prop,
 (∃m,W 0 m [] (upd H1 D (.lst [])))/\∀i m ys H2,W i m ys H2->H2 D=some (.lst ys) /\
  ((J.stop i H2 /\ Q (.ref D) H2) \/ (J.go i H2 /\ ∀ x H3,J.yld i H2 x H3 -> tt (some x :: σ) H3 fun ok H4 => if ok = true then
    te (some x::σ) H4 (fun y H5=>H5 D=some (.lst ys)/\ys.length<c9/\∃m',m'<m/\W (i+1) m' (ys++[y]) (upd H5 D (.lst (ys++[y]))))
    else ∃m',m'<m/\W (i+1) m' ys H4))
def PTs(X:Cx)(ifs:List Expr)(t:TT):Prop:=
 ∀(pins:List (Addr×Obj)) (s:b5) (σ:St) (H:Hp) (Q:Bool->Hp->Prop),Inv X pins σ H s->t σ H Q ->
  wpAny (model X.prog X.w) X.A (forIn ifs true fun c r=>if r=true then do let ok <-isTrue c X.env (eval c X.env);pure (ForInStep.yield ok)else pure (ForInStep.yield r)) (TP X pins σ Q) X.xe s
def a0L:TT:=fun _ H Q=>Q true H
theorem b0q:PTs X [] a0L:=fun _ _ _ H _ I h=>wpAny_tests_nil ⟨H,I,h⟩
theorem b0p{c:Expr}{t:TT}(h:PT X c t):PTs X [c] t:=fun pins s σ H Q I hq=>wpAny_tests_one (h pins s σ H Q I hq)
theorem a7v{prog:g7}{w:World}{A:u6}{R:Result->b5->Prop}{target:Expr}{it acc:Value}(I:Nat->b5->Prop)
  (turn:∀n s,I n s->wpAny (model prog w) A (pyNext it) (fun r s₁=>match r with
   | none=>R (.ok .next) s₁
   | some v=>wpAny (model prog w) A (U5 target it v) (fun _ s₂=>wpAny (model prog w) A (b1D target env v) (fun _ s₃=>
     wpAny (model prog w) A (forIn ifs true fun c r=>if r=true then do let ok <-isTrue c env (eval c env);pure (ForInStep.yield ok)else pure (ForInStep.yield r)) (fun ok s₄=>
      if ok=true then wpAny (model prog w) A (eval elt env) (fun x s₅=>
       wpAny (model prog w) A (call (.builtin "list.append") [acc,x]) (fun _ s₆=>∃m,m<n/\I m s₆) (fun _ _=>False) s₅) (fun _ _=>False) s₄
      else ∃m,m<n/\I m s₄) (fun _ _=>False) s₃) (fun _ _=>False) s₂) (fun _ _=>False) s₁) (fun _ _=>False) s)
  (n:Nat) (h:I n s) :
  a7V (model prog w) A (.compLoop (.ListComp elt [⟨target,iter,ifs,0⟩] scope pos) 0 it acc env) R s:=by
 have up:∀ {α:Type} {m:Sem α} {Q:α->b5->Prop} {E:Value->b5->Prop} {s:b5},wpAny (model prog w) A m Q (fun _ _=>False) s->wpAny (model prog w) A m Q E s:=
  fun h=>O0 h (fun _ _ q=>q) fun _ _ f=>f.elim
 refine codeAny_loop rfl I (fun n s hI=>?_) n h
 refine wpAny_noted ?_
 rw[compTurn_list]
 refine b9 (wpAny_standAt (b9 (up (thn (turn n s hI) fun r s₁ h₁=>?_))))
 cases r with
 | none=>exact f6 h₁
 | some v=>
  refine b9 (up (thn h₁ fun _ s₂ h₂=>b9 (up (thn h₂ fun _ s₃ h₃=>b9 (up (thn h₃ fun ok s₄ h₄=>?_))))))
  cases ok with
  | false=>exact f6 ⟨rfl,by simpa using h₄⟩
  | true=>
   rw[if_pos rfl]at h₄
   exact b9 (b9 (up (thn h₄ fun x s₅ h₅=>b9 (up (thn h₅ fun _ s₆ h₆=>f6 (f6 ⟨rfl,h₆⟩))))))
section
variable {px:Pos}
theorem a9w{s3:b5}{cl:List (Str×Addr)}{h4:Heap}{tk:Nat}(hc:T4 X.N X.env.scope scope x)(I:Inv X pins σ H s3)
  (hcl:∀y c,cl.lookup y=some c->X.env.cells.lookup y=some c) (hcl2:∀y,(y,NameKind.free)∈scope.names->(cl.lookup y).isSome=true)
  (fpo:∀b∈fp,a0T X pins H b) (fpl:∀b∈fp,b<s3.heap.objs.size)
  (hn:h4.Ns s3.heap.objs.size (fun _=>none)) (k:∀b o,s3.heap.get? b=some o->h4.get? b=some o) :
  Inv (D9 X scope cl s3.heap.objs.size x fp s3 H) [] (none::σ) H { s3 with heap:=h4,toks:=tk }:=by
 have low:∀x y,(D9 X scope cl s3.heap.objs.size x fp s3 H).env.cells.lookup y=cl.lookup y:=fun _ _=>rfl
 have below:∀y c,cl.lookup y=some c->c<s3.heap.objs.size:=fun y c e=>by
  obtain⟨v,q⟩:=I.cell y c (hcl y c e)
  exact q.lt
 have kinds:∀y,((D9 X scope cl s3.heap.objs.size x fp s3 H).env.kindOf y=some .cell\/(D9 X scope cl s3.heap.objs.size x fp s3 H).env.kindOf y=some .free)->scope.names.lookup y=some .free:=by
  intro y hy
  rcases hy with hy | hy
  ·rcases E9 hy with q | ⟨q,_⟩
   ·exact absurd rfl (hc.cell _ (m7 q))
   ·exact q
  ·rcases E9 hy with q | ⟨q,z⟩
   ·exact q
   ·cases z
 refine⟨⟨I.ok.mod,?_,I.ok.glob,I.ok.blt,a8 _,fun y z c h1 h2=>?_,fun y hy=>?_,fun y c h=>?_,I.ok.hd,I.ok.frames,.inl rfl,fun b hb=>⟨?_,fun y c e z=>?_⟩,fun b o e=>I.bs b o e,j3 I.ok.bsz I.sz,fun b o e hb=>?_,fun b hb hf=>?_,I.stack,I.stkFree⟩,
  rfl,I.bare,Un.kept k,⟨_,hn,fun i y v h1 h2 h3=>?_⟩,fun y c e=>?_,I.fresh,fun y c e=>?_,fun p hp=>absurd (show p∈([]:List (Addr×Obj))from hp) (by simp),I.hok.kept k,?_⟩
 ·exact hc.kind
 ·exact I.ok.inj y z c (hcl _ _ h1) (hcl _ _ h2)
 ·have:=hcl2 y (m7 (kinds y hy))
  exact R9.mp this
 ·cases h
 ·exact o4 (fpl b hb)
 ·exact(fpo b hb).2.2.2.2.1 y c (hcl y c e) z
 ·rcases(fpo b hb).2.2.2.1 with q | q
  ·exact I.ok.noex b o e q
  ·exact absurd (f8 (c8 (I.ok.bs b o e).1) q) (A2 _)
 ·rcases g5.mp (I.stkSub b hf)with e | e
  ·exact(fpo b hb).2.1 e
  ·exact(fpo b hb).2.2.1 e
 ·-- the names
  have h1:(x::hid x X.N)[i]? = some y:=h1
  cases i with
  | zero=>cases h2
  | succ i=>
   have h1:(hid x X.N)[i]? = some y:=h1
   have h2:σ[i]? = some (some v):=h2
   have my:y∈hid x X.N:=Y4 h1
   have h3:(relabel scope X.env).names.lookup y=some .local\/(relabel scope X.env).names.lookup y=some .cell\/(relabel scope X.env).names.lookup y=some .free:=h3
   have hf:scope.names.lookup y=some .free:=by
    rcases h3 with q | q
    ·rcases E9 q with q | ⟨_,z⟩
     ·exact absurd q (hc.see y my)
     ·cases z
    ·exact kinds y q
   have hy:X.N[i]? = some y:=by
    unfold hid at h1
    rw[T7]at h1
    cases e:X.N[i]? with
    | none=>rw[e]at h1;cases h1
    | some z=>
     rw[e]at h1
     by_cases ez:z=x
     ·rw[b1y,if_pos ez]at h1
      have h1:=Option.some.inj h1
      subst h1
      rw[hc.dot]at hf
      cases hf
     ·rw[b1y,if_neg ez]at h1
      exact h1
   obtain⟨m,_,hl⟩:=I.loc
   obtain⟨c,hcc⟩:=R9.mp (hcl2 y (m7 hf))
   have vis:Vis X.env.scope y:=by
    rcases hc.fr _ (m7 hf) rfl with q | q
    ·exact .inr (.inl q)
    ·exact .inr (.inr q)
   obtain⟨u,ru,lk⟩:=hl i y v hy h2 vis
   refine⟨u,ru,.inr ⟨?_,c,hcc,?_⟩⟩
   ·rcases h3 with q | q
    ·rcases E9 q with q | ⟨_,z⟩
     ·exact absurd q (hc.see y my)
     ·cases z
    ·exact q
   ·have hce:=hcl y c hcc
    rcases lk with ⟨q,_⟩ | ⟨_,c',e',z⟩
    ·rcases hc.fr _ (m7 hf) rfl with q' | q'
     ·have q:X.env.scope.names.lookup y=some .local:=q
      rw[show X.env.scope.names.lookup y=some NameKind.cell from q']at q
      cases q
     ·have q:X.env.scope.names.lookup y=some .local:=q
      rw[show X.env.scope.names.lookup y=some NameKind.free from q']at q
      cases q
    ·rw[e']at hce
     cases hce
     obtain⟨o,ho,hd⟩:=z
     exact⟨o,k _ _ ho,hd⟩
 ·obtain⟨v,o,ho,hd⟩:=I.cell y c (hcl y c e)
  exact⟨v,o,k _ _ ho,hd⟩
 ·exact I.freeC y c (hcl y c e)
 ·show(none::σ).length=(x::hid x X.N).length
  have:=I.len
  simp[hid,this]
theorem a5O{H1:Hp}{s2:b5}{cl:List (Str×Addr)}{it:Addr}{tn:Nat->Heap->Prop}{J:It}{tt:TT}{te:TE}{Q:VK}{E:Value->b5->Prop}
  {RR:Value->Addr->Result->b5->Prop} (hc:T4 X.N X.env.scope scope x) (hcalm:X.calm=true)
  (hcl:∀y c,cl.lookup y=some c->X.env.cells.lookup y=some c) (hcl2:∀y,(y,NameKind.free)∈scope.names->(cl.lookup y).isSome=true)
  (ht:∀C fp s3 H3,PTs (D9 X scope cl C x fp s3 H3) ifs tt) (he:∀C fp s3 H3,PE (D9 X scope cl C x fp s3 H3) elt te)
  (I:Inv X pins σ H1 s2) (T:a7D X.prog X.w X.K (.Name x px) J fp it tn) (st:tn 0 s2.heap) (fpo:∀b∈fp,a0T X pins H1 b)
  (h:∀D,H1 D=none->∃W:Nat->Nat->List V->Hp->Prop,
   (∃m,W 0 m [] (upd H1 D (.lst [])))/\∀i m ys H2,W i m ys H2->H2 D=some (.lst ys) /\
   ((J.stop i H2 /\ Q (.ref D) H2) \/ (J.go i H2 /\ ∀ x H3,J.yld i H2 x H3 -> tt (some x :: σ) H3 fun ok H4 => if ok = true then
     te (some x::σ) H4 (fun y H5=>H5 D=some (.lst ys)/\ys.length<c9/\∃m',m'<m/\W (i+1) m' (ys++[y]) (upd H5 D (.lst (ys++[y]))))
     else ∃m',m'<m/\W (i+1) m' ys H4)))
  (hRR:∀D C s' H' m,Inv X pins σ H' s'->s'.heap.Ns C m->H' C=none->C≠X.env.locals->X.s₀.heap.objs.size<=C->(∀y c,X.env.cells.lookup y=some c->c≠C)->(∀p∈X.pn++pins,p.1≠C)->Q (.ref D) H'->RR (.ref D) C (.ok .next) s') :
  wpAny (model X.prog X.w) X.A (newList []) (fun acc s₃=>wpAny (model X.prog X.w) X.A (newFunctionEnv scope X.env.globals cl [] X.env.qual none .none (some X.env)) (fun cenv s₄=>
   a7V (model X.prog X.w) X.A (.compStart (.ListComp elt [⟨.Name x px,iter,ifs,0⟩] scope pos) 0 (.ref it) acc { cenv with scope:=relabel scope X.env }) (RR acc cenv.locals) s₄) E s₃) E s2:=by
 refine Q1 (hd:=by size_fits) ?_
 have I3:=I.lnew (ys:=[]) (its:=[]) (t':=s2.toks) .nil (by show 0<=c9;exact y0 _)
 obtain⟨W,⟨m0,w0⟩,turn⟩:=h _ I.fresh
 generalize hD:s2.heap.objs.size=D at I3 w0 turn ⊢
 generalize hs3:({ s2 with heap:=s2.heap.push { cls:=.type "list",data:=.seq ([]:List Value).toArray } }:b5)=s3
 have hs3':({ s2 with heap:=s2.heap.push { cls:=.type "list",data:=.seq ([]:List Value).toArray },toks:=s2.toks }:b5)=s3:=hs3
 rw[hs3']at I3
 have keep3:∀b o,s2.heap.get? b=some o->s3.heap.get? b=some o:=fun b o e=>by rw[<-hs3];exact c5 _ e
 have fpl:∀b∈fp,b<s3.heap.objs.size:=fun b hb=>by
  obtain⟨o,e,_⟩:=T.obj _ _ st b hb
  exact c8 (keep3 b o e)
 have fpD:∀b∈fp,b≠D:=fun b hb z=>by
  obtain⟨o,e,_⟩:=T.obj _ _ st b hb
  exact absurd (c8 e) (by rw[z,hD];exact A2 _)
 have fpo3:∀b∈fp,a0T X pins (upd H1 D (.lst [])) b:=fun b hb=>⟨by rw[u0 (fpD b hb)];exact(fpo b hb).1,(fpo b hb).2⟩
 show wpAny _ _ _ _ _ s3
 refine wpAny_newFunctionEnv hc.cell (by intro y hy;simp at hy) (fun h₁ hns₁ hsb₁=>?_) hc.kind
 dsimp only[newEnv]at hns₁ hsb₁ ⊢
 have keep4:∀b o,s3.heap.get? b=some o->h₁.get? b=some o:=fun b o e=>hsb₁.extBut b o (o4 (c8 e)) (c5 _ e)
 have I4:=a9w (tk:=s3.toks+([]:List (Str×Value)).length) hc I3 hcl hcl2 fpo3 fpl hns₁ keep4
 have st4:tn 0 h₁:=T.keep _ _ _ st fun b hb o e=>keep4 b o (keep3 b o e)
 have loop:∀s₄:b5,s₄={ s3 with heap:=h₁,toks:=s3.toks+([]:List (Str×Value)).length } ->
   a7V (model X.prog X.w) X.A (.compLoop (.ListComp elt [⟨.Name x px,iter,ifs,0⟩] scope pos) 0 (.ref it) (.ref D) (compEnvC scope cl s3.heap.objs.size X.env)) (RR (.ref D) s3.heap.objs.size) s₄:=by
  rintro s₄ rfl
  have stat:∀ {H':Hp},(∀b∈fp,H' b=none)->∀b∈fp,a0T (D9 X scope cl s3.heap.objs.size x fp s3 (upd H1 D (.lst []))) [] H' b:=fun hn b hb=>
   ⟨hn b hb,o4 (fpl b hb),fun hf=>by
    rcases g5.mp (I3.stkSub b hf)with e | e
    ·exact(fpo b hb).2.1 e
    ·exact(fpo b hb).2.2.1 e,.inl hb,fun y c e=>(fpo b hb).2.2.2.2.1 y c (hcl y c e),fun p hp=>absurd (show p∈([]:List (Addr×Obj))from hp) (by simp)⟩
  refine a7v (env:=compEnvC scope cl s3.heap.objs.size X.env) (fun n s'=>∃i ys H',Inv (D9 X scope cl s3.heap.objs.size x fp s3 (upd H1 D (.lst []))) [] (none::σ) H' s'/\tn i s'.heap/\(∀b∈fp,H' b=none)/\W i n ys H') ?_ m0
   ⟨0,[],_,I4,st4,fun b hb=>(fpo3 b hb).1,w0⟩
  rintro n s5 ⟨i,ys,H5,I5,st5,fr5,w5⟩
  obtain⟨hDy,alt⟩:=turn i n ys H5 w5
  rcases alt with ⟨stop,q⟩ | ⟨go,step⟩
  ·refine O0 (T.done (D9 X scope cl s3.heap.objs.size x fp s3 (upd H1 D (.lst []))) rfl rfl rfl hcalm i [] s5 _ H5 (fun _ _=>False) I5 (stat fr5) st5 stop) (fun r s6 ⟨hr,I6⟩=>?_) fun _ _ f=>f
   subst hr
   obtain⟨m6,n6,_⟩:=I6.loc
   have J6:Inv X pins σ H5 s6:=by
    refine I3.call' (ch:=fp) I6.os I6.base I6.hok I6.bare fun b hb=>?_
    obtain⟨_,f1,f2,f3,f4,f5⟩:=fpo3 b hb
    exact⟨f3,f1,f4,f5⟩
   refine hRR D _ s6 H5 m6 J6 n6 I6.free (Nat.ne_of_gt I3.lt) I3.sz (fun y c e z=>?_) (fun p hp z=>?_) q
   ·obtain⟨v,q⟩:=I3.cell y c e
    exact absurd q.lt (by rw[z];exact A2 _)
   ·exact absurd (c8 (I3.pin p hp).1) (by rw[z];exact A2 _)
  ·refine O0 (T.item (D9 X scope cl s3.heap.objs.size x fp s3 (upd H1 D (.lst []))) rfl rfl rfl hcalm i [] s5 _ H5 (fun _ _=>False) I5 (stat fr5) st5 go) (fun r s6 ⟨u,hr,h6⟩=>?_) fun _ _ f=>f
   subst hr
   refine thn h6 fun _ s6 ⟨xv,H6,I6,r6,y6,st6,fr6⟩=>?_
   have I6':=I6.pinned (stat fr6) (T.obj _ _ st6)
   refine wpAny_assign_Name (a1s (i:=0) I6' ?nd rfl (.inl ?loc) r6 (fun s7 I7=>?_) (.inr ?loc))
   case nd=>exact hc.nd
   case loc=>exact lookup_relabel_local hc.own
   have I7:Inv (D9 X scope cl s3.heap.objs.size x fp s3 (upd H1 D (.lst []))) ([]++a0B fp s6.heap) (some xv::σ) H6 s7:=I7
   have again:∀ {s8:b5} {H8:Hp} {ys8:List V},Inv (D9 X scope cl s3.heap.objs.size x fp s3 (upd H1 D (.lst []))) ([]++a0B fp s6.heap) (some xv::σ) H8 s8->(∃m',m'<n/\W (i+1) m' ys8 H8) ->
     ∃m,m<n/\∃i ys H',Inv (D9 X scope cl s3.heap.objs.size x fp s3 (upd H1 D (.lst []))) [] (none::σ) H' s8/\tn i s8.heap/\(∀b∈fp,H' b=none)/\W i m ys H':=by
    rintro s8 H8 ys8 I8 ⟨m',hm,w8⟩
    refine⟨m',hm,i+1,ys8,H8,(I8.unpinned (pins:=[])).weak rfl (fun j v e=>?_),T.keep _ _ _ st6 fun b hb o e=>(I8.pin (b,o) (j5 _ (j5 _ (S8 hb e)))).1,fun b hb=>?_,w8⟩
    ·cases j with
     | zero=>cases e
     | succ j=>exact e
    ·obtain⟨o,e,d⟩:=T.obj _ _ st6 b hb
     exact(I8.pin (b,o) (j5 _ (j5 _ (S8 hb e)))).2.1
   refine thn (ht _ fp s3 _ _ s7 _ H6 _ I7 (step xv H6 y6)) (fun ok s8 ⟨H8,I8,q8⟩=>?_)
   cases ok with
   | false=>exact again I8 (by simpa using q8)
   | true=>
    rw[if_pos rfl]at q8
    rw[if_pos rfl]
    refine thn (he _ fp s3 _ _ s8 _ H8 _ I8 q8) (fun v s9 ⟨y,H9,I9,r9,hD9,hz9,w9⟩=>?_)
    refine O0 (a2z (X:=D9 X scope cl s3.heap.objs.size x fp s3 (upd H1 D (.lst []))) _ s9 _ H9 (.ref D) [y] (.ref D) [v] (fun _ H'=>H'=upd H9 D (.lst (ys++[y]))) I9 rfl (.cons r9 .nil) ⟨D,ys,y,rfl,rfl,hD9,hz9,rfl⟩) (fun _ s10 ⟨_,H10,I10,_,e10⟩=>?_) fun _ _ f=>f
    subst e10
    exact again I10 w9
 exact codeAny_compStart_list (loop _ rfl) (T.self X.A 0 _ _ _ st4 (loop _ rfl))
theorem a5N(hc:T4 X.N X.env.scope scope x)(I:Inv X pins σ H s):∀y∈scope.names,y.2=.free->∃c,X.env.cells.lookup y.1=some c:=by
 intro y hy e
 rcases hc.fr y hy e with q | q
 ·exact I.ok.has y.1 (.inl q)
 ·exact I.ok.has y.1 (.inr q)
theorem b0E{wi:TI}{tt:TT}{te:TE}(hc:T4 X.N X.env.scope scope x)(hcalm:X.calm=true)(hi:PI X (.Name x px) iter wi)
  (ht:∀cl C fp s3 H3,PTs (D9 X scope cl C x fp s3 H3) ifs tt) (he:∀cl C fp s3 H3,PE (D9 X scope cl C x fp s3 H3) elt te)
  (hs:∀x,Y6 iter X.env x=pure x:=by intro _;rfl) :
  PE X (.ListComp elt [⟨.Name x px,iter,ifs,0⟩] scope pos) (a0M wi tt te):=by
 intro pins s σ H Q I h
 obtain⟨cl,hclos,hcl,hcl2⟩:=a5P (a5N hc I)
 rw[eval_ListComp]
 refine wpAny_comprehension_free (use:=none) rfl hs hclos hc.kind hc.names (thn (hi pins s σ H _ I h) fun v s1 h1=>thn h1 fun itv s2 ⟨it,fp,tn,J,H2,e,I2,T,st,fpo,R⟩=>?_)
 subst e
 refine a5O (RR:=fun acc C=>compPost (model X.prog X.w) X.A X.xe none (EP X pins σ Q) acc C) (Q:=Q) hc hcalm hcl hcl2 (ht cl) (he cl) I2 T st fpo R ?_
 intro D C s' H' m I' n f1 f2 f3 f4 f5 q
 exact⟨m,n,fun h' sb=>⟨.ref D,H',I'.turned (t':=s'.toks) (fun b o hb e=>(sb.2 b hb).trans e) f1 f2 (.inr f3) f4 f5,rfl,q⟩⟩
end
section
theorem OpR.imp{f:Value->Value->Sem Value}{r r':R2}(h:OpR X f r)(i:∀x y H Q,r' x y H Q->r x y H Q):OpR X f r':=fun pins s σ H x y u v Q I rx ry q=>h pins s σ H x y u v Q I rx ry (i _ _ _ _ q)
theorem J4.imp{f:Value}{r r':List V->Hp->VK->Prop}(h:J4 X f r)(i:∀xs H Q,r' xs H Q->r xs H Q):J4 X f r':=fun pins s σ H xs us Q I rx q=>h pins s σ H xs us Q I rx (i _ _ _ q)
theorem IxR.imp{r r':R2}(h:IxR X r)(i:∀x y H Q,r' x y H Q->r x y H Q):IxR X r':=by
 intro value slice pins s σ H x y v u Q I rx ry q hs
 exact h value slice pins s σ H x y v u Q I rx ry (i _ _ _ _ q) hs
theorem SlR.imp{r r':V->Option Int->Option Int->Hp->VK->Prop}(h:SlR X r)(i:∀x lo hi H Q,r' x lo hi H Q->r x lo hi H Q):SlR X r':=fun pins s σ H x v vl vu lo hi sl Q I rx hs pl pu q=>h pins s σ H x v vl vu lo hi sl Q I rx hs pl pu (i _ _ _ _ _ q)
def O4:R2:=fun x y H Q=>match x,y with
 | .int i,.int j=>Q (.int (i+j)) H
 | .str i,.str j=>i.length+j.length<=c9/\Q (.str (i++j)) H
 | .ref a,.ref b=>match H a,H b with
  | some (.lst xs),some (.lst ys)=>xs.length+ys.length<=c9/\∀p,H p=none->Q (.ref p) (upd H p (.lst (xs++ys)))
  | _,_=>False
 | _,_=>False
theorem b0Q:OpR X (y4 .Add) O4:=by
 refine(b3c.or (a5z.or b3b)).imp fun x y H Q h=>?_
 unfold O4 at h
 split at h
 ·exact .inl ⟨_,_,rfl,rfl,h⟩
 ·exact .inr (.inl ⟨_,_,rfl,rfl,h.1,h.2⟩)
 ·split at h
  ·exact .inr (.inr ⟨_,_,_,_,rfl,rfl,by assumption,by assumption,h.1,h.2⟩)
  ·exact h.elim
 ·exact h.elim
def q2I(C:Int->Int->Prop)(g:Int->Int->V):R2:=fun x y H Q=>match x,y with
 | .int i,.int j=>C i j/\Q (g i j) H
 | _,_=>False
def a4s(g:Int->Int->V):R2:=fun x y H Q=>match x,y with
 | .int i,.int j=>Q (g i j) H
 | _,_=>False
theorem a3n{f:Value->Value->Sem Value}{C:Int->Int->Prop}{g:Int->Int->V}(h:OpR X f (rI C g)):OpR X f (q2I C g):=h.imp fun x y H Q q=>by
 unfold q2I at q
 split at q
 ·exact⟨_,_,rfl,rfl,q.1,q.2⟩
 ·exact q.elim
theorem a0c{f:Value->Value->Sem Value}{g:Int->Int->V}(h:OpR X f (rI0 g)):OpR X f (a4s g):=h.imp fun x y H Q q=>by
 unfold a4s at q
 split at q
 ·exact⟨_,_,rfl,rfl,q⟩
 ·exact q.elim
abbrev a8H:R2:=a4s fun i j=>.int (i - j)
abbrev a4r:R2:=q2I b1w fun i j=>.int (i * j)
abbrev a1W:R2:=q2I (fun _ j=>0<j) fun i j=>.int (i % j)
abbrev a8J:R2:=q2I b4T fun i j=>.int (i ^ j.toNat)
abbrev b0n:R2:=q2I (fun _ j=>0<j/\j<2 ^ 64) fun i j=>.int (i / j)
abbrev qLt:R2:=a4s fun i j=>.bl (decide (i<j))
abbrev qLe:R2:=a4s fun i j=>.bl (decide (i<=j))
abbrev qGt:R2:=a4s fun i j=>.bl (decide (j<i))
abbrev qGe:R2:=a4s fun i j=>.bl (decide (j<=i))
theorem b0J:OpR X (y4 .Sub) a8H:=a0c b2R
theorem b0L:OpR X (y4 .Mult) a4r:=a3n b2Z
theorem b0M:OpR X (y4 .Mod) a1W:=a3n b3a
theorem b0K:OpR X (y4 .Pow) a8J:=a3n b2Y
theorem b0P:OpR X (y4 .FloorDiv) b0n:=a3n (opI fun i j _ _ _ _ _ hc q=>by
 have hl:j.natAbs.log2<9000:=by
  have:j.natAbs<2 ^ 64:=by have:=hc.1;have:=hc.2;omega
  by_cases h0:j.natAbs=0
  ·rw[h0];decide +kernel
  ·exact Nat.lt_trans ((Nat.log2_lt h0).mpr this) (by decide)
 refine floordiv_int (by omega) ?_ (.inl (PyProof.noPylong_of_log2 hl))
 rw[Int.fdiv_eq_ediv_of_nonneg _ (by omega)]
 exact q)
theorem b2T:OpR X (d9 .Lt) qLt:=a0c b4E
theorem b2U:OpR X (d9 .LtE) qLe:=a0c b4F
theorem b2W:OpR X (d9 .Gt) qGt:=a0c b4G
theorem b2X:OpR X (d9 .GtE) qGe:=a0c b4H
def qIx:R2:=fun x y H Q=>match x,y with
 | .ref p,.int i=>match H p with
  | some (.lst xs)=>∃v,atI xs i=some v/\Q v H
  | some (.tup xs)=>∃v,atI xs i=some v/\Q v H
  | _=>False
 | .str z,.int i=>z.length<=c9/\∃c,atI z.cps.toList i=some c/\Q (.str ⟨#[c]⟩) H
 | _,_=>False
theorem b5r:IxR X qIx:=b3q.imp fun x y H Q h=>by
 unfold qIx at h
 split at h
 ·split at h
  ·obtain⟨v,e,q⟩:=h
   exact .inl ⟨_,_,_,v,rfl,rfl,SqL.of (by assumption),e,q⟩
  ·obtain⟨v,e,q⟩:=h
   exact .inr (.inl ⟨_,_,_,v,rfl,rfl,SqT.of (by assumption),e,q⟩)
  ·exact h.elim
 ·obtain⟨z,c,e,q⟩:=h
  exact .inr (.inr ⟨_,_,c,rfl,rfl,z,e,q⟩)
 ·exact h.elim
def qSl:V->Option Int->Option Int->Hp->VK->Prop:=fun x lo hi H Q=>match x with
 | .ref a=>match H a with
  | some (.lst xs)=>∀p,H p=none->Q (.ref p) (upd H p (.lst (Q6 xs lo hi)))
  | some (.tup xs)=>¬(HT.sIx xs.length 0 lo=0/\HT.sIx xs.length xs.length hi=xs.length)/\∀p,H p=none->Q (.ref p) (upd H p (.tup (Q6 xs lo hi)))
  | _=>False
 | _=>False
theorem b5d:SlR X qSl:=(a6j.or a8p).imp fun x lo hi H Q h=>by
 unfold qSl at h
 split at h
 ·split at h
  ·exact .inl ⟨_,_,rfl,SqL.of (by assumption),h⟩
  ·exact .inr ⟨_,_,rfl,SqT.of (by assumption),h.1,h.2⟩
  ·exact h.elim
 ·exact h.elim
def L3:List V->Hp->VK->Prop:=fun xs H Q=>match xs with
 | [.ref p]=>match H p with
  | some (.lst ys)=>Q (.int ys.length) H
  | some (.tup ys)=>Q (.int ys.length) H
  | _=>False
 | [.str z]=>z.length<=c9/\Q (.int z.length) H
 | _=>False
theorem a7y:J4 X (.builtin "len") L3:=(a3C.or a3B).imp fun xs H Q h=>by
 unfold L3 at h
 split at h
 ·split at h
  ·exact .inl ⟨_,_,rfl,.inl (SqL.of (by assumption)),h⟩
  ·exact .inl ⟨_,_,rfl,.inr (SqT.of (by assumption)),h⟩
  ·exact h.elim
 ·exact .inr ⟨_,rfl,h.1,h.2⟩
 ·exact h.elim
def a8L:List V->Hp->VK->Prop:=fun xs H Q=>match xs with
 | [.int i]=>Q (.int (if i<0 then -i else i)) H
 | _=>False
theorem a7B:J4 X (.builtin "abs") a8L:=a9y.imp fun xs H Q h=>by
 unfold a8L at h
 split at h
 ·exact⟨_,rfl,h⟩
 ·exact h.elim
def a3m:V->V->V->Hp->(Hp->Prop)->Prop:=fun o i v H Q=>match o,i with
 | .ref p,.int k=>match H p with
  | some (.lst xs)=>∃j,ixN xs.length k=some j/\Q (upd H p (.lst (xs.set j v)))
  | _=>False
 | _,_=>False
theorem b3Y:a9C X a3m:=by
 intro pins s σ H o i v u1 u2 u3 Q I r1 r2 r3 h
 refine a8r pins s σ H o i v u1 u2 u3 Q I r1 r2 r3 ?_
 unfold a3m at h
 split at h
 ·split at h
  ·obtain⟨j,e,q⟩:=h
   exact⟨_,_,_,j,rfl,rfl,by assumption,e,q⟩
  ·exact h.elim
 ·exact h.elim
def T0(xs ys:List V):Bool:=(Q8 (min xs.length ys.length)).all (fun j=>eqV (xs.getD j .non) (ys.getD j .non))&&xs.length == ys.length
def eqO(x y:V)(H:Hp):Option Bool:=if a4i x y=true then some (decide (x=y))else match x,y with
 | .ref a,.ref b=>match H a,H b with
  | some (.tup xs),some (.tup ys)=>if xs.all C3=true/\ys.all C3=true then some (T0 xs ys)else none
  | some (.lst xs),some (.lst ys)=>if xs.all C3=true/\ys.all C3=true then some (T0 xs ys)else none
  | _,_=>none
 | .non,.ref a=>match H a with
  | some (.tup _)=>some false
  | _=>none
 | .ref a,.non=>match H a with
  | some (.tup _)=>some false
  | _=>none
 | _,_=>none
def qEq:R2:=fun x y H Q=>∃b,eqO x y H=some b/\Q (.bl b) H
def qNe:R2:=fun x y H Q=>∃b,eqO x y H=some b/\Q (.bl (!b)) H
theorem a1a{A:u6}{ys:List V}{us ws:List Value}(rx:o3 xs us)(ry:o3 ys ws)(fx:xs.all C3=true)(fy:ys.all C3=true) :
  ∀j (h1:j<us.toArray.size) (h2:j<ws.toArray.size),SeqAt.EqAt A s us.toArray[j] ws.toArray[j] (eqV (xs.getD j .non) (ys.getD j .non)):=by
 intro j h1 h2
 have l1:=rx.length
 have l2:=ry.length
 have h1':j<us.length:=by simpa using h1
 have h2':j<ws.length:=by simpa using h2
 have e1:xs[j]? = some (xs[j]'(by omega)):=by simp
 have e2:ys[j]? = some (ys[j]'(by omega)):=by simp
 obtain⟨u,hu,ru⟩:=rx.get e1
 obtain⟨w,hw,rw'⟩:=ry.get e2
 have z1:us.toArray[j]=u:=by
  have:us[j]? = some us[j]:=by simp
  rw[this]at hu
  simpa using hu
 have z2:ws.toArray[j]=w:=by
  have:ws[j]? = some ws[j]:=by simp
  rw[this]at hw
  simpa using hw
 rw[z1,z2]
 have g1:xs.getD j .non=xs[j]'(by omega):=by simp[List.getD,e1]
 have g2:ys.getD j .non=ys[j]'(by omega):=by simp[List.getD,e2]
 rw[g1,g2]
 exact a9q ru rw' (u9.mp fx _ (a1S _)) (u9.mp fy _ (a1S _))
theorem b1L{x y:V}{v u:Value}{k:Bool}(I:Inv X pins σ H s)(hu:X.A.units<cLine)(rx:m3 x v)(ry:m3 y u)(hs:¬a4i x y=true)(e:eqO x y H=some k) :
  SeqAt.RcAt X.A s v u k/\SeqAt.RcNeAt X.A s v u (!k):=by
 unfold eqO at e
 rw[if_neg hs]at e
 split at e
 ·rename_i a b
  cases rx
  cases ry
  split at e
  ·rename_i xs ys ha hb
   split at e
   ·rename_i hf
    cases e
    obtain⟨us,r1,t1,_⟩:=I.tuple (SqT.of ha)
    obtain⟨ws,r2,t2,_⟩:=I.tuple (SqT.of hb)
    have l1:=r1.length
    have l2:=r2.length
    have q1:=SeqAt.RcAt.tuples (A:=X.A) t1 t2 hu (a1a r1 r2 hf.1 hf.2)
    have q2:=SeqAt.RcNeAt.tuples (A:=X.A) t1 t2 hu (a1a r1 r2 hf.1 hf.2)
    simp only[b6,<-l1,<-l2]at q1 q2
    exact⟨q1,q2⟩
   ·cases e
  ·rename_i xs ys ha hb
   split at e
   ·rename_i hf
    cases e
    obtain⟨us,r1,t1,_⟩:=I.list (SqL.of ha)
    obtain⟨ws,r2,t2,_⟩:=I.list (SqL.of hb)
    have l1:=r1.length
    have l2:=r2.length
    by_cases hl:us.toArray.size=ws.toArray.size
    ·have q1:=SeqAt.RcAt.lists (A:=X.A) t1.isList t2.isList hl hu (a1a r1 r2 hf.1 hf.2)
     have q2:=SeqAt.RcNeAt.lists (A:=X.A) t1.isList t2.isList hl hu (a1a r1 r2 hf.1 hf.2)
     have hl':xs.length=ys.length:=by simpa[<-l1,<-l2]using hl
     have ef:T0 xs ys=(Q8 us.toArray.size).all fun j=>eqV (xs.getD j .non) (ys.getD j .non):=by
      unfold T0
      rw[hl',Nat.min_self,b6,<-l1,hl']
      simp
     rw[ef]
     exact⟨q1,q2⟩
    ·have hl2:(us.toArray.size != ws.toArray.size)=true:=by simpa using hl
     have q1:=SeqAt.RcAt.lists_lengths (A:=X.A) t1.isList t2.isList hl2 hu
     have q2:=SeqAt.RcNeAt.lists_lengths (A:=X.A) t1.isList t2.isList hl2 hu
     have ef:T0 xs ys=false:=by
      unfold T0
      have:¬xs.length=ys.length:=by simpa[<-l1,<-l2]using hl
      simp[this]
     rw[ef]
     exact⟨q1,q2⟩
   ·cases e
  ·cases e
 ·cases rx
  cases ry
  split at e
  ·cases e
   obtain⟨us,_,t1,_⟩:=I.tuple (SqT.of (by assumption))
   exact⟨SeqAt.RcAt.none_tuple t1 hu,SeqAt.RcNeAt.none_tuple t1 hu⟩
  ·cases e
 ·cases rx
  cases ry
  split at e
  ·cases e
   obtain⟨us,_,t1,_⟩:=I.tuple (SqT.of (by assumption))
   exact⟨SeqAt.RcAt.tuple_none t1 hu,SeqAt.RcNeAt.tuple_none t1 hu⟩
  ·cases e
 ·cases e
theorem a9a(hu:X.A.units<cLine):OpR X (d9 .Eq) qEq:=by
 intro pins s σ H x y v u Q I rx ry h
 obtain⟨k,e,q⟩:=h
 by_cases hs:a4i x y=true
 ·unfold eqO at e
  rw[if_pos hs]at e
  cases e
  exact b4I pins s σ H x y v u Q I rx ry ⟨hs,q⟩
 ·exact(b1L I hu rx ry hs e).1 _ _ _ _ ⟨.bl k,H,I,rfl,q⟩
theorem b2S(hu:X.A.units<cLine):OpR X (d9 .NotEq) qNe:=by
 intro pins s σ H x y v u Q I rx ry h
 obtain⟨k,e,q⟩:=h
 by_cases hs:a4i x y=true
 ·unfold eqO at e
  rw[if_pos hs]at e
  cases e
  exact b4D pins s σ H x y v u Q I rx ry ⟨hs,q⟩
 ·exact(b1L I hu rx ry hs e).2 _ _ _ _ ⟨.bl (!k),H,I,rfl,q⟩
def qIn(neg:Bool):R2:=fun x y H Q=>match x,y with
 | .str i,.str j=>Q (.bl (if neg then !(!(Builtin.Str.occurrences j i 0 j.length 1).isEmpty)else !(Builtin.Str.occurrences j i 0 j.length 1).isEmpty)) H
 | x,.ref p=>match H p with
  | some (.lst xs)=>C3 x=true/\xs.all C3=true/\Q (.bl (if neg then !inV x xs else inV x xs)) H
  | some (.tup xs)=>C3 x=true/\xs.all C3=true/\Q (.bl (if neg then !inV x xs else inV x xs)) H
  | _=>False
 | _,_=>False
theorem b2V:OpR X (d9 .In) (qIn false):=(a7f.or a2y).imp fun x y H Q h=>by
 unfold qIn at h
 split at h
 ·exact .inl ⟨_,_,rfl,rfl,h⟩
 ·split at h
  ·exact .inr ⟨_,_,rfl,.inl (SqL.of (by assumption)),h.1,h.2.1,h.2.2⟩
  ·exact .inr ⟨_,_,rfl,.inr (SqT.of (by assumption)),h.1,h.2.1,h.2.2⟩
  ·exact h.elim
 ·exact h.elim
theorem a7e:OpR X (d9 .NotIn) (qIn true):=(a3r.or a3s).imp fun x y H Q h=>by
 unfold qIn at h
 split at h
 ·exact .inl ⟨_,_,rfl,rfl,h⟩
 ·split at h
  ·exact .inr ⟨_,_,rfl,.inl (SqL.of (by assumption)),h.1,h.2.1,h.2.2⟩
  ·exact .inr ⟨_,_,rfl,.inr (SqT.of (by assumption)),h.1,h.2.1,h.2.2⟩
  ·exact h.elim
 ·exact h.elim
def W4:V->List V->Hp->VK->Prop:=fun x vs H Q=>match x,vs with
 | .ref l,[y]=>match H l with
  | some (.lst xs)=>xs.length<c9/\Q .non (upd H l (.lst (xs++[y])))
  | _=>False
 | _,_=>False
theorem a5G:MtR X "list.append" W4:=fun pins s σ H x xs v us Q I rx rv h=>by
 refine a2z pins s σ H x xs v us Q I rx rv ?_
 unfold W4 at h
 split at h
 ·split at h
  ·exact⟨_,_,_,rfl,rfl,by assumption,h.1,h.2⟩
  ·exact h.elim
 ·exact h.elim
def Q2:List V->Option (List Str)
 | []=>some []
 | .str s::r=>(Q2 r).map (s :: ·)
 | _=>none
theorem a5h(ss:List Str):Q2 (ss.map V.str)=some ss:=by
 induction ss with
 | nil=>rfl
 | cons s r ih=>simp[Q2,ih]
theorem a1r:∀ {xs:List V} {us:List Value} {ss:List Str},o3 xs us->Q2 xs=some ss->StrsAre us ss
 | _,_,ss,.nil,e=>by cases e;exact .nil
 | x::xs,_,ss,.cons r t,e=>by
  cases x with
  | str s=>
   obtain⟨k,rfl⟩:=r
   cases e2:Q2 xs with
   | none=>simp[Q2,e2]at e
   | some ss2=>
    simp[Q2,e2]at e
    subst e
    exact .cons _ _ (a1r t e2)
  | _=>simp[Q2]at e
def a2x:V->List V->Hp->VK->Prop:=fun x vs H Q=>match x,vs with
 | .str x,[.ref l]=>match H l with
  | some (.lst xs)=>∃ss,Q2 xs=some ss/\(ss.map (·.length)).sum+ss.length * x.length<=16777216/\Q (.str (Txt.join x ss)) H
  | _=>False
 | _,_=>False
theorem a9i:MtR X "str.join" a2x:=fun pins s σ H x xs v us Q I rx rv h=>by
 unfold a2x at h
 split at h
 ·split at h
  ·obtain⟨ss,e,hk,q⟩:=h
   obtain⟨t,rfl⟩:=rx
   obtain⟨u,rfl,ru⟩:=rv.one
   cases ru
   obtain⟨its,r,p,hz⟩:=I.list (SqL.of (by assumption))
   exact join_list p.isList (a1r r e) hk fun t' k=>⟨.str _,H,I.tok _,⟨_,rfl⟩,q⟩
  ·exact h.elim
 ·exact h.elim
def V0(x:V)(H:Hp):Option String:=match x with
 | .non=>some "NoneType"
 | .bl _=>some "bool"
 | .int _=>some "int"
 | .str _=>some "str"
 | .ref a=>match H a with
  | some (.lst _)=>some "list"
  | some (.tup _)=>some "tuple"
  | some (.dK _)=>some "dict"
  | some (.dT _)=>some "dict"
  | _=>none
 | _=>none
def K6(t c:String):Bool:=t == c||(t == "bool" && c == "int")
def a0H:List String:=["int","bool","str","list","tuple","dict"]
theorem b3j(K:Fg):∀t ∈ "NoneType" :: a0H,∀c∈a0H,b1x K (.type t) (.type c)=some (K6 t c):=by
 intro t ht c hc
 simp only[a0H,g5,D3,or_false]at ht hc
 rcases ht with rfl | rfl | rfl | rfl | rfl | rfl | rfl <;> rcases hc with rfl | rfl | rfl | rfl | rfl | rfl <;> kernel_rfl
theorem b3X{K:Fg}{x:V}{t:String}(h:V0 x H=some t):a0I K H x (.type t)/\t ∈ "NoneType" :: a0H:=by
 unfold V0 at h
 split at h
 ·cases h;exact⟨.non,by decide⟩
 ·cases h;exact⟨.bl _,by decide⟩
 ·cases h;exact⟨.int _,by decide⟩
 ·cases h;exact⟨.str _,by decide⟩
 ·split at h
  ·cases h;exact⟨.lst (by assumption),by decide⟩
  ·cases h;exact⟨.tup (by assumption),by decide⟩
  ·cases h;exact⟨.dK (by assumption),by decide⟩
  ·cases h;exact⟨.dT (by assumption),by decide⟩
  ·cases h
 ·cases h
def R7:List V->Hp->VK->Prop:=fun xs H Q=>match xs with
 | [x,.ty c]=>∃t,V0 x H=some t/\c∈a0H/\Q (.bl (K6 t c)) H
 | _=>False
theorem a7z:J4 X (.builtin "isinstance") R7:=fun pins s σ H xs us Q I r h=>by
 unfold R7 at h
 split at h
 ·obtain⟨t,e,hc,q⟩:=h
  obtain⟨u,u2,rfl,ru,ru2⟩:=b3W r
  cases ru2
  obtain⟨ty,ht⟩:=b3X (K:=X.K) e
  exact a7p I ru ty (b3j X.K t ht _ hc) fun tk=>⟨.bl _,H,I.tok _,rfl,q⟩
 ·exact h.elim
def a8I:V->Hp->VK->Prop:=fun x H Q=>match x with
 | .ref a=>match H a with
  | some (.lst xs)=>∀p,H p=none->Q (.ref p) (upd H p (.lst xs.reverse))
  | _=>False
 | _=>False
def a9V(te:TE):TE:=fun σ H Q=>te σ H fun x H1=>a8I x H1 Q
theorem b2J{e:Expr}{te:TE}{p2 p3 p4:Pos}{j}(he:PE X e te):PE X (.Subscript e (.Slice none none (some (.UnaryOp .USub (.Constant (.int 1) j p3) p4)) p2) pos) (a9V te):=by
 intro pins s σ H Q I h
 refine Subscript_ (thn (he pins s σ H _ I h) fun v s1 ⟨x,H1,I1,r1,q1⟩=>?_)
 refine wpAny_Slice ?_
 rw[evalPart_none]
 refine f6 (f6 ?_)
 refine thn (a6s (X:=X) (b1N a8i a8U) pins s1 σ H1 (fun o H2=>o=some (-1)/\H2=H1) I1 ⟨1,rfl,-1,rfl,rfl,rfl⟩) fun vk s2 ⟨o,H2,I2,pk,e1,e2⟩=>?_
 subst e1 e2
 unfold a8I at q1
 split at q1
 ·split at q1
  ·rename_i a _ xs hx
   cases r1
   have I3:Inv X pins σ H2 { s2 with heap:=s2.heap.push { cls:=.type "slice",data:=.fields #[.none,.none,vk] } }:=I2.kept (t':=s2.toks) fun b ob q=>c5 _ q
   obtain⟨its,r,ht,hz⟩:=I3.list (SqL.of hx)
   have hlen:=r.length
   refine tail_any (ops:=[.ref a,.ref s2.heap.objs.size]) ht.isList.typeIs slot_list_getitem.lookup ?_ (by with_unfolding_all rfl)
   refine wpAny_getItem_list_slice (st:=some (-1)) ht.isList (a2R ..) .none .none pk (by decide) ?_ (by rw[b6] <;> omega)
   rw[PySem.W.krv_pick]
   refine⟨.ref _,_,I3.laid (t':=s2.toks) (o:=.lst xs.reverse) (fun b ob q=>c5 _ q) (a8 _) ?_,rfl,q1 _ (I3.hok.fresh (a8 _))⟩
   refine⟨by rw[List.length_reverse];exact hz,its.reverse,0,r.reverse,?_⟩
   exact l5 _ rfl
  ·exact q1.elim
 ·exact q1.elim
def a6Y:V->V->Hp->VK->Prop:=fun x y H Q=>match x,y with
 | .ref p,.int i=>match H p with
  | some (.lst xs)=>0<=i/\∃v,xs[i.toNat]? = some v/\Q v H
  | _=>False
 | _,_=>False
theorem b4N:b3C X a6Y:=fun pins s σ H o i ov iv Q I r1 r2 h=>by
 unfold a6Y at h
 split at h
 ·split at h
  ·obtain⟨h0,v,e,q⟩:=h
   cases r1
   obtain⟨t,rfl⟩:=r2
   obtain⟨its,r,pl,hz⟩:=I.list (SqL.of (by assumption))
   obtain⟨u,eu,ru⟩:=r.get e
   have hl:=(p9.mp e).1
   have hn:=Y1
   exact wpAny_getItem_list pl.isList h0 (by omega) (by simpa using eu) ⟨v,H,I,ru,q⟩
  ·exact h.elim
 ·exact h.elim
structure w6(P:g7)(w:World)(K:Fg)(mg:Str->Option Value)(base:Heap)(k:Nat)(x:Str)(ps:List Str)(sp:Sp):Prop where
 ex:∃f fd,D8 P w K mg base CX0 k f fd ps sp/\mg x=some (.ref f)/\C6 K (.ref f)=true/\a0k K fd ps []
theorem b2K{k j:Nat}{ps:List Str}{sp:Sp}{e:Expr}{es:List Expr}{t:TA}{p:Pos}(C:w6 X.prog X.w X.K X.mg X.base k x ps sp)(hr:F0 j X.A)(hk:k<=j)(hg:Gl X x)(ha:PA X (e::es) t)
  (hdb:(x == ("__debug__" : Str))=false:=by decide) (he:c4 (e::es) X.env=(false,eval e X.env)::c4 es X.env:=by rfl) (hpl:(Q9 pos (c4 es X.env)).any (·.1)=false:=by rfl) :
  PE X (.Call (.Name x p) (e::es) [] pos) (h9 sp [] E0 t):=by
 obtain⟨f,fd,F,hm,hkp,hb⟩:=C.ex
 exact b0G F (hr.mono hk) hg hm hkp hb .nil b4C ha hdb he hpl
theorem a7x{P:g7}{w:World}{K:Fg}{mg:Str->Option Value}{base:Heap}{k:Nat}{q:Str}{ps:List Str}{sp:Sp}{st:Stmt}{f:Addr}{fd:E4}(F:Fun K x q st f fd)(O:D8 P w K mg base CX0 k f fd ps sp)
  (hm:mg x=some (.ref f)) (hb:a0k K fd ps []):w6 P w K mg base k x ps sp:=⟨f,fd,O,hm,F.kp,hb⟩
def a2w:List V->Hp->VK->Prop:=fun xs H Q=>match xs with
 | [.ref p]=>match H p with
  | some (.lst ys)=>∀l,H l=none->Q (.ref l) (upd H l (.lst ys))
  | some (.tup ys)=>∀l,H l=none->Q (.ref l) (upd H l (.lst ys))
  | _=>False
 | _=>False
theorem a5R:J4 X (.type "list") a2w:=a3A.imp fun xs H Q h=>by
 unfold a2w at h
 split at h
 ·split at h
  ·exact⟨_,_,rfl,.inl (SqL.of (by assumption)),h⟩
  ·exact⟨_,_,rfl,.inr (SqT.of (by assumption)),h⟩
  ·exact h.elim
 ·exact h.elim
end
def Its(x:Str):It:=⟨fun i _=>i<x.length,fun i H v H'=>H'=H/\∃c,x.cps[i]? = some c/\v=.str ⟨#[c]⟩,fun i _=>x.length<=i⟩
theorem a8j{P:g7}{w:World}{K:Fg}{tg:Expr}(x:Str)(t:Tok)(it:Addr):a7D P w K tg (Its x) [it] it (fun i h=>h.IsStrIter it (F4 x) x t i) where
 mem:=by simp
 obj:=fun i h st b hb=>by
  have e:b=it:=by simpa using hb
  subst e
  obtain⟨o,e,c,d⟩:=st
  exact⟨o,e,fun v z=>by rw[d]at z;cases z⟩
 keep:=fun i h h' st k=>let⟨o,ho,r⟩:=st; ⟨o,k it (by simp) o ho,r⟩
 item:=by
  intro X hP hw hK hc i pins s σ H E I hf st hg
  subst hP hw hK
  have hi:i<x.cps.size:=hg
  obtain⟨f0,f1,f2,f3,f4,f5⟩:=hf it (by simp)
  have hx:x.cps[i]? = some x.cps[i]:=by simp[hi]
  have fin:∀h',h'.IsStrIter it (F4 x) x t (i+1)->Heap.SameBut it s.heap h'->∃u,some (Value.str ⟨#[x.cps[i]]⟩ s.toks)=some u /\
    wpAny (model X.prog X.w) X.A (U5 tg (.ref it) u) (fun _ s2=>∃v H',Inv X pins σ H' s2/\m3 v u/\(Its x).yld i H v H'/\s2.heap.IsStrIter it (F4 x) x t (i+1)/\∀b∈[it],H' b=none) E { s with heap:=h',toks:=s.toks+1 }:=by
   intro h' st' sb
   have I1:Inv X pins σ H { s with heap:=h',toks:=s.toks+1 }:=I.turned (t':=s.toks+1) (fun b o hb e=>(sb.2 b hb).trans e) f0 f1 f3 f4 f5
   obtain⟨o,e,c,d⟩:=id st'
   refine⟨_,rfl,a9m (s:={ s with heap:=h',toks:=s.toks+1 }) e c d ?_ ⟨.str ⟨#[x.cps[i]]⟩,H,I1,⟨_,rfl⟩,⟨rfl,_,hx,rfl⟩,st',fun b hb=>(hf b hb).1⟩⟩
   unfold F4
   split <;> decide
  unfold F4 at st fin ⊢
  split at st
  ·rename_i ha
   simp only[ha]at fin ⊢
   exact wpAny_pyNext_ascii_item st hx fun h' st' sb=>fin h' st' sb
  ·rename_i ha
   simp only[ha]at fin ⊢
   exact wpAny_pyNext_wide_item st hx fun h' st' sb=>fin h' st' sb
 done:=by
  intro X hP hw hK hc i pins s σ H E I hf st hg
  subst hP hw hK
  have hi:x.cps.size<=i:=hg
  obtain⟨f0,f1,f2,f3,f4,f5⟩:=hf it (by simp)
  have hx:x.cps[i]? = none:=by simp[hi]
  unfold F4 at st
  split at st
  ·exact wpAny_pyNext_ascii_end (I.ok.hd hc) st hx fun h' eb=>⟨rfl,I.turned (t':=s.toks) (fun b o hb e=>eb b o hb e) f0 f1 f3 f4 f5⟩
  ·exact wpAny_pyNext_wide_end (I.ok.hd hc) st hx fun h' eb=>⟨rfl,I.turned (t':=s.toks) (fun b o hb e=>eb b o hb e) f0 f1 f3 f4 f5⟩
 self:=fun _ _ _ _ _ st h=>by
  unfold F4 at st
  split at st
  ·exact wpAny_pyIter_striter_ascii st h
  ·exact wpAny_pyIter_striter_wide st h
def a7r(tl:TE):TI:=fun σ H R=>tl σ H fun v H1=>∃x,v=.str x/\R (Its x) H1
section
variable {tg:Expr}
theorem b2D{l:Expr}{tl:TE}(hl:PE X l tl):PI X tg l (a7r tl):=by
 intro pins s σ H R I h
 refine thn (hl pins s σ H _ I h) fun v s1 ⟨y,H1,I1,r1,x,e,q1⟩=>?_
 subst e
 obtain⟨t,rfl⟩:=r1
 refine wpAny_pyIter_strU ?_
 have k:∀b u,s1.heap.get? b=some u->(s1.heap.push { cls:=.type (F4 x),data:=.fields #[.str x t,.int 0 0] }).get? b=some u:=fun b u q=>c5 _ q
 refine⟨s1.heap.objs.size,[s1.heap.objs.size],_,Its x,H1,rfl,I1.kept (t':=s1.toks) k,a8j x t _,⟨_,l5 _ rfl,rfl,rfl⟩,fun b hb=>?_,q1⟩
 have e:b=s1.heap.objs.size:=by simpa using hb
 subst e
 exact I1.fpOk (a8 _) I1.fresh
def E2:List V->Option (List Bool)
 | []=>some []
 | .bl b::r=>(E2 r).map (b :: ·)
 | _=>none
theorem a2I:∀ {xs:List V} {bs:List Bool} {i:Nat} {x:V},E2 xs=some bs->xs[i]? = some x->∃b,bs[i]? = some b/\x=.bl b
 | [],_,_,_,_,h=>by simp at h
 | y::r,bs,i,x,e,h=>by
  cases y with
  | bl b=>
   cases e2:E2 r with
   | none=>simp[E2,e2]at e
   | some bs2=>
    simp[E2,e2]at e
    subst e
    cases i with
    | zero=>simp at h;exact⟨b,rfl,h.symm⟩
    | succ i=>
     obtain⟨b',h1,h2⟩:=a2I (i:=i) e2 (by simpa using h)
     exact⟨b',by simpa using h1,h2⟩
  | _=>simp[E2]at e
theorem a2H:∀ {xs:List V} {bs:List Bool},E2 xs=some bs->xs.length=bs.length
 | [],_,e=>by cases e;rfl
 | y::r,bs,e=>by
  cases y with
  | bl b=>
   cases e2:E2 r with
   | none=>simp[E2,e2]at e
   | some bs2=>
    simp[E2,e2]at e
    subst e
    simp[a2H e2]
  | _=>simp[E2]at e
theorem a7C(bs:List Bool):((Q8 bs.length).all fun i=>(bs[i]?).getD true)=bs.all id:=by
 rw[P5,u9,u9]
 constructor
 ·intro h b hb
  obtain⟨i,hi,rfl⟩:=List.mem_iff_getElem.mp hb
  have:=h i (by simpa using hi)
  simpa[hi]using this
 ·intro h i hi
  have hl:i<bs.length:=by simpa using hi
  have:=h bs[i] (a1S _)
  simpa[hl]using this
def a6Z:List V->Hp->VK->Prop:=fun vs H Q=>match vs with
 | [.ref l]=>match H l with
  | some (.lst xs)=>∃bs,E2 xs=some bs/\Q (.bl (bs.all id)) H
  | _=>False
 | _=>False
theorem a7A(hc:X.calm=true):J4 X (.builtin "all") a6Z:=fun pins s σ H xs us Q I r h=>by
 unfold a6Z at h
 split at h
 ·split at h
  ·rename_i l _ ys hl
   obtain⟨bs,e,q⟩:=h
   obtain⟨u,rfl,ru⟩:=a2n r
   cases ru
   obtain⟨its,rv,pl,hz⟩:=I.list (SqL.of hl)
   have hlt:l<s.heap.objs.size:=by obtain⟨_,e,_⟩:=pl.isList;exact c8 e
   have hlen:=rv.length
   have hbl:=a2H e
   refine call_all_walk (wpAny_pyIter_list pl.isList ?_)
   refine⟨s.heap.objs.size,[s.heap.objs.size,l],[s.heap.objs.size],its.toArray.size,_,_,fun i=>(bs[i]?).getD true,rfl,Walks.list (A:=X.A.in1) (I.ok.hd hc) _ l (o4 hlt) its.toArray,
    ⟨⟨_,l5 _ rfl,rfl,rfl⟩,pl.isList.push _⟩,fun i v s' Q' E' hP hQ=>?_,fun h' tk hk=>?_⟩
   ·have hP:its[i]? = some v:=by simpa using hP
    have hi:i<ys.length:=by rw[hlen];exact(p9.mp hP).1
    have ey:ys[i]? = some ys[i]:=by simp[hi]
    obtain⟨b,eb,ez⟩:=a2I e ey
    obtain⟨u,eu,ru⟩:=rv.get ey
    rw[hP]at eu
    cases eu
    rw[ez]at ru
    cases ru
    simp only[eb,Option.getD_some]at hQ
    exact t9 hQ
   ·have e2:((Q8 its.toArray.size).all fun i=>(bs[i]?).getD true)=bs.all id:=by
     rw[b6,<-hlen,hbl]
     exact a7C bs
    rw[e2]
    exact⟨.bl _,H,I.kept (t':=tk) fun b x e=>hk b x (fun hm=>by rw[K9.mp hm]at e;exact A2 _ (c8 e)) (c5 _ e),rfl,q⟩
  ·exact h.elim
 ·exact h.elim
end
section
theorem Inv.turnedL{h':Heap}{t':Nat}(I:Inv X pins σ H s)(k:∀b o,b∉fp->s.heap.get? b=some o->h'.get? b=some o)(hf:∀b∈fp,a0T X pins H b) :
  Inv X pins σ H { s with heap:=h',toks:=t' }:=by
 have nit:∀b u,H b=some u->b∉fp:=fun b u e z=>by rw[(hf b z).1]at e;cases e
 refine I.step (g':=s.gens) (d':=s.drawn) (ch:=fp) (fun b hb=>?_) (fun b o _ _ hc e _=>k b o hc e) (fun b o _ _ hc e _=>⟨o.slots,k b o hc e⟩) (fun _ _ _ _ n=>n)
  (fun b o hc e=>⟨o,k b o hc e⟩) (fun _ _ e=>e) (fun _ _ _ e=>e) (fun b ps e=>⟨#[],by rw[e];simp⟩) (fun m hm=>?_) (fun b u e=>?_) I.bare
 ·obtain⟨_,f1,_,f3,f4,f5⟩:=hf b hb
  exact⟨f3,f1,f4,f5⟩
 ·obtain⟨o,es,ep,ho,r⟩:=hm
  exact⟨o,es,ep,k _ o (fun z=>(hf _ z).2.1 rfl) ho,r⟩
 ·refine(I.hok b u e).stay (fun c v hc q=>k c v ?_ q) (fun _ q=>q) fun _ _ q=>q
  rcases hc with z | z
  ·rw[z];exact nit b u e
  ·exact nit c _ z
theorem Inv.pairL{h':Heap}{t':Nat}{x y:V}{u v:Value}(I:Inv X pins σ H s)(hf:∀b∈fp,a0T X pins H b)(fl:∀b∈fp,b≠s.heap.objs.size)
  (rx:m3 x u) (ry:m3 y v) (ht:h'.get? s.heap.objs.size=some { cls:=.type "tuple",data:=.seq #[u,v] }) (k:∀b o,b∉fp->s.heap.get? b=some o->h'.get? b=some o) :
  Inv X pins σ (upd H s.heap.objs.size (.tup [x,y])) { s with heap:=h',toks:=t' }:=by
 have I1:Inv X pins σ (upd H s.heap.objs.size (.tup [x,y])) { s with heap:=s.heap.push { cls:=.type "tuple",data:=.seq #[u,v] },toks:=s.toks }:=
  I.laid (fun b u e=>c5 _ e) (a8 _) ⟨by show 2<=c9;decide,[u,v],.cons rx (.cons ry .nil),⟨_,l5 _ rfl,rfl,_,rfl⟩⟩
 refine Inv.turnedL (s:={ s with heap:=s.heap.push { cls:=.type "tuple",data:=.seq #[u,v] },toks:=s.toks }) (fp:=fp) I1 (fun b o hb e=>?_) fun b hb=>⟨by rw[u0 (fl b hb)];exact(hf b hb).1,(hf b hb).2⟩
 by_cases hz:b=s.heap.objs.size
 ·subst hz
  have e2:=l5 s.heap (o:={ cls:=.type "tuple",data:=.seq #[u,v] }) rfl
  rw[show(s.heap.push { cls:=.type "tuple",data:=.seq #[u,v] }).get? s.heap.objs.size=some o from e]at e2
  cases e2
  exact ht
 ·refine k b o hb ?_
  have e:(s.heap.push { cls:=.type "tuple",data:=.seq #[u,v] }).get? b=some o:=e
  rwa [Heap.get?_push_ne _ _ _ hz]at e
end
def b4L(x y:Str)(N:List Str):List Str:=N.map fun z=>if z=x then ("." : Str)++x else if z=y then ("." : Str)++y else z
structure b4X(N:List Str)(osc sc:Scope)(x y:Str):Prop where
 kind:sc.kind=.function
 cell:∀y∈sc.names,y.2≠.cell
 names:∀y∈sc.names,y.2=.local->sc.names.lookup y.1=some .local
 own:sc.names.lookup x=some .local
 own2:sc.names.lookup y=some .local
 fr:∀y∈sc.names,y.2=.free->osc.names.lookup y.1=some .cell\/osc.names.lookup y.1=some .free
 see:∀z∈b4L x y N,sc.names.lookup z≠some .local
 dot:sc.names.lookup (("." : Str)++x)=none
 dot2:sc.names.lookup (("." : Str)++y)=none
 nd:(x::y::b4L x y N).Nodup
section
variable {x2:Str}{px py2 pt:Pos}{kt}
end
section
variable {x2:Str}{px py2 pt:Pos}{kt:Nat}
end
section
def W3:V->List V->Hp->VK->Prop:=fun x vs H Q=>match x,vs with
 | .ref l,[.ref b]=>match H l,H b with
  | some (.lst xs),some (.lst zs)=>xs.length+zs.length<=c9/\Q .non (upd H l (.lst (xs++zs)))
  | _,_=>False
 | _,_=>False
theorem a5F:MtR X "list.extend" W3:=fun pins s σ H x xs v us Q I rx rv h=>by
 refine a7l pins s σ H x xs v us Q I rx rv ?_
 unfold W3 at h
 split at h
 ·split at h
  ·exact⟨_,_,_,_,rfl,rfl,by assumption,by assumption,h.1,h.2⟩
  ·exact h.elim
 ·exact h.elim
inductive Dq(K:Fg)(H:Hp):Nat->V->V->Prop
 | flat {n:Nat} {x:V}:C3 x=true->Dq K H n x x
 | tup {n:Nat} {a b:Addr} {xs ys:List V}:SqT K H a xs->SqT K H b ys->xs.length=ys.length->(∀(j:Nat) x y,xs[j]? = some x->ys[j]? = some y->Dq K H n x y)->Dq K H (n+1) (.ref a) (.ref b)
 | lst {n:Nat} {a b:Addr} {xs ys:List V}:SqL K H a xs->SqL K H b ys->xs.length=ys.length->(∀(j:Nat) x y,xs[j]? = some x->ys[j]? = some y->Dq K H n x y)->Dq K H (n+1) (.ref a) (.ref b)
structure b5C(P:g7)(w:World)(K:Fg)(mg:Str->Option Value)(base:Heap)(k:Nat)(x:Str)(C:Addr)(ps:List Str)(sp:Sp):Prop where
 ex:∃f fd,D8 P w K mg base CX0 k f fd ps sp/\mg x=some (.ref C)/\Mk K C f/\a0k K fd ps []
structure b4W(P:g7)(w:World)(K:Fg)(mg:Str->Option Value)(base:Heap)(k:Nat)(m:Str)(C:Addr)(ps:List Str)(sp:Sp):Prop where
 ex:∃f fd,D8 P w K mg base CX0 k f fd ps sp/\Cls K C/\b5x K C m f/\a0k K fd ps []
end
end L2
namespace PySem
open Sem (wp)
namespace F
end F
section
variable {prog:g7}{w:World}{A:u6}{E:Value->b5->Prop}{h:Heap}{g:Array GenState}{d:Drawn}{t:Nat}{os:OsState}{a:Addr}{xs:Array Value}{n:Nat}{sl:Array (Option Value)}
end
end PySem
namespace PySem
open Sem (wp)
namespace F
end F
section
variable {prog:g7}{w:World}{K:Type}[DecidableEq K]{knd:KeyKind prog w K}{A:u6}{s:b5}{R:Result->b5->Prop}
end
section
variable {prog:g7}{w:World}{K:Type}[DecidableEq K]{knd:KeyKind prog w K}{A:u6}{E:Value->b5->Prop}{s:b5}
end
end PySem
namespace L2
open PySem PySem.Spec PyProof.Rows
section
variable {X:Cx}
end
section
variable {X:Cx}{tg:Expr}
end
section
variable {X:Cx}
end
section
variable {X:Cx}
end
structure IsC(K:Fg)(C:Addr):Prop where
 cl:Cls K C
 ha:C7 K (.ref C) "__class__" = some (some (.builtin "object.__class__"))
 hn:a0J K (.builtin "object.__class__") "__get__" = some (some (.builtin "getset_descriptor.__get__"))
 htk:a9I K (.builtin "object.__class__")=some true
 hm:b1R K C (.type "object")=some true
section
variable {P:g7}{w:World}{K:Type}[DecidableEq K]{knd:HeapKind P w K}{A:u6}{E:Value->b5->Prop}{s:b5}
end
section
variable {X:Cx}
end
end L2
namespace PySem
open Sem (wp)
section
variable {prog:g7}{w:World}{A:u6}{E:Value->b5->Prop}{s:b5}
end
end PySem
namespace L2
open PySem PySem.Spec PyProof.Rows
section
variable {X:Cx}
end
end L2
namespace PySem
open Sem (wp)
section
variable {prog:g7}{w:World}{K:Type}[DecidableEq K]{knd:HeapKind prog w K}{A:u6}{s:b5}{R:Result->b5->Prop}
end
section
variable {prog:g7}{w:World}{K:Type}[DecidableEq K]{knd:HeapKind prog w K}{A:u6}{E:Value->b5->Prop}{s:b5}
end
end PySem
namespace L2
open PySem PySem.Spec PyProof.Rows
variable{X:Cx}{H:Hp}{s:b5}{w:World}
section
end
section
variable {pins:List (Addr×Obj)}{σ:St}{a:Addr}
end
abbrev XE:=List Key×Addr×V
section
variable {pins:List (Addr×Obj)}{σ:St}{a b:Addr}{xs:List XE}{k:List Key}
end
section
variable {i o:Expr}{ti to:TE}
end
section
end
mutual
inductive RdP(H:Hp):V->PyData->Prop
 | non:RdP H .non .none
 | bl (b:Bool):RdP H (.bl b) (.bool b)
 | int (i:Int):RdP H (.int i) (.int i)
 | str (s:Str):RdP H (.str s) (.str s)
 | lst {a:Addr} {xs:List V} {ds:List PyData}:H a=some (.lst xs)->C4 H xs ds->RdP H (.ref a) (.list ds)
 | tup {a:Addr} {xs:List V} {ds:List PyData}:H a=some (.tup xs)->C4 H xs ds->RdP H (.ref a) (.tuple ds)
 | dct {a:Addr}:H a=some (.dK [])->RdP H (.ref a) (.dict [])
inductive C4(H:Hp):List V->List PyData->Prop
 | nil:C4 H [] []
 | cons {x:V} {xs:List V} {d:PyData} {ds:List PyData}:RdP H x d->C4 H xs ds->C4 H (x::xs) (d::ds)
end
section
variable {H':Hp}{P:g7}{h:Heap}
mutual
theorem RdP.same:∀ {x:V} {d:PyData},(∀a o,H a=some o->H' a=some o)->RdP H x d->RdP H' x d
 | _,_,_,.non=>.non
 | _,_,_,.bl b=>.bl b
 | _,_,_,.int i=>.int i
 | _,_,_,.str s=>.str s
 | _,_,k,.lst e r=>.lst (k _ _ e) (C4.same k r)
 | _,_,k,.tup e r=>.tup (k _ _ e) (C4.same k r)
 | _,_,k,.dct e=>.dct (k _ _ e)
theorem C4.same:∀ {xs:List V} {ds:List PyData},(∀a o,H a=some o->H' a=some o)->C4 H xs ds->C4 H' xs ds
 | _,_,_,.nil=>.nil
 | _,_,k,.cons r rs=>.cons (RdP.same k r) (C4.same k rs)
end
mutual
theorem b2o:∀ {x:V} {d:PyData} {v:Value},HOk P w H h->RdP H x d->m3 x v->d.showable=true->d.shown.length<=c9->∃as bs,Reads h v d as/\ReadAtMost h d.depth bs/\ReprK P w bs h d.depth v d.shown
 | _,_,_,_,.non,r,_,_=>by cases r;exact⟨[],[],.none,(fun _ h=>nomatch h),by simp only[PyData.shown];exact .of_is ReprIs.none _ _ _⟩
 | _,_,_,_,.bl b,r,_,_=>by cases r;exact⟨[],[],.bool b,(fun _ h=>nomatch h),by simp only[PyData.shown];exact .of_is (ReprIs.bool b) _ _ _⟩
 | _,_,_,_,.int i,r,hs,_=>by
  obtain⟨t,rfl⟩:=r
  exact⟨[],[],.int i t,(fun _ h=>nomatch h),by simp only[PyData.shown];exact .of_is (ReprIs.int t (by simpa[PyData.showable]using hs)) _ _ _⟩
 | _,_,_,_,.str s,r,_,hz=>by
  obtain⟨t,rfl⟩:=r
  exact⟨[],[],.str s t,(fun _ h=>nomatch h),by simp only[PyData.shown];exact .of_is (ReprIs.str s t (by simpa only[PyData.shown]using hz)) _ _ _⟩
 | _,_,_,ok,.lst (a:=a) (xs:=xs) (ds:=ds) e rs,r,hs,hz=>by
  cases r
  have hz':(listText (PyData.shownAll ds)).length<=c9:=by simpa only[PyData.shown]using hz
  obtain⟨_,its,n,rv,hg⟩:=(show A7 P w H h a (.lst xs)from ok a _ e)
  obtain⟨as,bs,q1,hb,hk⟩:=a3j ok rs rv (by simpa[PyData.showable]using hs) (fun t ht=>j3 (listText_mem_le ht) hz')
  have rd:Reads h (.ref a) (.list ds) (a::as):=.list hg rfl rfl q1
  have hna:a∉bs:=not_mem_of_deeper rd (by simp only[PyData.depth];omega) hb
  refine⟨_,a::bs,rd,ReadAtMost.cons rd (by simp only[PyData.depth];omega) hb,?_⟩
  simp only[PyData.depth,PyData.shown]
  cases its with
  | nil=>
   cases q1
   simp only[PyData.shownAll,listText_nil]
   exact ReprK.listEmpty hg rfl rfl
  | cons y l=>exact ReprK.list hg rfl rfl hna (by simpa using hk.length_eq) (fun i y e=>hk.item i y (by simpa using e))
 | _,_,_,ok,.tup (a:=a) (xs:=xs) (ds:=ds) e rs,r,hs,hz=>by
  cases r
  have hz':(tupleText (PyData.shownAll ds)).length<=c9:=by simpa only[PyData.shown]using hz
  obtain⟨_,its,rv,o,hg,hc,n,hd⟩:=(show A7 P w H h a (.tup xs)from ok a _ e)
  obtain⟨as,bs,q1,hb,hk⟩:=a3j ok rs rv (by simpa[PyData.showable]using hs) (fun t ht=>j3 (tupleText_mem_le ht) hz')
  have rd:Reads h (.ref a) (.tuple ds) as:=.tuple hg hc hd q1
  have hna:a∉bs:=not_mem_of_deeper rd (by simp only[PyData.depth];omega) hb
  refine⟨_,a::bs,rd,ReadAtMost.cons rd (by simp only[PyData.depth];omega) hb,?_⟩
  simp only[PyData.depth,PyData.shown]
  exact ReprK.tuple hg hc hd hna hk
 | _,_,_,ok,.dct (a:=a) e,r,hs,hz=>by
  cases r
  obtain⟨_,hsys,vs,rel,dd⟩:=a9s ok e
  cases rel
  obtain⟨o,es,ep,ho,hc,hdat,hk,hp,hn⟩:=dd
  have hes:es.toList=[]:=List.length_eq_zero_iff.mp hp.length
  have z1:ReadsAll h (es.toList.map (·.key)) (([]:List (PyData×PyData)).map (·.1)) []:=by rw[hes];exact .nil
  have z2:ReadsAll h (es.toList.map (·.val)) (([]:List (PyData×PyData)).map (·.2)) []:=by rw[hes];exact .nil
  have rd:Reads h (.ref a) (.dict []) (a::[]++[]):=.dict ho hc.1 hdat z1 z2
  have am:ReadAtMost h (PyData.dict []).depth [a]:=fun b hb=>by
   obtain rfl:=K9.mp hb
   exact⟨_,_,rd,a8 _⟩
  refine⟨_,[a],rd,am,?_⟩
  simp only[PyData.depth,PyData.shown,PyData.shownKv_eq]
  exact ReprK.dict ho hc.1 hdat hsys (by simp) (ReprEntriesK.of_two es.toList _ _ (by rw[hes];exact .nil) (by rw[hes];exact .nil))
theorem a3j:∀ {xs:List V} {ds:List PyData} {vs:List Value},HOk P w H h->C4 H xs ds->o3 xs vs->PyData.showableAll ds=true->(∀t∈PyData.shownAll ds,t.length<=c9)->∃as bs,ReadsAll h vs ds as/\ReadAtMost h (PyData.depthAll ds) bs/\ReprAllK P w bs h (PyData.depthAll ds) vs (PyData.shownAll ds)
 | _,_,_,_,.nil,r,_,_=>by cases r;exact⟨[],[],.nil,(fun _ h=>nomatch h),by simp only[PyData.shownAll];exact .nil⟩
 | _,_,_,ok,.cons (d:=d) (ds:=ds) q qs,r,hs,hz=>by
  cases r with
  | cons r rs=>
  have hs':d.showable=true/\PyData.showableAll ds=true:=by simpa[PyData.showableAll]using hs
  obtain⟨a1,b1,r1,hb1,k1⟩:=b2o ok q r hs'.1 (hz _ (by simp only[PyData.shownAll];exact E3 ..))
  obtain⟨a2,b2,r2,hb2,k2⟩:=a3j ok qs rs hs'.2 (fun t ht=>hz t (by simp only[PyData.shownAll];exact l7 _ ht))
  refine⟨a1++a2,b1++b2,.cons r1 r2,?_,?_⟩
  ·intro b hm
   simp only[PyData.depthAll]
   rcases E5.mp hm with hm | hm
   ·obtain⟨d',as',r',hd'⟩:=hb1 b hm
    exact⟨d',as',r',j3 hd' (b3P _ _)⟩
   ·obtain⟨d',as',r',hd'⟩:=hb2 b hm
    exact⟨d',as',r',j3 hd' (b3I _ _)⟩
  ·simp only[PyData.depthAll,PyData.shownAll]
   exact .cons ((k1.more fun b hb=>Y5 _ hb).level_le (b3P _ _)) (k2.more_le (fun b hb=>j5 _ hb) (b3I _ _))
end
end
section
variable {k:Nat}
def a4q:List V->Hp->VK->Prop:=fun xs H Q=>∃a ys d ds,xs=[.ref a]/\H a=some (.lst ys)/\C4 H ys (d::ds)/\(PyData.list (d::ds)).showable=true/\(PyData.list (d::ds)).shown.length<=c9/\(PyData.list (d::ds)).depth<=40/\Q (.str (PyData.list (d::ds)).shown) H
theorem a5Q(hr:F0 k X.A):J4 X (.builtin "repr") a4q:=fun pins s σ H xs us Q I r h=>by
 obtain⟨a,ys,d,ds,rfl,ha,hp,hs,hz,hd,q⟩:=h
 obtain⟨u,rfl,ru⟩:=a2n r
 cases ru
 have hu:=hr.units
 have hi:X.A.in1.units=X.A.units+1:=rfl
 have hz':(listText (PyData.shownAll (d::ds))).length<=c9:=by simpa only[PyData.shown]using hz
 obtain⟨_,its,n,rv,hg⟩:=(show A7 X.prog X.w H s.heap a (.lst ys)from I.hok a _ ha)
 obtain⟨as,bs,q1,hb,hk⟩:=a3j I.hok hp rv (by simpa[PyData.showable]using hs) (fun t ht=>j3 (listText_mem_le ht) hz')
 have rd:Reads s.heap (.ref a) (.list (d::ds)) (a::as):=.list hg rfl rfl q1
 have hna:a∉bs:=not_mem_of_deeper rd (by simp only[PyData.depth];omega) hb
 have hT:s.TypeIs (.ref a) "list" := ⟨_,hg,rfl⟩
 cases its with
 | nil=>cases q1
 | cons y l=>
  refine Calls.call_function_entry PySem.F.kind_repr PySem.F.plain_repr PySem.F.entry_repr (PySem.F.args_repr1 _) ?_
  unfold Builtin.«repr»
  refine b9 (m:=oneArg "repr" _) (f6 ?_)
  refine b9 (wpAny_cRoomFor (by omega) ?_)
  refine b9 (wpAny_specialOf (name:=Str.ofString "__repr__") hT a4O.lookup ?_)
  refine b9 (m:=callSpecialIfBound? (.ref a) (Str.ofString "__repr__")) (wpAny_callSpecialIfBound?_slot (name:=Str.ofString "__repr__") hT a4O (call_list_reprK (g:=[]) hg rfl rfl hna (by simpa using hk.length_eq) (fun i y e=>hk.item i y (by simpa using e)) hr.gd (fun b _=>Clear.nil b) (by simp only[PyData.depth]at hd;omega) (fun _ _ e=>e) (fun h' u tk hkp=>?_) hz'))
  refine b9 (wpAny_isInstance (T := "str") (b:=true) rfl isSubtype_str_str (f6 ⟨_,rfl,?_⟩))
  refine⟨.str (PyData.list (d::ds)).shown,H,I.kept hkp,⟨u,by simp only[PyData.shown]⟩,q⟩
end
theorem N0(l:Addr)(es:Array Y7)(ep:Nat)(dd:Option Addr)(sl:Array (Option Value))(b:Str)(u:Tok) :
  Meets (Builtin.«dict.__eq__» ⟨[.ref l,.str b u],[]⟩) (fun _ R s=>s.heap.get? l=some { cls:=.type "dict",dict:=dd,data:=.dict es ep,slots:=sl }/\R (.ok (.ret .notImplemented)) s):=
 .of_wp fun prog w A R s h=>by obtain⟨hp,g,d,tk,os⟩:=s;obtain⟨hl,h⟩:=h;have f1:=a5V;wp_walk using wpAny_loadPart' hl;exact⟨_,rfl,h⟩
theorem M8(b:Str)(u:Tok)(l:Addr)(es:Array Y7)(ep:Nat)(dd:Option Addr)(sl:Array (Option Value)) :
  Meets (Builtin.«str.__eq__» ⟨[.str b u,.ref l],[]⟩) (fun _ R s=>s.heap.get? l=some { cls:=.type "dict",dict:=dd,data:=.dict es ep,slots:=sl }/\R (.ok (.ret .notImplemented)) s):=
 .of_wp fun prog w A R s h=>by obtain⟨hp,g,d,tk,os⟩:=s;obtain⟨hl,h⟩:=h;wp_walk using wpAny_loadPart' hl,wpAny_load hl;exact⟨_,rfl,h⟩
section
variable {A:u6}
theorem a4p{l:Addr}{o:Obj}{es:Array Y7}{ep:Nat}(b:Str)(u:Tok)(ho:s.heap.get? l=some o)(hc:o.cls=.type "dict")(hd:o.data=.dict es ep)(hu:A.units<cLine):SeqAt.RcAt A s (.ref l) (.str b u) false:=fun prog w E Q h=>by
 obtain⟨cls,dd,data,sl⟩:=o
 simp only at hc hd
 subst hc hd
 exact SeqAt.rc_eq_decline_or (k:=false) ⟨_,ho,rfl⟩ (typeIs_str s b u) (by decide) a5V a5W a3H
  (fun _ hq=>a1Q a5W ⟨_,ho,rfl⟩ a4S (a4P _ _) (N0 l es ep dd sl b u) ⟨ho,hq⟩)
  (fun _ hq=>a1Q a3H (typeIs_str s b u) a5X (a4T _ _) (M8 b u l es ep dd sl) ⟨ho,hq⟩)
  (fun _ hq=>wpAny_of_eq (rfl:isSame (.ref l) (.str b u)=pure false) hq) (.inr hu) h
theorem a4o{l:Addr}{o:Obj}{es:Array Y7}{ep:Nat}(b:Str)(u:Tok)(ho:s.heap.get? l=some o)(hc:o.cls=.type "dict")(hd:o.data=.dict es ep)(hu:A.units<cLine):SeqAt.RcAt A s (.str b u) (.ref l) false:=fun prog w E Q h=>by
 obtain⟨cls,dd,data,sl⟩:=o
 simp only at hc hd
 subst hc hd
 exact SeqAt.rc_eq_decline_or (k:=false) (typeIs_str s b u) ⟨_,ho,rfl⟩ (by decide) PySem.F.sub_dict_str a6E a2O
  (fun _ hq=>a1Q a6E (typeIs_str s b u) a5X (a4T _ _) (M8 b u l es ep dd sl) ⟨ho,hq⟩)
  (fun _ hq=>a1Q a2O ⟨_,ho,rfl⟩ a4S (a4P _ _) (N0 l es ep dd sl b u) ⟨ho,hq⟩)
  (fun _ hq=>wpAny_of_eq (rfl:isSame (.str b u) (.ref l)=pure false) hq) (.inr hu) h
theorem a4E{l:Addr}{o:Obj}{es:Array Y7}{ep:Nat}(b:Str)(u:Tok)(ho:s.heap.get? l=some o)(hc:o.cls=.type "dict")(hd:o.data=.dict es ep)(hu:A.units<cLine):SeqAt.EqAt A s (.str b u) (.ref l) false:=fun prog w E Q h=>by
 unfold eqBool
 refine U0 ?_
 refine wpAny_ite_split (fun hab=>absurd (eq_of_beq hab) nofun) (fun _=>?_)
 exact b9 (a4o b u ho hc hd hu prog w E _ (t9 h))
end
section
variable {k:Nat}
def b3x(H:Hp)(x:V):Prop:=∃a,x=.ref a/\((∃xs,H a=some (.tup xs))\/(∃xs,H a=some (.lst xs))\/∃kv,H a=some (.dK kv))
theorem a9z{pins:List (Addr×Obj)}{σ:St}{x:V}{v:Value}(I:Inv X pins σ H s)(A:u6)(hu:A.units<cLine)(h:b3x H x)(r:m3 x v)(b:Str)(t:Tok) :
  SeqAt.RcAt A s v (.str b t) false/\SeqAt.EqAt A s (.str b t) v false:=by
 obtain⟨a,rfl,h⟩:=h
 cases r
 rcases h with ⟨xs,h⟩ | ⟨xs,h⟩ | ⟨kv,h⟩
 ·obtain⟨its,r,ht,hz⟩:=I.tuple (SqT.of h)
  exact⟨SeqAt.RcAt.tuple_str b t ht hu,SeqAt.EqAt.str_tuple b t ht hu⟩
 ·obtain⟨its,r,ht,hz⟩:=I.list (SqL.of h)
  exact⟨SeqAt.RcAt.list_str b t ht.isList hu,SeqAt.EqAt.str_list b t ht.isList hu⟩
 ·obtain⟨_,hsys,vs,rel,o,es,ep,ho,hc,hdat,_⟩:=a9s I.hok h
  exact⟨a4p b t ho hc.1 hdat hu,a4E b t ho hc.1 hdat hu⟩
def a5t:R2:=fun x y H Q=>qEq x y H Q\/(b3x H x/\(∃z,y=.str z)/\Q (.bl false) H)
theorem b0O(hr:F0 k X.A):OpR X (d9 .Eq) a5t:=by
 refine(a9a hr.units0).or ?_
 intro pins s σ H x y v u Q I rx ry h
 obtain⟨hb,⟨z,rfl⟩,q⟩:=h
 obtain⟨t,rfl⟩:=ry
 exact(a9z I X.A hr.units0 hb rx z t).1 _ _ _ _ ⟨.bl false,H,I,rfl,q⟩
def a8K(K:Fg):R2:=fun x y H Q=>∃(p:Addr) (ss:List Str),y=.ref p/\SqT K H p (ss.map V.str)/\((C3 x=true/\Q (.bl (inV x (ss.map V.str))) H)\/(b3x H x/\Q (.bl false) H))
theorem a4h:∀ {ss:List Str} {us:List Value},o3 (ss.map V.str) us->∀u∈us,∃z t,u=.str z t
 | [],_,r,u,hu=>by cases r;cases hu
 | s::ss,_,r,u,hu=>by
  cases r with
  | cons r rs=>
  rcases g5.mp hu with rfl | hu
  ·obtain⟨t,rfl⟩:=r;exact⟨_,_,rfl⟩
  ·exact a4h rs u hu
theorem b0N(hr:F0 k X.A):OpR X (d9 .In) (a8K X.K):=by
 intro pins s σ H x y v u Q I rx ry h
 obtain⟨p,ss,rfl,hp,⟨hf,q⟩ | ⟨hb,q⟩⟩:=h
 ·refine a2y pins s σ H x (.ref p) v u Q I rx ry ⟨p,_,rfl,.inr hp,hf,?_,q⟩
  rw[u9]
  intro z hz
  obtain⟨_,_,rfl⟩:=F9.mp hz
  rfl
 ·cases ry
  obtain⟨its,r,pl,hz⟩:=I.tuple hp
  have hu:=hr.units
  have hi:X.A.in1.units=X.A.units+1:=rfl
  refine SeqAt.in_tupleAt (fun _=>false) pl (fun w hw=>?_) ⟨.bl false,H,I,?_,q⟩
  ·obtain⟨z,t,rfl⟩:=a4h r w (by simpa using hw)
   exact(a9z I X.A.in1 (by omega) hb rx z t).2
  ·show Value.bool _=_
   simp
def a0N:R2:=fun x y H Q=>∃a b xs ys,x=.ref a/\y=.ref b/\H a=some (.tup xs)/\H b=some (.tup ys)/\xs.length+ys.length<=c9/\∀p H',(∀c o,H c=some o->H' c=some o)->H' p=some (.tup (xs++ys))->Q (.ref p) H'
theorem a9b:OpR X (y4 .Add) a0N:=by
 intro pins s σ H x y v u Q I rx ry h
 obtain⟨a,b,xs,ys,rfl,rfl,ha,hb,hz,q⟩:=h
 cases rx
 cases ry
 obtain⟨its,r1,p1,_⟩:=I.tuple (SqT.of ha)
 obtain⟨its2,r2,p2,_⟩:=I.tuple (SqT.of hb)
 by_cases hx:xs=[]
 ·subst hx
  cases r1
  obtain⟨⟨cls,dd,data,sl⟩,ho,hc,n,hd⟩:=id p1
  obtain⟨⟨cls2,dd2,data2,sl2⟩,ho2,hc2,n2,hd2⟩:=id p2
  simp only at hc hd hc2 hd2
  subst hc hd hc2 hd2
  exact concat_meets ⟨_,ho,rfl⟩ ⟨_,ho2,rfl⟩ noFill_tuple_add seq_tuple_add U1 T5 (R8 _ _)
   (tuple_addW0 a b _ its2.toArray n n2 dd dd2 sl sl2 (by simp)) ⟨ho,ho2,⟨.ref b,H,I,rfl,q b H (fun _ _ e=>e) hb⟩⟩
 ·refine b0R pins s σ H (.ref a) (.ref b) _ _ Q I rfl rfl ⟨a,b,xs,ys,rfl,rfl,SqT.of ha,SqT.of hb,hx,hz,fun e=>?_,fun e p hp=>?_⟩
  ·subst e;exact q a H (fun _ _ e=>e) (by rw[b3M];exact ha)
  ·refine q p _ (fun c o e=>?_) j4
   rw[u0 (o0 e hp)];exact e
def a3l:V->Option Int->Option Int->Hp->VK->Prop:=fun x lo hi H Q=>∃a xs,x=.ref a/\H a=some (.tup xs)/\∀p H',(∀c o,H c=some o->H' c=some o)->H' p=some (.tup (Q6 xs lo hi))->Q (.ref p) H'
theorem a6P{xs:List V}{lo hi:Option Int}(h1:HT.sIx xs.length 0 lo=0)(h2:HT.sIx xs.length xs.length hi=xs.length):Q6 xs lo hi=xs:=by
 unfold Q6
 rw[h1,h2,a3N,a7F,v9 (a8 _)]
theorem a3d{prog:g7}{A:u6}{E:Value->b5->Prop}{t sl:Addr}{items:Array Value}{vl vu:Value}{lo hi:Option Int}{Q:Value->b5->Prop}(ht:IsTup s.heap t items)(hs:s.heap.IsSliceOf sl vl vu .none)(pl:a5Z vl lo)(pu:a5Z vu hi)
  (h1:HT.sIx items.size 0 lo=0) (h2:HT.sIx items.size items.size hi=items.size) (h:Q (.ref t) s):wpAny (model prog w) A (a0p (.ref t) (.ref sl)) Q E s:=by
 obtain⟨os,hos,hcs,hds⟩:=id hs
 have hTs:s.TypeIs (.ref sl) "slice" := ⟨os,hos,hcs⟩
 unfold a0p
 try with_reducible refine U0 ?_
 first | refine b9 (f6 ?_) | skip
 refine b9 (wpAny_sequenceKey ht.typeIs (by decide) ?_)
 refine b9 (b1T (name:=Str.ofString "__getitem__") ht.typeIs n5
  (wpAny_call_entry n5 ht.typeIs entry_tuple_getitem ?_ (args_tuple_getitem _ _)))
 show wpAny _ _ (Builtin.Tuple.tupleItemsOf (.ref t) >>= _) _ _ s
 refine b9 (tupleItemsOf_ ht ?_)
 refine b9 (b3Q hTs ?_)
 rw[if_pos (by decide)]
 refine b9 (HT.R5 hs pl pu ?_)
 show wpAny _ _ (if(((HT.sIx items.size 0 lo:Nat):Int) == 0&&(1:Int) == 1&&(HT.sIx items.size items.size hi - HT.sIx items.size 0 lo) == items.size)=true then _ else _) _ _ s
 rw[if_pos (by rw[h1,h2];simp)]
 refine b9 (m:=Builtin.Tuple.tupleIsExact _) ?_
 unfold Builtin.Tuple.tupleIsExact
 refine b9 (b3Q ht.typeIs (f6 ?_))
 rw[if_pos (by decide)]
 refine b9 (wpAny_rule ?_)
 first
  | exact f6 ⟨_,rfl,f6 h⟩
  | exact b9 (f6 (f6 ⟨_,rfl,f6 h⟩))
  | trace_state
theorem a9Z:SlR X a3l:=by
 intro pins s σ H x v vl vu lo hi sl Q I rx hs pl pu h
 obtain⟨a,xs,rfl,ha,q⟩:=h
 by_cases hw:HT.sIx xs.length 0 lo=0/\HT.sIx xs.length xs.length hi=xs.length
 ·cases rx
  obtain⟨its,r,ht,hz⟩:=I.tuple (SqT.of ha)
  have hlen:its.toArray.size=xs.length:=by rw[b6];exact r.length.symm
  refine⟨"tuple",_,n5.lookup,ht.typeIs,?_⟩
  refine a3d ht hs pl pu (by rw[hlen];exact hw.1) (by rw[hlen];exact hw.2) ⟨.ref a,H,I,rfl,q a H (fun _ _ e=>e) ?_⟩
  rw[a6P hw.1 hw.2];exact ha
 ·refine a8p pins s σ H (.ref a) v vl vu lo hi sl Q I rx hs pl pu ⟨a,xs,rfl,SqT.of ha,hw,fun p hp=>q p _ (fun c o e=>?_) j4⟩
  rw[u0 (o0 e hp)];exact e
end
def b3F(x:Str):It:=
 ⟨fun i _=>i<x.length,fun i H v H'=>∃p c,H p=none/\v=.ref p/\H'=upd H p (.tup [.int i,.str ⟨#[c]⟩])/\x.cps[i]? = some c,fun i _=>x.length=i⟩
theorem a2G{P:g7}{A:u6}(hh:A.handled=none)(it:Addr)(x:Str)(t:Tok) :
  Draws P w A it [it] x.cps.size (fun i v=>∃c u,x.cps[i]? = some c/\v=.str ⟨#[c]⟩ u) (fun i h=>h.IsStrIter it (F4 x) x t i):=by
 unfold F4
 split
 ·exact Draws.strAscii hh it x t
 ·exact Draws.strWide hh it x t
theorem a5c{P:g7}{K:Fg}{elts:List Expr}{x1}{tp:Pos}(x:Str)(t:Tok)(e it:Addr)(hne:e≠it):a7D P w K (.Tuple elts x1 tp) (b3F x) [e,it] e (fun i h=>(∃old,IsEnum h e it i old)/\h.IsStrIter it (F4 x) x t i) where
 mem:=by simp
 obj:=fun i h st b hb=>by
  obtain⟨⟨old,he⟩,o,e1,c,d⟩:=st
  rcases g5.mp hb with rfl | hb
  ·exact⟨_,he,fun v z=>by
    have z':Data.fields _=Data.cell v:=z
    cases z'⟩
  ·have:b=it:=by simpa using hb
   subst this
   exact⟨o,e1,fun v z=>by rw[d]at z;cases z⟩
 keep:=fun i h h' st k=>by
  obtain⟨⟨old,he⟩,o,ho,r⟩:=st
  exact⟨⟨old,k e (by simp) _ he⟩,o,k it (by simp) o ho,r⟩
 item:=by
  intro X hP hw hK hc i pins s σ H E I hf st hg
  subst hP hw hK
  obtain⟨⟨old,he⟩,hit⟩:=st
  have hi:i<x.cps.size:=hg
  have hh:X.A.in1.handled=none:=I.ok.hd hc
  refine wpAny_pyNext_enum_itemD (a2G hh it x t) he hit hi hne (by simpa using hne) fun u h1 tk ⟨c,uu,hx,hu⟩ ho hit1 hT hsz hk=>?_
  subst hu
  refine⟨_,rfl,?_⟩
  refine wpAny_letOwnedTupleGo_enum (s:={ s with heap:=h1,toks:=tk+1 }) ho fun h2 he2 hs2=>?_
  have hs2:Heap.SameBut e h1 h2:=hs2
  have le:e≠s.heap.objs.size:=o4 (c8 he)
  have li:it≠s.heap.objs.size:=by obtain⟨_,q,_⟩:=hit;exact o4 (c8 q)
  have fl:∀b∈[e,it],b≠s.heap.objs.size:=fun b hb=>by
   rcases g5.mp hb with rfl | hb
   ·exact le
   ·have:b=it:=by simpa using hb
    subst this;exact li
  have I2:=I.pairL (h':=h2) (t':=tk+1) (x:=.int i) (y:=.str ⟨#[c]⟩) (u:=.int i tk) (v:=.str ⟨#[c]⟩ uu) hf fl ⟨_,rfl⟩ ⟨_,rfl⟩ ((hs2.2 _ (Ne.symm le)).trans hT) fun b o hb q=>by
   have n1:b≠e:=fun z=>hb (by simp[z])
   have n2:b≠it:=fun z=>hb (by simp[z])
   exact(hs2.2 b n1).trans (hk b o n1 n2 q)
  obtain⟨oi,hi1,ri⟩:=hit1
  refine⟨.ref s.heap.objs.size,_,I2,rfl,⟨_,c,I.fresh,rfl,rfl,hx⟩,⟨⟨_,by simpa using he2⟩,oi,(hs2.2 it (Ne.symm hne)).trans hi1,ri⟩,fun b hb=>?_⟩
  rw[u0 (fl b hb)];exact(hf b hb).1
 done:=by
  intro X hP hw hK hc i pins s σ H E I hf st hg
  subst hP hw hK
  obtain⟨⟨old,he⟩,hit⟩:=st
  have hi:x.cps.size=i:=hg
  obtain⟨f0,f1,f2,f3,f4,f5⟩:=hf it (by simp)
  have hh:X.A.in1.handled=none:=I.ok.hd hc
  exact wpAny_pyNext_enum_endD (a2G hh it x t) he (by rw[hi];exact hit) fun h' eb=>⟨rfl,I.turned (t':=s.toks) (fun b o hb e=>eb b o hb e) f0 f1 f3 f4 f5⟩
 self:=fun _ _ _ _ _ st h=>by
  obtain⟨⟨old,he⟩,_⟩:=st
  exact wpAny_pyIter_enum he h
def a3v(ta:TA):TI:=fun σ H R=>ta σ H fun vs H1=>∃x,vs=[.str x]/\R (b3F x) H1
theorem a8R{elts:List Expr}{x1}{tp:Pos}{a:Expr}{ta:TA}{p pos:Pos}(hg:Gl X "enumerate")(hm:X.mg "enumerate" = none)(ha:PA X [a] ta)(hs:c4 [a] X.env=[(false,eval a X.env)]:=by rfl) :
  PI X (.Tuple elts x1 tp) (.Call (.Name "enumerate" p) [a] [] pos) (a3v ta):=by
 intro pins s σ H R I h
 refine Call_ (a1I I hg hm boot_enumerate (N3 (thn (ha pos pins s σ H _ I h) fun us s1 ⟨vs,H1,I1,r1,q1⟩=>?_) hs rfl))
 obtain⟨x,e,q⟩:=q1
 subst e
 cases r1 with
 | cons r rr=>
  cases rr
  obtain⟨t,rfl⟩:=r
  refine call_enumerate_str fun h' he hit hsz hk=>?_
  have I2:Inv X pins σ H1 { s1 with heap:=h' }:=I1.kept (t':=s1.toks) hk
  refine wpAny_pyIter_enum he ⟨_,[s1.heap.objs.size+1,s1.heap.objs.size],_,_,H1,rfl,I2,a5c x t (s1.heap.objs.size+1) s1.heap.objs.size (Nat.succ_ne_self _),⟨⟨_,he⟩,hit⟩,fun c hc=>?_,q⟩
  rcases g5.mp hc with rfl | hc
  ·exact I1.fpOk (by omega) (I1.hok.fresh (by omega))
  ·have:c=s1.heap.objs.size:=by simpa using hc
   subst this
   exact I1.fpOk (a8 _) (I1.hok.fresh (a8 _))
end L2
namespace Y
open PySem PySem.Spec PyProof.Rows L2
structure y'E(X:Cx)(e:Expr)(t:TE):Prop where h:PE X e t
structure y'A(X:Cx)(e:List Expr)(t:TA):Prop where h:PA X e t
structure y'S(X:Cx)(e:Stmt)(t:TS):Prop where h:PS X e t
structure a2Z(X:Cx)(e:List Stmt)(t:TS):Prop where h:PSs X e t
structure y'T(X:Cx)(e:Expr)(t:TT):Prop where h:PT X e t
structure y'W(X:Cx)(e:Expr)(t:TT):Prop where h:PW X e t
structure b1X(X:Cx)(e:List Expr)(t:TT):Prop where h:PTs X e t
structure a6O(X:Cx)(tg e:Expr)(t:TI):Prop where h:PI X tg e t
structure y'G(X:Cx)(e:Expr)(t:TG):Prop where h:PG X e t
structure a9R(X:Cx)(e:List Expr)(t:TGs):Prop where h:PGs X e t
structure y'O(X:Cx)(e:Option Expr)(t:TO):Prop where h:PO X e t
structure C8(X:Cx)(f:Value->Value->Sem Value)(r:R2):Prop where h:OpR X f r
structure b1E(X:Cx)(f:Value->Sem Value)(r:V->Hp->VK->Prop):Prop where h:UnR X f r
structure P6(X:Cx)(f:Value)(r:List V->Hp->VK->Prop):Prop where h:J4 X f r
structure a6b(X:Cx)(id:String)(r:V->List V->Hp->VK->Prop):Prop where h:MtR X id r
structure b1F(X:Cx)(r:R2):Prop where h:IxR X r
structure a6a(X:Cx)(r:V->Option Int->Option Int->Hp->VK->Prop):Prop where h:SlR X r
structure a5a(X:Cx)(t:a2b):Prop where h:a9C X t
structure a8g(X:Cx)(t:V->V->Hp->VK->Prop):Prop where h:b3C X t
structure b1G(X:Cx)(op:a7J)(t:TIp):Prop where h:PIp X op t
section
variable {X:Cx}{st:Stmt}{W7:List Stmt}{t u:TS}{e a b c o i:Expr}{es more:List Expr}{te ta tb tc to ti:TE}{tt tu:TT}{tr:TA}{pos p pos':Pos}{x:Str}
theorem g9:a2Z X [] A0:=⟨L2.b0t⟩
theorem a9(h1:y'S X st t)(h2:a2Z X W7 u):a2Z X (st::W7) (m8 t u):=⟨L2.a8N h1.h h2.h⟩
theorem b8(h1:y'S X st t):a2Z X [st] t:=⟨L2.b0s h1.h⟩
theorem a7Z{n:Nat}(hN:X.N.Nodup)(hi:X.N[n]? = some x)(hx:Loc X.env.scope x)(he:y'E X e te)(hs:a7S e (some (.Name x pos')) pos.line X.env=pure false:=by rfl)(hf:X.fn x=true\/X.env.scope.names.lookup x=some .local:=by first | exact .inl rfl | exact .inr rfl) :
  y'S X (.Assign [.Name x pos'] e pos) (z8 te (l4 n)):=⟨L2.b2z hN hi hx he.h hs hf⟩
theorem a1i{tg:Expr}{g:TG}(he:y'E X e te)(hg:y'G X tg g)(hs:swapsWithSole [tg] e pos.line X.env=pure false:=by rfl)(hw:swappedStores [tg] e X.env=pure none:=by rfl)
  (h1:(L1 [tg] X.env).map (·.2)=[b1D tg X.env]:=by rfl):y'S X (.Assign [tg] e pos) (z8 te g):=⟨L2.b2C he.h hg.h hs hw h1⟩
theorem a6J{tget:V->V->Hp->VK->Prop}{tip:TIp}{tset:a2b}{op:a7J}(ho:y'E X o to)(hi:y'E X i ti)(hg:a8g X tget)(he:y'E X e te)(hp:b1G X op tip)(hs:a5a X tset)
  (ha:∀ov iv new,augStore i ov iv new=(do a1g [new,ov,iv] (b5a ov iv new);release [new,ov,iv] [];pure .next):=by intros;rfl):y'S X (.AugAssign (.Subscript o i p) op e pos) (a6i to ti te tget tip tset):=⟨L2.b0v ho.h hi.h hg.h he.h hp.h hs.h ha⟩
theorem l9{la lb:List Stmt}(hc:y'T X c tt)(ha:a2Z X la t)(hb:a2Z X lb u):y'S X (.If c la lb pos) (F6 tt t u):=⟨L2.b4w hc.h ha.h hb.h⟩
theorem d7(he:y'E X e te):y'S X (.Return (some e) pos) (z6 te):=⟨L2.b2A he.h⟩
theorem a2g(he:y'E X e te)(hs:a7S e none pos.line X.env=pure false:=by rfl):y'S X (.Expr e pos) (a4g te):=⟨L2.b0u he.h hs⟩
theorem Y8{tg:Expr}{wi:TI}{g:TG}{body:List Stmt}(hp:PassesOwn (model X.prog X.w) X.A X.env X.xe)(hc:X.calm=true)(hi:a6O X tg e wi)(hg:y'G X tg g)(hb:a2Z X body t)
  (hs:∀x,Y6 e X.env x=pure x:=by intro _;rfl):y'S X (.For tg e body [] pos) (a5f wi g t):=⟨L2.b2B hp hc hi.h hg.h hb.h hs⟩
theorem a6M{n:Nat}(hN:X.N.Nodup)(hi:X.N[n]? = some x)(hx:Loc X.env.scope x)(hf:X.fn x=true\/X.env.scope.names.lookup x=some .local:=by first | exact .inl rfl | exact .inr rfl):y'G X (.Name x pos) (l4 n):=⟨L2.b0A hN hi hx hf⟩
theorem a6L:a9R X [] b1k:=⟨L2.b0z⟩
theorem a1j{g:TG}{gs:TGs}(h1:y'G X e g)(h2:a9R X es gs)(h:(L1 (e::es) X.env).map (·.2)=b1D e X.env::(L1 es X.env).map (·.2):=by rfl):a9R X (e::es) (a2D g gs):=⟨L2.a8S h1.h h2.h h⟩
theorem a8a{k n:Nat}{gs:TGs}(hc:X.calm=true)(h:a9R X es gs)(hn:(L1 es X.env).length=n:=by rfl)(hst:(L1 es X.env).findIdx? (·.1)=none:=by rfl):y'G X (.Tuple es k pos) (b1j X.K n gs):=⟨L2.b2E hc h.h hn hst⟩
theorem a1k{ts:a2b}(ho:y'E X o to)(hi:y'E X i ti)(hs:a5a X ts)
  (ha:∀v,b1D (.Subscript o i pos) X.env v=(do
   let ov <-a1g [v] (eval o X.env)
   let iv <-a1g [v,ov] (eval i X.env)
   standAt pos
   a1g [v,ov,iv] (b5a ov iv v)
   release [v,ov,iv] []):=by intro _;rfl):y'G X (.Subscript o i pos) (a7t to ti ts):=⟨L2.b2F ho.h hi.h hs.h ha⟩
theorem U6{tg:Expr}(hg:Gl X "range")(hm:X.mg "range" = none)(ha:y'A X [a] tr)(hs:c4 [a] X.env=[(false,eval a X.env)]:=by rfl):a6O X tg (.Call (.Name "range" p) [a] [] pos) (a2C tr):=⟨L2.a7b hg hm ha.h hs⟩
theorem a2h{tg:Expr}(h:y'E X e te):a6O X tg e (a4D X.K te):=⟨L2.b0y h.h⟩
theorem J7:y'A X [] d4:=⟨L2.b2Q⟩
theorem f9(ha:y'E X e te)(hr:y'A X es tr)(hs:c4 (e::es) X.env=(false,eval e X.env)::c4 es X.env:=by rfl):y'A X (e::es) (a6 te tr):=⟨L2.b0I ha.h hr.h hs⟩
theorem a0s:b1X X [] a0L:=⟨L2.b0q⟩
theorem a6I(h:y'T X e tt):b1X X [e] tt:=⟨L2.b0p h.h⟩
theorem V6{elt iter:Expr}{px:Pos}{ifs:List Expr}{scope:Scope}{wi:TI}(hc:T4 X.N X.env.scope scope x)(hcalm:X.calm=true)(hi:a6O X (.Name x px) iter wi)
  (ht:∀cl C fp s3 H3,b1X (D9 X scope cl C x fp s3 H3) ifs tt) (he:∀cl C fp s3 H3,y'E (D9 X scope cl C x fp s3 H3) elt te)
  (hs:∀x,Y6 iter X.env x=pure x:=by intro _;rfl):y'E X (.ListComp elt [⟨.Name x px,iter,ifs,0⟩] scope pos) (a0M wi tt te):=
 ⟨L2.b0E hc hcalm hi.h (fun cl C fp s3 H3=>(ht cl C fp s3 H3).h) (fun cl C fp s3 H3=>(he cl C fp s3 H3).h) hs⟩
theorem a7{n:Int}{j}:y'E X (.Constant (.int n) j pos) (tC (.int n)):=⟨L2.a8U⟩
theorem D0{v:Bool}{j}:y'E X (.Constant (.bool v) j pos) (tC (.bl v)):=⟨L2.b4B⟩
theorem a3U{j}:y'E X (.Constant .none j pos) (tC .non):=⟨L2.b2N⟩
theorem b3{j}:y'E X (.Constant (.str x) j pos) (tC (.str x)):=⟨L2.b2I⟩
theorem b7(n:Nat)(hN:X.N[n]? = some x:=by rfl)(hv:Vis X.env.scope x:=by first | exact Or.inl rfl | exact Or.inr (Or.inl rfl) | exact Or.inr (Or.inr rfl))(hd:(x == ("__debug__" : Str))=false:=by decide)
  (hcd:(x == ("__classdict__" : Str))=false:=by decide):y'E X (.Name x pos) (b4 n):=⟨L2.b2G hN hv hd hcd⟩
theorem y8{v:V}{u:Value}(hg:Gl X x)(hm:X.mg x=none)(hv:J5 x=some u)(r:m3 v u)(hn:x ≠ "__name__" := by decide)(hd:(x == ("__debug__" : Str))=false:=by decide):y'E X (.Name x pos) (tC v):=⟨L2.b0H hg hm hv r hn hd⟩
theorem L8{v:V}(hm:∃u,X.mg x=some u/\m3 v u)(hg:Gl X x)(hd:(x == ("__debug__" : Str))=false:=by decide):y'E X (.Name x pos) (tC v):=by
 obtain⟨u,h1,h2⟩:=hm
 exact⟨L2.b0B hg h1 h2 hd⟩
theorem g6{op:a7J}{r:R2}(ho:C8 X (y4 op) r)(ha:y'E X a ta)(hb:y'E X b tb):y'E X (.BinOp a op b pos) (tOp r ta tb):=⟨L2.b4y ho.h ha.h hb.h⟩
theorem a9M{op:UnaryOp}{r:V->Hp->VK->Prop}(ho:b1E X (unaryOp op) r)(ha:y'E X a ta):y'E X (.UnaryOp op a pos) (tUn r ta):=⟨L2.b1N ho.h ha.h⟩
theorem a3T(ha:y'E X a ta):y'E X (.UnaryOp .Not a pos) (a2r ta):=⟨L2.b2M ha.h⟩
theorem O7{op:CmpOp}{r:R2}(ho:C8 X (d9 op) r)(ha:y'E X a ta)(hb:y'E X b tb)(hm:D6 op b=false):y'E X (.Compare a [op] [b] pos) (tOp r ta tb):=⟨L2.b0F ho.h ha.h hb.h hm⟩
theorem I0{op:CmpOp}{r:R2}(ho:C8 X (d9 op) r)(ha:y'E X a ta)(hb:y'E X b tb)(hm:D6 op b=false):y'T X (.Compare a [op] [b] pos) (y9 (tOp r ta tb)):=⟨L2.b0r ho.h ha.h hb.h hm⟩
theorem X5{op op':CmpOp}{r r':R2}(ho:C8 X (d9 op) r)(ho':C8 X (d9 op') r')(ha:y'E X a ta)(hb:y'E X b tb)(hc:y'E X c tc)
  (hm:b3U [op,op'] [b,c]=false:=by with_unfolding_all rfl):y'E X (.Compare a [op,op'] [b,c] pos) (S0 r r' ta tb tc):=⟨L2.a8W ho.h ho'.h ha.h hb.h hc.h hm⟩
theorem a4W{op op':CmpOp}{r r':R2}(ho:C8 X (d9 op) r)(ho':C8 X (d9 op') r')(ha:y'E X a ta)(hb:y'E X b tb)(hc:y'E X c tc)
  (hm:b3U [op,op'] [b,c]=false:=by with_unfolding_all rfl):y'T X (.Compare a [op,op'] [b,c] pos) (y9 (S0 r r' ta tb tc)):=⟨L2.a8M ho.h ho'.h ha.h hb.h hc.h hm⟩
theorem z4{op}(h:y'E X a te):y'E X (.BoolOp op [a] pos) te:=⟨L2.b2L h.h⟩
theorem w4(ha:y'E X a ta)(hb:y'E X (.BoolOp .And (b::more) pos) tb):y'E X (.BoolOp .And (a::b::more) pos) (D7 ta tb):=⟨L2.b2P ha.h hb.h⟩
theorem a9N(ha:y'E X a ta)(hb:y'E X (.BoolOp .Or (b::more) pos) tb):y'E X (.BoolOp .Or (a::b::more) pos) (a9W ta tb):=⟨L2.b4x ha.h hb.h⟩
theorem y7{k}(h:y'A X es tr):y'E X (.Tuple es k pos) (R1 tr):=⟨L2.b2H h.h⟩
theorem z5(h:y'A X es tr):y'E X (.List es pos) (R3 tr):=⟨L2.b2O h.h⟩
theorem J1:y'O X none J8:=⟨L2.b0x⟩
theorem J0(h:y'E X e te):y'O X (some e) (V1 te):=⟨L2.a6s h.h⟩
theorem E7{lo hi:Option Expr}{tl th:TO}{r:V->Option Int->Option Int->Hp->VK->Prop}(hr:a6a X r)(he:y'E X e te)(hl:y'O X lo tl)(hu:y'O X hi th):y'E X (.Subscript e (.Slice lo hi none p) pos) (tSl r te tl th):=⟨L2.a8T hr.h he.h hl.h hu.h⟩
theorem a9O{r:R2}(hr:b1F X r)(ha:y'E X a ta)(hb:y'E X b tb)(hs:a3F b):y'E X (.Subscript a b pos) (tOp r ta tb):=⟨L2.b4z hr.h ha.h hb.h hs⟩
theorem a8b{p3 p4:Pos}{j}(he:y'E X e te):y'E X (.Subscript e (.Slice none none (some (.UnaryOp .USub (.Constant (.int 1) j p3) p4)) p) pos) (a9V te):=⟨L2.b2J he.h⟩
theorem a8c{k j:Nat}{ps:List Str}{sp:Sp}(C:w6 X.prog X.w X.K X.mg X.base k x ps sp)(hr:F0 j X.A)(hk:k<=j)(hg:Gl X x)(ha:y'A X (e::es) tr)
  (hdb:(x == ("__debug__" : Str))=false:=by decide) (he:c4 (e::es) X.env=(false,eval e X.env)::c4 es X.env:=by rfl) (hpl:(Q9 pos (c4 es X.env)).any (·.1)=false:=by rfl) :
  y'E X (.Call (.Name x p) (e::es) [] pos) (h9 sp [] E0 tr):=⟨L2.b2K C hr hk hg ha.h hdb he hpl⟩
theorem d6{id:String}{r:List V->Hp->VK->Prop}(hc:P6 X (.builtin id) r)(hg:Gl X x)(hm:X.mg x=none)(hv:J5 x=some (.builtin id))(ha:y'A X (e::es) tr)(hn:x ≠ "__name__" := by decide)(hdb:(x == ("__debug__" : Str))=false:=by decide)
  (he:c4 (e::es) X.env=(false,eval e X.env)::c4 es X.env:=by rfl) (hpl:(Q9 pos (c4 es X.env)).any (·.1)=false:=by rfl):y'E X (.Call (.Name x p) (e::es) [] pos) (tCB r tr):=⟨L2.a8X hc.h hg hm hv ha.h hn hdb he hpl⟩
theorem a3V{id:String}{r:List V->Hp->VK->Prop}(hc:P6 X (.type id) r)(hg:Gl X x)(hm:X.mg x=none)(hv:J5 x=some (.type id))(ha:y'A X (e::es) tr)(hn:x ≠ "__name__" := by decide)(hdb:(x == ("__debug__" : Str))=false:=by decide)
  (he:c4 (e::es) X.env=(false,eval e X.env)::c4 es X.env:=by rfl) (hpl:(Q9 pos (c4 es X.env)).any (·.1)=false:=by rfl):y'E X (.Call (.Name x p) (e::es) [] pos) (tCB r tr):=⟨L2.a7c hc.h hg hm hv ha.h hn hdb he hpl⟩
theorem a2V{ty id:String}{name:Str}{r:V->List V->Hp->VK->Prop}{apos:Pos}(pa:PlainAttrs ty)(slot:Slot ty name id)(hty:typeOf (.builtin id)=pure (.type "method_descriptor"))(hm:a6b X id r)(ho:y'E X o to)(ha:y'A X (e::es) tr)
  (hbase:a3Q o name X.env (eval o X.env)=eval o X.env:=by rfl)
  (hfew:((Q9 pos (c4 (e::es) X.env)).all (fun x => !x.1)&&(backToKw pos (a7U [] X.env)).all (fun x=>x.1.isSome)
   && decide ((e::es).length+([]:List a2T).length+(if([]:List a2T).isEmpty then 0 else 1)<30))=true:=by rfl)
  (hline:(apos.endLine == pos.line)=true:=by rfl) (hs:c4 (e::es) X.env=(false,eval e X.env)::c4 es X.env:=by rfl) (hplain:(Q9 pos (c4 es X.env)).any (·.1)=false:=by rfl) :
  y'E X (.Call (.Attribute o name apos) (e::es) [] pos) (tBM X.K ty r to tr):=⟨L2.b4A pa slot hty hm.h ho.h ha.h hbase hfew hline hs hplain⟩
theorem A5(ha:y'T X a tt):y'T X (.UnaryOp .Not a pos) (V2 tt):=⟨L2.b2x ha.h⟩
theorem a0r(ha:y'T X a tt):y'W X (.BoolOp .And [a] pos) tt:=⟨L2.b0o ha.h⟩
theorem P1(ha:y'T X a tt):y'W X (.BoolOp .Or [a] pos) tt:=⟨L2.b2u ha.h⟩
theorem a1h(ha:y'T X a tt)(hb:y'W X (.BoolOp .And (b::more) pos) tu):y'W X (.BoolOp .And (a::b::more) pos) (a6S tt tu):=⟨L2.b2v ha.h hb.h⟩
theorem O3(ha:y'T X a tt)(hb:y'W X (.BoolOp .Or (b::more) pos) tu):y'W X (.BoolOp .Or (a::b::more) pos) (tOr tt tu):=⟨L2.b4v ha.h hb.h⟩
theorem M5(h:y'W X e tt):y'T X e tt:=⟨PW.pt h.h⟩
theorem A4(h:y'E X e te)(he:∀whole,isTrue e X.env whole=(do let v <-whole;standAt e.pos;a1g [v] (truthy v)):=by intro _;rfl):y'T X e (tB te):=⟨L2.b2w h.h he⟩
theorem u7:C8 X (y4 .Add) O4:=⟨L2.b0Q⟩
theorem a0t:C8 X (y4 .Sub) a8H:=⟨L2.b0J⟩
theorem O8:C8 X (y4 .Mult) a4r:=⟨L2.b0L⟩
theorem J2:C8 X (y4 .Mod) a1W:=⟨L2.b0M⟩
theorem a2k:C8 X (y4 .FloorDiv) b0n:=⟨L2.b0P⟩
theorem a0u:C8 X (y4 .Pow) a8J:=⟨L2.b0K⟩
theorem v0{k:Nat}(hr:F0 k X.A):C8 X (d9 .Eq) qEq:=⟨L2.a9a hr.units0⟩
theorem a1o{k:Nat}(hr:F0 k X.A):C8 X (d9 .NotEq) qNe:=⟨L2.b2S hr.units0⟩
theorem a2Y:P6 X (.type "list") a2w:=⟨L2.a5R⟩
theorem Y9:C8 X (d9 .Lt) qLt:=⟨L2.b2T⟩
theorem R0:C8 X (d9 .LtE) qLe:=⟨L2.b2U⟩
theorem a3W:C8 X (d9 .Gt) qGt:=⟨L2.b2W⟩
theorem a8e:C8 X (d9 .GtE) qGe:=⟨L2.b2X⟩
theorem a1p:C8 X (d9 .In) (qIn false):=⟨L2.b2V⟩
theorem U8:C8 X (d9 .NotIn) (qIn true):=⟨L2.a7e⟩
theorem a4Y:y'E X (.Dict [] [] pos) a5g:=⟨L2.a8V⟩
theorem a2i{k:Nat}(hr:F0 k X.A)(ho:y'E X o to)(hi:y'E X i ti)(hs:b3E i):y'E X (.Subscript o i pos) (a6h to ti):=⟨L2.b0D (b1P hr) ho.h hi.h hs⟩
theorem a3S{tg:Expr}(h:y'E X e te):a6O X tg e (a7r te):=⟨L2.b2D h.h⟩
theorem a3Y(hc:X.calm=true):P6 X (.builtin "all") a6Z:=⟨L2.a7A hc⟩
theorem a7Y:b1E X (unaryOp .USub) (rU fun i=>.int (-i)):=⟨L2.a8i⟩
theorem b1W:b1F X qIx:=⟨L2.b5r⟩
theorem b1V:a6a X qSl:=⟨L2.b5d⟩
theorem a6H:a6a X (b2p X.K):=⟨L2.a6j⟩
theorem a0W:a5a X a3m:=⟨L2.b3Y⟩
theorem a9P:a8g X a6Y:=⟨L2.b4N⟩
theorem a8f:b1G X .Add (ipI fun i j=>i+j):=⟨L2.b3s⟩
theorem k9:P6 X (.builtin "len") L3:=⟨L2.a7y⟩
theorem a3Z:P6 X (.builtin "abs") a8L:=⟨L2.a7B⟩
theorem o7:P6 X (.builtin "isinstance") R7:=⟨L2.a7z⟩
theorem a2X:a6b X "list.append" W4:=⟨L2.a5G⟩
theorem a4Z:a6b X "str.join" a2x:=⟨L2.a9i⟩
end
theorem a3X{P:g7}{w:World}{K:Fg}{mg:Str->Option Value}{base:Heap}{x qual:Str}{st:Stmt}{f:Addr}{fd:E4}{N ps:List Str}{k:Nat}{sp:Sp}(F:Fun K x qual st f fd)(y'S:n9 N ps (d8 st))(len:∀vs H Q y'E,sp vs H Q y'E->vs.length=ps.length)
  (hbody:∀(cdv:Value) (y'A:u6) (outer:List Env) (s:b5) (H:Hp) (vs:List V) (Q:VK) (y'E:XK),F0 k (y'A.deeper (a3P qual (d8 st) s.heap.objs.size f cdv))->sp vs H Q y'E ->
   ∃t,a2Z (a4I CX0 P w K mg base N qual (d8 st) f cdv y'A outer s H y'E).nox (K7 st) t/\t { nx:=fun _ H'=>Q .non H',rt:=Q } (Z3 N vs) H):D8 P w K mg base CX0 (k+1) f fd ps sp:=
 F.ok y'S len fun cdv y'A outer s H vs Q y'E hr h=>let⟨t,a,b⟩:=hbody cdv y'A outer s H vs Q y'E hr h; ⟨t,a.h,b⟩
end Y
namespace Y
open PySem PySem.Spec PyProof.Rows L2
section
variable {X:Cx}{st:Stmt}{W7:List Stmt}{t u:TS}{e a b c o i:Expr}{es more:List Expr}{te ta tb tc to ti:TE}{tt tu:TT}{tr:TA}{pos p pos':Pos}{x y:Str}
structure a9Q(X:Cx)(pos:Pos)(ks:List (Option Expr))(vs:List Expr)(trs:List (TE×TE)):Prop where h:PPs X pos ks vs trs
theorem a6K:a9Q X pos [] [] []:=⟨L2.b0w⟩
theorem L7{ks:List (Option Expr)}{vs:List Expr}{trs:List (TE×TE)}(hk:y'E X a ta)(hv:y'E X b tb)(hr:a9Q X pos ks vs trs):a9Q X pos (some a::ks) (b::vs) ((ta,tb)::trs):=⟨L2.a8O hk.h hv.h hr.h⟩
theorem a6N{keys:List (Option Expr)}{values:List Expr}{trs:List (TE×TE)}(h:a9Q X pos keys values trs)(hall:keys.all (·.isSome)=true:=by rfl)(hl:keys.length=values.length:=by rfl)(h0:keys≠[]:=by intro z;cases z)
  (h15:keys.length<=15:=by decide):y'E X (.Dict keys values pos) (a6g trs):=⟨L2.b0C h.h hall hl h0 h15⟩
theorem a3R{k:Nat}(hr:F0 k X.A)(hi:y'E X i ti)(ho:y'E X o to)(h1:D6 .NotIn o=false):y'T X (.Compare i [.NotIn] [o] pos) (tB (a3a ti to)):=⟨L2.b2y (L2.a7d (b1P hr) hi.h ho.h) h1⟩
theorem a2W:a6b X "list.extend" W3:=⟨L2.a5F⟩
end
end Y
namespace Y
open PySem PySem.Spec PyProof.Rows L2
end Y
namespace Y
open PySem PySem.Spec PyProof.Rows L2
end Y
namespace Y
open PySem PySem.Spec PyProof.Rows L2
end Y
namespace Y
open PySem PySem.Spec PyProof.Rows L2
end Y
namespace Y
open PySem PySem.Spec PyProof.Rows L2
end Y
namespace Y
open PySem PySem.Spec PyProof.Rows L2
section
variable {X:Cx}{e0 e1 e2 e3 e4:Expr}{t0 t1 t2 t3 t4:TE}
theorem i9(h0:y'E X e0 t0)(s0:c4 [e0] X.env=(false,eval e0 X.env)::c4 [] X.env:=by rfl):y'A X [e0] (a6 t0 d4):=(f9 h0 J7 s0)
theorem l8(h0:y'E X e0 t0)(h1:y'E X e1 t1)(s0:c4 [e0,e1] X.env=(false,eval e0 X.env)::c4 [e1] X.env:=by rfl)(s1:c4 [e1] X.env=(false,eval e1 X.env)::c4 [] X.env:=by rfl):y'A X [e0,e1] (a6 t0 (a6 t1 d4)):=(f9 h0 (f9 h1 J7 s1) s0)
theorem a1n(h0:y'E X e0 t0)(h1:y'E X e1 t1)(h2:y'E X e2 t2)(s0:c4 [e0,e1,e2] X.env=(false,eval e0 X.env)::c4 [e1,e2] X.env:=by rfl)(s1:c4 [e1,e2] X.env=(false,eval e1 X.env)::c4 [e2] X.env:=by rfl)(s2:c4 [e2] X.env=(false,eval e2 X.env)::c4 [] X.env:=by rfl):y'A X [e0,e1,e2] (a6 t0 (a6 t1 (a6 t2 d4))):=(f9 h0 (f9 h1 (f9 h2 J7 s2) s1) s0)
theorem a8d(h0:y'E X e0 t0)(h1:y'E X e1 t1)(h2:y'E X e2 t2)(h3:y'E X e3 t3)(s0:c4 [e0,e1,e2,e3] X.env=(false,eval e0 X.env)::c4 [e1,e2,e3] X.env:=by rfl)(s1:c4 [e1,e2,e3] X.env=(false,eval e1 X.env)::c4 [e2,e3] X.env:=by rfl)(s2:c4 [e2,e3] X.env=(false,eval e2 X.env)::c4 [e3] X.env:=by rfl)(s3:c4 [e3] X.env=(false,eval e3 X.env)::c4 [] X.env:=by rfl):y'A X [e0,e1,e2,e3] (a6 t0 (a6 t1 (a6 t2 (a6 t3 d4)))):=(f9 h0 (f9 h1 (f9 h2 (f9 h3 J7 s3) s2) s1) s0)
theorem a1m(h0:y'E X e0 t0)(h1:y'E X e1 t1)(h2:y'E X e2 t2)(h3:y'E X e3 t3)(h4:y'E X e4 t4)(s0:c4 [e0,e1,e2,e3,e4] X.env=(false,eval e0 X.env)::c4 [e1,e2,e3,e4] X.env:=by rfl)(s1:c4 [e1,e2,e3,e4] X.env=(false,eval e1 X.env)::c4 [e2,e3,e4] X.env:=by rfl)(s2:c4 [e2,e3,e4] X.env=(false,eval e2 X.env)::c4 [e3,e4] X.env:=by rfl)(s3:c4 [e3,e4] X.env=(false,eval e3 X.env)::c4 [e4] X.env:=by rfl)(s4:c4 [e4] X.env=(false,eval e4 X.env)::c4 [] X.env:=by rfl):y'A X [e0,e1,e2,e3,e4] (a6 t0 (a6 t1 (a6 t2 (a6 t3 (a6 t4 d4))))):=(f9 h0 (f9 h1 (f9 h2 (f9 h3 (f9 h4 J7 s4) s3) s2) s1) s0)
end
end Y
local macro_rules | `(tactic| walk_at "sc") => `(tactic| exact ⟨rfl, rfl, rfl, by decide +kernel, rfl, by decide +kernel, by decide +kernel⟩)
namespace Y
open PySem PySem.Spec PyProof.Rows L2
section
variable {X:Cx}{e a b o:Expr}{es:List Expr}{te ta tb to:TE}{tr:TA}{pos p pos':Pos}{x:Str}
theorem l6(n:Nat)(hN:X.N.Nodup)(he:y'E X e te)(hi:X.N[n]? = some x:=by rfl)(hx:Loc X.env.scope x:=by first | exact Or.inl rfl | exact Or.inr rfl)(hs:a7S e (some (.Name x pos')) pos.line X.env=pure false:=by rfl)(hf:X.fn x=true\/X.env.scope.names.lookup x=some .local:=by first | exact .inl rfl | exact .inr rfl) :
  y'S X (.Assign [.Name x pos'] e pos) (z8 te (l4 n)):=a7Z hN hi hx he hs hf
theorem a1l(n:Nat)(hN:X.N.Nodup)(hi:X.N[n]? = some x:=by rfl)(hx:Loc X.env.scope x:=by first | exact Or.inl rfl | exact Or.inr rfl)(hf:X.fn x=true\/X.env.scope.names.lookup x=some .local:=by first | exact .inl rfl | exact .inr rfl):y'G X (.Name x pos) (l4 n):=a6M hN hi hx hf
theorem f7{k j:Nat}{ps:List Str}{sp:Sp}(C:w6 X.prog X.w X.K X.mg X.base k x ps sp)(hr:F0 j X.A)(ha:y'A X (e::es) tr)(hk:k<=j:=by decide)(hg:Gl X x:=by rfl)
  (hdb:(x == ("__debug__" : Str))=false:=by decide) (he:c4 (e::es) X.env=(false,eval e X.env)::c4 es X.env:=by rfl) (hpl:(Q9 pos (c4 es X.env)).any (·.1)=false:=by rfl) :
  y'E X (.Call (.Name x p) (e::es) [] pos) (h9 sp [] E0 tr):=a8c C hr hk hg ha hdb he hpl
theorem j9(ha:y'E X a ta)(hb:y'E X b tb)(hs:a3F b:=by exact fun _ _=>rfl):y'E X (.Subscript a b pos) (tOp qIx ta tb):=a9O b1W ha hb hs
theorem U7{op:CmpOp}{r:R2}(ho:C8 X (d9 op) r)(ha:y'E X a ta)(hb:y'E X b tb)(hm:D6 op b=false:=by exact a0G _):y'E X (.Compare a [op] [b] pos) (tOp r ta tb):=O7 ho ha hb hm
theorem C9{op:CmpOp}{r:R2}(ho:C8 X (d9 op) r)(ha:y'E X a ta)(hb:y'E X b tb)(hm:D6 op b=false:=by exact a0G _):y'T X (.Compare a [op] [b] pos) (y9 (tOp r ta tb)):=I0 ho ha hb hm
end
end Y
namespace Y
open PySem PySem.Spec PyProof.Rows L2
section
variable {X:Cx}{e o i:Expr}{te to ti:TE}{t:TS}{pos p:Pos}{k:Nat}
end
end Y
namespace Y
open PySem PySem.Spec PyProof.Rows L2
end Y
namespace Y
open PySem PySem.Spec PyProof.Rows L2
section
variable {X:Cx}{i o:Expr}{ti to:TE}{pos:Pos}{k:Nat}
end
end Y
namespace Y
open PySem PySem.Spec PyProof.Rows L2
theorem Z0{X:Cx}{k:Nat}(hr:F0 k X.A):P6 X (.builtin "repr") a4q:=⟨L2.a5Q hr⟩
end Y
namespace Y
open PySem PySem.Spec PyProof.Rows L2
section
variable {X:Cx}{k:Nat}{a:Expr}{tr:TA}{p pos:Pos}
theorem V7(hr:F0 k X.A):C8 X (d9 .Eq) a5t:=⟨L2.b0O hr⟩
theorem a2j(hr:F0 k X.A):C8 X (d9 .In) (a8K X.K):=⟨L2.b0N hr⟩
theorem P2:C8 X (y4 .Add) a0N:=⟨L2.a9b⟩
theorem O6:a6a X a3l:=⟨L2.a9Z⟩
theorem a4X{elts:List Expr}{x1}{tp:Pos}(hg:Gl X "enumerate")(hm:X.mg "enumerate" = none)(ha:y'A X [a] tr)(hs:c4 [a] X.env=[(false,eval a X.env)]:=by rfl) :
  a6O X (.Tuple elts x1 tp) (.Call (.Name "enumerate" p) [a] [] pos) (a3v tr):=⟨L2.a8R hg hm ha.h hs⟩
end
end Y
namespace RD
open PySem PySem.Spec L2
variable{a b c p:Addr}{H H' H1:Hp}{o:HO}{i:Int}{σ:St}{ta te:TE}{tt:TT}{Q:VK}{v:V}{j m n:Nat}{s z:Str}{xs ys:List V}{R:It->Hp->Prop}{ns:List Int}
def m4(b:Addr)(H H':Hp):Prop:=(∀a o,H a=some o->a≠b->H' a=some o)/\∀o,H b=some o->∃o',H' b=some o'
theorem m4.refl(b:Addr)(H:Hp):m4 b H H:=⟨fun _ _ h _=>h,fun o h=>⟨o,h⟩⟩
theorem m4.trans{H2:Hp}(x:m4 b H H1)(y:m4 b H1 H2):m4 b H H2:=
 ⟨fun a o h n=>y.1 a o (x.1 a o h n) n,fun o h=>let⟨o',h'⟩:=x.2 o h;y.2 o' h'⟩
theorem m4.upd(b:Addr)(H:Hp)(o:HO):m4 b H (upd H b o):=⟨fun a u h n=>by rw[u0 n];exact h,fun _ _=>⟨o,j4⟩⟩
theorem m4.new(h:H p=none):m4 b H (L2.upd H p o):=
 ⟨fun a u e _=>by rw[u0 (o0 e h)];exact e,fun u e=>⟨u,by rw[u0 (o0 e h)];exact e⟩⟩
theorem m4.of_same(s:j7 H H'):m4 b H H':=⟨fun a o h _=>s a o h,fun o h=>⟨o,s _ _ h⟩⟩
theorem C2(h:H p=none):j7 H (L2.upd H p o):=fun a u e=>by rw[u0 (o0 e h)];exact e
theorem m4.none(k:m4 b H H')(h:H' p=Option.none):H p=Option.none:=by
 cases e:H p with
 | none=>rfl
 | some o=>
  by_cases z:p=b
  ·subst z
   obtain⟨o',h'⟩:=k.2 o e
   rw[h]at h'
   cases h'
  ·rw[k.1 p o e z]at h
   cases h
structure Bag(H:Hp)(b c:Addr):Prop where
 ex:∃(i0 i1 i2:Int) (ns:List Int),H b=some (.lst [.int i0,.int i1,.int i2,.ref c])/\H c=some (.lst (ns.map V.int))/\0<=i0/\0<=i1/\i1<2147483647/\0<=i2/\∀x∈ns,0<=x
theorem Bag.lst{H:Hp}{b c:Addr}(h:Bag H b c):∃xs,H b=some (.lst xs):=by
 obtain⟨i0,i1,i2,ns,h,_⟩:=h.ex
 exact⟨_,h⟩
theorem Bag.same(h:Bag H b c)(s:j7 H H'):Bag H' b c:=by
 obtain⟨i0,i1,i2,ns,h1,h2,r⟩:=h.ex
 exact⟨i0,i1,i2,ns,s _ _ h1,s _ _ h2,r⟩
theorem Bag.new(h:Bag H b c)(n:H p=none):Bag (L2.upd H p o) b c:=h.same (C2 n)
theorem Bag.put(h:Bag H b c)(n1:p≠b)(n2:p≠c):Bag (L2.upd H p o) b c:=by
 obtain⟨i0,i1,i2,ns,h1,h2,r⟩:=h.ex
 exact⟨i0,i1,i2,ns,by rw[u0 n1.symm];exact h1,by rw[u0 n2.symm];exact h2,r⟩
theorem Bag.nb(h:Bag H b c)(n:H p=none):p≠b/\p≠c:=by
 obtain⟨i0,i1,i2,ns,h1,h2,r⟩:=h.ex
 exact⟨(o0 h1 n).symm,(o0 h2 n).symm⟩
theorem m4.put(k:m4 b H H')(n:H p=Option.none):m4 b H (L2.upd H' p o):=
 ⟨fun a u e z=>by rw[u0 (o0 e n)];exact k.1 a u e z,fun u e=>by
  obtain⟨o',h⟩:=k.2 u e
  exact⟨o',by rw[u0 (o0 e n)];exact h⟩⟩
theorem Y3{α:Type}(a:α)(r:List α):atI (a::r) 0=some a:=by
 have := @W6 α (a::r) 0 a rfl
 simpa using this
theorem a9A{α:Type}(a b:α)(r:List α):atI (a::b::r) 1=some b := @W6 α (a::b::r) 1 b rfl
theorem b1p{α:Type}(a b c:α)(r:List α):atI (a::b::c::r) 2=some c := @W6 α (a::b::c::r) 2 c rfl
theorem b4S{α:Type}(a b c d:α)(r:List α):atI (a::b::c::d::r) 3=some d := @W6 α (a::b::c::d::r) 3 d rfl
theorem N9{α:Type}{xs:List α}(h0:0<=i)(h1:i<xs.length):∃v,atI xs i=some v/\xs[i.toNat]? = some v:=by
 have hl:i.toNat<xs.length:=by omega
 have e:xs[i.toNat]? = some (xs[i.toNat]'hl):=by simp[hl]
 refine⟨_,?_,e⟩
 have:=W6 e
 rwa [Int.toNat_of_nonneg h0]at this
section
variable {t u:TS}{D:a2c}{tb tc to ti:TE}{tu:TT}{tr:TA}{QB:Bool->Hp->Prop}{QA:List V->Hp->Prop}{QO:Option Int->Hp->Prop}{x y:V}{j:Int}{r r':R2}{K:Fg}
theorem a2v(h:t { D with nx:=u D } σ H):m8 t u D σ H:=h
theorem a1A{P:St->Hp->Prop}(tail:∀σ H,P σ H->u D σ H)(main:∀nx:St->Hp->Prop,(∀σ H,P σ H->nx σ H)->t { D with nx:=nx } σ H):m8 t u D σ H:=main _ tail
theorem b4j{g:TG}(h:te σ H fun x H1=>g x σ H1 D.nx):z8 te g D σ H:=h
theorem b0i{QS:St->Hp->Prop}(h:QS (σ.set n (some v)) H):l4 n v σ H QS:=h
theorem b2f{QS:St->Hp->Prop}{ts:a2b}(h:to σ H fun o H1=>ti σ H1 fun i H2=>ts o i v H2 fun H3=>QS σ H3):a7t to ti ts v σ H QS:=h
theorem a4l(h:te σ H D.rt):z6 te D σ H:=h
theorem b2g(h:te σ H fun _ H1=>D.nx σ H1):a4g te D σ H:=h
theorem b5j(h:tt σ H fun b H1=>if b=true then t D σ H1 else u D σ H1):F6 tt t u D σ H:=h
theorem b2e(h:D.nx σ H):A0 D σ H:=h
theorem b2b(h:te σ H fun x H'=>∃k,x=.bl k/\QB k H'):y9 te σ H QB:=h
theorem b5f(h:te σ H fun x H'=>∃k,x=.bl k/\QB k H'):tB te σ H QB:=h
theorem b4d(h:tt σ H fun c H1=>QB (!c) H1):V2 tt σ H QB:=h
theorem b4k(h:tt σ H fun c H1=>if c=true then tu σ H1 QB else QB false H1):a6S tt tu σ H QB:=h
theorem b5h(h:tt σ H fun c H1=>if c=true then QB true H1 else tu σ H1 QB):tOr tt tu σ H QB:=h
theorem b2k(h:ta σ H fun x H1=>∃c,x=.bl c/\if c=true then tb σ H1 Q else Q (.bl false) H1):D7 ta tb σ H Q:=h
theorem b4c(h:ta σ H fun x H1=>∃c,x=.bl c/\if c=true then Q (.bl true) H1 else tb σ H1 Q):a9W ta tb σ H Q:=h
theorem b2d(h:ta σ H fun x H1=>∃c,x=.bl c/\Q (.bl (!c)) H1):a2r ta σ H Q:=h
theorem b5i(h:ta σ H fun x H1=>tb σ H1 fun y H2=>r x y H2 Q):tOp r ta tb σ H Q:=h
theorem b0j(h:ta σ H fun x H1=>tb σ H1 fun y H2=>r x y H2 fun z H3=>∃k,z=.bl k/\(if k=true then tc σ H3 fun w' H4=>r' y w' H4 Q else Q (.bl false) H3)):S0 r r' ta tb tc σ H Q:=h
theorem b5e{f:V->Hp->VK->Prop}(h:ta σ H fun x H1=>f x H1 Q):tUn f ta σ H Q:=h
theorem b4f(h:Q (.int (-i)) H):rU (fun i=>.int (-i)) (.int i) H Q:=⟨i,rfl,h⟩
theorem a2u(e:σ[n]? = some (some v))(h:Q v H):b4 n σ H Q:=⟨v,e,h⟩
theorem s_c(h:Q v H):tC v σ H Q:=h
theorem b2h(h:te σ H fun x H1=>tr σ H1 fun xs H2=>QA (x::xs) H2):a6 te tr σ H QA:=h
theorem b4e(h:QA [] H):d4 σ H QA:=h
theorem b2i{sp:Sp}{E:XK}(h:tr σ H fun vs H1=>sp (vs++[]) H1 Q E):h9 sp [] E tr σ H Q:=h
theorem b5k{f:List V->Hp->VK->Prop}(h:tr σ H fun vs H1=>f vs H1 Q):tCB f tr σ H Q:=h
def New(o:HO)(n:Nat)(H:Hp)(Q:VK):Prop:=n<=c9/\∀p,H p=none->Q (.ref p) (upd H p o)
theorem v7(hl:n<=100000)(h:∀p H',H p=none->H' p=some o->j7 H H'->Q (.ref p) H'):New o n H Q:=
 ⟨j3 hl (by rw[a0U];decide),fun p hp=>h p _ hp j4 (C2 hp)⟩
theorem b4a(h:tr σ H fun xs H1=>New (.tup xs) xs.length H1 Q):R1 tr σ H Q:=h
theorem b4g(h:tr σ H fun xs H1=>New (.lst xs) xs.length H1 Q):R3 tr σ H Q:=h
theorem b5g{f:V->Option Int->Option Int->Hp->VK->Prop}{tl th:TO}(h:te σ H fun x H1=>tl σ H1 fun l H2=>th σ H2 fun u H3=>f x l u H3 Q):tSl f te tl th σ H Q:=h
theorem b2c(h:te σ H fun x H1=>∃i,x=.int i/\QO (some i) H1):V1 te σ H QO:=h
theorem a8x(h:QO none H):J8 σ H QO:=h
theorem b4b(h:te σ H fun x H1=>a8I x H1 Q):a9V te σ H Q:=h
theorem a5m(h:QB true H):a0L σ H QB:=h
theorem b4i{f:V->List V->Hp->VK->Prop}(h:to σ H fun x H1=>tyV K "list" x H1/\tr σ H1 fun xs H2=>f x xs H2 Q):tBM K "list" f to tr σ H Q:=h
theorem b4h{f:V->List V->Hp->VK->Prop}(h:tr σ H fun xs H2=>f (.str s) xs H2 Q):tBM K "str" f (tC (.str s)) tr σ H Q:=⟨rfl,h⟩
theorem b2j{tget:V->V->Hp->VK->Prop}{tip:TIp}{tset:a2b}(h:to σ H fun o H1=>ti σ H1 fun i H2=>tget o i H2 fun x H3=>te σ H3 fun y H4=>tip x y H4 fun z H5=>tset o i z H5 fun H6=>D.nx σ H6):a6i to ti te tget tip tset D σ H:=h
theorem b4t(h:Q (.int (i+j)) H):O4 (.int i) (.int j) H Q:=h
theorem a5s{a b:Str}(hl:a.length+b.length<=c9)(h:Q (.str (a++b)) H):O4 (.str a) (.str b) H Q:=⟨hl,h⟩
theorem a1B(ha:H a=some (.lst xs))(hb:H b=some (.lst ys))(h:New (.lst (xs++ys)) (xs.length+ys.length) H Q):O4 (.ref a) (.ref b) H Q:=by
 unfold O4
 simp only[ha,hb]
 exact h
theorem b2t{g:Int->Int->V}(h:Q (g i j) H):a4s g (.int i) (.int j) H Q:=h
theorem K0{C:Int->Int->Prop}{g:Int->Int->V}(hc:C i j)(h:Q (g i j) H):q2I C g (.int i) (.int j) H Q:=⟨hc,h⟩
theorem b5o{f:Int->Int->Int}(h:Q (.int (f i j)) H):ipI f (.int i) (.int j) H Q:=⟨i,j,rfl,rfl,h⟩
theorem J9(hp:H p=some (.lst xs))(he:atI xs i=some v)(h:Q v H):qIx (.ref p) (.int i) H Q:=by
 unfold qIx
 simp only[hp]
 exact⟨v,he,h⟩
theorem O1(hp:H p=some (.tup xs))(he:atI xs i=some v)(h:Q v H):qIx (.ref p) (.int i) H Q:=by
 unfold qIx
 simp only[hp]
 exact⟨v,he,h⟩
theorem a6q{c:Nat}(hz:z.length<=c9)(he:atI z.cps.toList i=some c)(h:Q (.str ⟨#[c]⟩) H):qIx (.str z) (.int i) H Q:=⟨hz,c,he,h⟩
theorem a6p{QH:Hp->Prop}{k:Nat}(hp:H p=some (.lst xs))(he:ixN xs.length i=some k)(h:QH (upd H p (.lst (xs.set k v)))):a3m (.ref p) (.int i) v H QH:=by
 unfold a3m
 simp only[hp]
 exact⟨k,he,h⟩
theorem b4s(hp:H p=some (.lst xs))(h0:0<=i)(he:xs[i.toNat]? = some v)(h:Q v H):a6Y (.ref p) (.int i) H Q:=by
 unfold a6Y
 simp only[hp]
 exact⟨h0,v,he,h⟩
theorem a3k(hp:H p=some (.lst xs))(h:Q (.int xs.length) H):L3 [.ref p] H Q:=by
 unfold L3
 simp only[hp]
 exact h
theorem S5(hp:H p=some (.tup xs))(h:Q (.int xs.length) H):L3 [.ref p] H Q:=by
 unfold L3
 simp only[hp]
 exact h
theorem a5r(hz:z.length<=c9)(h:Q (.int z.length) H):L3 [.str z] H Q:=⟨hz,h⟩
theorem b4u(h:Q (.int (if i<0 then -i else i)) H):a8L [.int i] H Q:=h
theorem b5p(hs:a4i x y=true)(h:Q (.bl (decide (x=y))) H):qEq x y H Q:=⟨_,if_pos hs,h⟩
theorem b5n(hs:a4i x y=true)(h:Q (.bl (!decide (x=y))) H):qNe x y H Q:=⟨_,if_pos hs,h⟩
theorem b1l(ha:H a=some (.lst xs))(hb:H b=some (.lst ys))(fx:xs.all C3=true)(fy:ys.all C3=true):eqO (.ref a) (.ref b) H=some (T0 xs ys):=by
 unfold eqO
 rw[if_neg (by intro z;cases z)]
 simp only[ha,hb]
 rw[if_pos ⟨fx,fy⟩]
theorem b2r(hp:H p=some (.tup ys))(h:∀l H',H l=none->H' l=some (.lst ys)->j7 H H'->Q (.ref l) H'):a2w [.ref p] H Q:=by
 unfold a2w
 simp only[hp]
 exact fun l hl=>h l _ hl j4 (C2 hl)
theorem a8D(hp:H p=some (.lst xs))(hx:C3 x=true)(ha:xs.all C3=true)(h:Q (.bl (!inV x xs)) H):qIn true x (.ref p) H Q:=by
 unfold qIn
 cases x <;> first | (simp only[hp];exact⟨hx,ha,h⟩) | cases hx
theorem a8G{l:Addr}(hp:H l=some (.lst xs))(hl:xs.length<c9)(h:Q .non (upd H l (.lst (xs++[y])))):W4 (.ref l) [y] H Q:=by
 unfold W4
 simp only[hp]
 exact⟨hl,h⟩
theorem b4q{lo hi:Option Int}(ha:H a=some (.tup xs))(hw:¬(HT.sIx xs.length 0 lo=0/\HT.sIx xs.length xs.length hi=xs.length))(h:∀p H',H p=none->H' p=some (.tup (Q6 xs lo hi))->j7 H H'->Q (.ref p) H'):qSl (.ref a) lo hi H Q:=by
 unfold qSl
 simp only[ha]
 exact⟨hw,fun p hp=>h p _ hp j4 (C2 hp)⟩
theorem b4r(ha:H a=some (.lst xs))(h:∀p H',H p=none->H' p=some (.lst xs.reverse)->j7 H H'->Q (.ref p) H'):a8I (.ref a) H Q:=by
 unfold a8I
 simp only[ha]
 exact fun p hp=>h p _ hp j4 (C2 hp)
theorem P9{s c:String}(e:V0 x H=some s)(hc:c∈a0H)(h:Q (.bl (K6 s c)) H):R7 [x,.ty c] H Q:=⟨s,e,hc,h⟩
theorem b2s{l:Addr}{ss:List Str}(hp:H l=some (.lst xs))(e:Q2 xs=some ss)(hl:(ss.map (·.length)).sum+ss.length * s.length<=16777216)(h:Q (.str (Txt.join s ss)) H):a2x (.str s) [.ref l] H Q:=by
 unfold a2x
 simp only[hp]
 exact⟨ss,e,hl,h⟩
end
section
variable {D:Addr}{K:Fg}
theorem a9u{QD:Hp->Prop}{lo:Int}(Pv:Nat->List V->Hp->Prop)(h0:Pv 0 [] (upd H1 D (.lst [])))(hP:∀i ys H,Pv i ys H->H D=some (.lst ys))
  (step:∀i ys H2,i<n->Pv i ys H2->∀R:VK,(∀y H5,H5 D=some (.lst ys)->ys.length<c9->Pv (i+1) (ys++[y]) (upd H5 D (.lst (ys++[y])))->R y H5)->te (some (.int (lo+i))::σ) H2 R)
  (done:∀ys H2,Pv n ys H2->QD H2) :
  ∃W:Nat->Nat->List V->Hp->Prop,(∃m,W 0 m [] (upd H1 D (.lst [])))/\∀i m ys H2,W i m ys H2->H2 D=some (.lst ys) /\
   (((Itr lo n).stop i H2 /\ QD H2) \/ ((Itr lo n).go i H2 /\ ∀ x H3,(Itr lo n).yld i H2 x H3 -> a0L (some x :: σ) H3 fun ok H4 => if ok = true then
     te (some x::σ) H4 (fun y H5=>H5 D=some (.lst ys)/\ys.length<c9/\∃m',m'<m/\W (i+1) m' (ys++[y]) (upd H5 D (.lst (ys++[y]))))
     else ∃m',m'<m/\W (i+1) m' ys H4)):=by
 refine⟨fun i m ys H=>m=n - i/\i<=n/\Pv i ys H,⟨n,rfl,y0 _,h0⟩,?_⟩
 rintro i m ys H2 ⟨rfl,hi,p⟩
 refine⟨hP i ys H2 p,?_⟩
 by_cases hlt:i<n
 ·refine .inr ⟨hlt,fun x H3 y=>?_⟩
  obtain⟨e,y⟩:=y
  subst e y
  refine a5m ?_
  rw[if_pos rfl]
  exact step i ys _ hlt p _ fun y H5 h1 h2 h3=>⟨h1,h2,n - (i+1),by omega,rfl,hlt,h3⟩
 ·have e:i=n:=by omega
  subst e
  exact .inl ⟨a8 _,done ys H2 p⟩
theorem a9v{QD:Hp->Prop}(Pv:Nat->List V->Hp->Prop)(h0:Pv 0 [] (upd H1 D (.lst [])))(hP:∀i ys H,Pv i ys H->H D=some (.lst ys))(hl:∀i ys H,i<=xs.length->Pv i ys H->SqL K H a xs)
  (step:∀i x ys H2,xs[i]? = some x->Pv i ys H2->∀R:VK,(∀y H5,H5 D=some (.lst ys)->ys.length<c9->Pv (i+1) (ys++[y]) (upd H5 D (.lst (ys++[y])))->R y H5)->te (some x::σ) H2 R)
  (done:∀ys H2,Pv xs.length ys H2->QD H2) :
  ∃W:Nat->Nat->List V->Hp->Prop,(∃m,W 0 m [] (upd H1 D (.lst [])))/\∀i m ys H2,W i m ys H2->H2 D=some (.lst ys) /\
   (((Itl K a).stop i H2 /\ QD H2) \/ ((Itl K a).go i H2 /\ ∀ x H3,(Itl K a).yld i H2 x H3 -> a0L (some x :: σ) H3 fun ok H4 => if ok = true then
     te (some x::σ) H4 (fun y H5=>H5 D=some (.lst ys)/\ys.length<c9/\∃m',m'<m/\W (i+1) m' (ys++[y]) (upd H5 D (.lst (ys++[y]))))
     else ∃m',m'<m/\W (i+1) m' ys H4)):=by
 refine⟨fun i m ys H=>m=xs.length - i/\i<=xs.length/\Pv i ys H,⟨xs.length,rfl,y0 _,h0⟩,?_⟩
 rintro i m ys H2 ⟨rfl,hi,p⟩
 refine⟨hP i ys H2 p,?_⟩
 have q:=hl i ys H2 hi p
 by_cases hlt:i<xs.length
 ·refine .inr ⟨⟨xs,xs[i],q,by simp[hlt]⟩,fun x H3 y=>?_⟩
  obtain⟨e,y⟩:=y
  subst e
  refine a5m ?_
  rw[if_pos rfl]
  exact step i x ys _ (y xs q) p _ fun y H5 h1 h2 h3=>⟨h1,h2,xs.length - (i+1),by omega,rfl,hlt,h3⟩
 ·have e:i=xs.length:=by omega
  subst e
  exact .inl ⟨⟨xs,q,a8 _⟩,done ys H2 p⟩
theorem a3i{wi:TI}(h:wi σ H1 fun J H1=>∀D,H1 D=none->∃W:Nat->Nat->List V->Hp->Prop,
 (∃m,W 0 m [] (upd H1 D (.lst [])))/\∀i m ys H2,W i m ys H2->H2 D=some (.lst ys) /\
  ((J.stop i H2 /\ Q (.ref D) H2) \/ (J.go i H2 /\ ∀ x H3,J.yld i H2 x H3 -> tt (some x :: σ) H3 fun ok H4 => if ok = true then
    te (some x::σ) H4 (fun y H5=>H5 D=some (.lst ys)/\ys.length<c9/\∃m',m'<m/\W (i+1) m' (ys++[y]) (upd H5 D (.lst (ys++[y]))))
    else ∃m',m'<m/\W (i+1) m' ys H4))):a0M wi tt te σ H1 Q:=h
theorem a5p{ta:TA}(h:ta σ H1 fun vs H2=>∃j:Int,vs=[.int j] /\ -(2 ^ 62)<=j/\j<2 ^ 62/\R (Itr 0 j.toNat) H2):a2C ta σ H1 R:=h
theorem a8z(h:ta σ H1 fun x H2=>∃a,x=.ref a/\(∃xs,SqL K H2 a xs)/\R (Itl K a) H2):a4D K ta σ H1 R:=h
theorem a6m{wi:TI}{g:TG}{tb:TS}{D:a2c}(h:wi σ H1 fun J H1=>∃W:Nat->Nat->St->Hp->Prop,(∃m,W 0 m σ H1)/\∀i m σ H,W i m σ H ->
 (J.stop i H/\D.nx σ H)\/(J.go i H/\∃N:St->Hp->Prop,(∀σ' H',N σ' H'->∃m',m'<m/\W (i+1) m' σ' H')/\∀x H',J.yld i H x H'->g x σ H' fun σ2 H2=>tb { D with nx:=N,ct:=N,bk:=D.nx } σ2 H2)):a5f wi g tb D σ H1:=h
end
def OpV(v:V):Prop:=(∃s,v=.str s)\/∃n:Int,v=.int n/\0<=n/\n<1000000000000
def b3G(H:Hp)(p:Addr):Prop:=∃k v1 v2,H p=some (.tup [.str k,v1,v2])/\OpV v1/\OpV v2/\k∈(["plus","minus","times","less","same"]:List Str)
inductive a2N(H:Hp):List V->Prop
 | set (n:Str) (p:Addr):b3G H p->a2N H [.str "set",.str n,.ref p]
 | copy (n:Str) (v:V):OpV v->a2N H [.str "copy",.str n,v]
 | take (n:Str):a2N H [.str "take",.str n]
 | tell (v:V):OpV v->a2N H [.str "tell",v]
 | ask (v:V):OpV v->a2N H [.str "ask",v]
 | skip:a2N H [.str "skip"]
structure b5B(H:Hp)(a:Addr):Prop where
 ex:∃ss:List Str,H a=some (.lst (ss.map V.str))/\ss≠[]/\ss.length<=8
theorem X3(h:n<=100000):n<=c9:=j3 h (by rw[a0U];decide)
theorem a1u(h:n<100000):n<c9:=f8 h (by rw[a0U];decide)
theorem o6{c:Bool}{A B:Prop}(hc:c=true)(h:A):if c=true then A else B:=by rw[if_pos hc];exact h
theorem n8{c:Bool}{A B:Prop}(hc:c=false)(h:B):if c=true then A else B:=by rw[hc];exact L2.a1Z h
section
variable {t u:TS}{D:a2c}{tb tc to ti:TE}{tu:TT}{tr:TA}{QB:Bool->Hp->Prop}{QA:List V->Hp->Prop}{x y:V}{j:Int}{K:Fg}
theorem b0h{a b:Nat}{QS:St->Hp->Prop}(hp:SqT K H p [x,y])(h:QS ((σ.set a (some x)).set b (some y)) H):b1j K 2 (a2D (l4 a) (a2D (l4 b) b1k)) (.ref p) σ H QS:=
 ⟨p,_,rfl,hp,rfl,_,_,rfl,_,_,rfl,rfl,h⟩
theorem b4O{J:It}{g:TG}{tb:TS}(n:Nat)(Pv:Nat->St->Hp->Prop)(h0:Pv 0 σ H)(stop:∀σ H,Pv n σ H->J.stop n H/\D.nx σ H)(go:∀i σ H,i<n->Pv i σ H->J.go i H)
  (hs:∀i σ H,i<n->Pv i σ H->∀x H',J.yld i H x H'->g x σ H' fun σ2 H2=>tb { D with nx:=Pv (i+1),ct:=Pv (i+1),bk:=D.nx } σ2 H2) :
  ∃W:Nat->Nat->St->Hp->Prop,(∃m,W 0 m σ H)/\∀i m σ H,W i m σ H ->
   (J.stop i H/\D.nx σ H)\/(J.go i H/\∃N:St->Hp->Prop,(∀σ' H',N σ' H'->∃m',m'<m/\W (i+1) m' σ' H')/\∀x H',J.yld i H x H'->g x σ H' fun σ2 H2=>tb { D with nx:=N,ct:=N,bk:=D.nx } σ2 H2):=by
 refine⟨fun i m σ H=>m=n - i/\i<=n/\Pv i σ H,⟨n,rfl,y0 _,h0⟩,?_⟩
 rintro i m σ H ⟨rfl,hi,p⟩
 by_cases hlt:i<n
 ·exact .inr ⟨go i σ H hlt p,Pv (i+1),fun σ' H' p'=>⟨n - (i+1),by omega,rfl,hlt,p'⟩,fun x H' hy=>hs i σ H hlt p x H' hy⟩
 ·have e:i=n:=by omega
  subst e
  exact .inl (stop σ H p)
theorem a8F{l:Addr}{zs:List V}(hl:H l=some (.lst xs))(hb:H b=some (.lst zs))(hz:xs.length+zs.length<=c9)(h:Q .non (upd H l (.lst (xs++zs)))):W3 (.ref l) [.ref b] H Q:=by
 unfold W3
 simp only[hl,hb]
 exact⟨hz,h⟩
end
end RD
namespace RD
variable{a b c p:Addr}{H H' H1:Hp}{o:HO}{i:Int}{σ:St}{ta te:TE}{tt:TT}{Q:VK}{v:V}{j m n:Nat}{s z:Str}{xs ys:List V}{R:It->Hp->Prop}{ns:List Int}
inductive Gd(N:Nt):Nat->Prop
 | stop {k:Nat}:N[k]? = some []->Gd N k
 | step {k t:Nat} {l:List Nat}:N[k]? = some l->t∈l->Gd N t->Gd N k
inductive Rc(N:Nt):Nat->Prop
 | zero:Rc N 0
 | step {k t:Nat} {l:List Nat}:Rc N k->N[k]? = some l->t∈l->Rc N t
structure b5A(N:Nt):Prop where
 pos:0<N.length
 le:N.length<=400
 two:∀l∈N,l.length<=2
 lt:∀l∈N,∀t∈l,t<N.length
 rc:∀k,k<N.length->Rc N k
 gd:∀k,k<N.length->Gd N k
end RD
namespace RD
open PySem PySem.Spec PyProof.Rows L2
variable{a b c p:Addr}{H H' H1:Hp}{o:HO}{i:Int}{σ:L2.St}{ta te:TE}{tt:TT}{Q:VK}{v:V}{j m n:Nat}{s z:Str}{xs ys:List V}{R:It->Hp->Prop}{ns:List Int}
structure Cn where
 T8:Addr
structure a9F(K:Fg)(c:Cn):Prop where
 a3I:∀H,SqT K H c.T8 [.str "plus",.str "minus",.str "times",.str "less",.str "same"]
def spD(n m:Nat)(t:TS):Sp:=fun vs H Q _=>vs.length=n/\t { nx:=fun _ H'=>Q .non H',rt:=Q } (vs.map some++a3M (m - vs.length) none) H
def b1J(K:Fg):TS:=z6 (R3 (a6 (tC (.int 0)) (a6 (tC (.int 1234567891)) (a6 (tC (.int 0)) (a6 (a0M (a4D K (tSl (b2p K) (b4 0) J8 (V1 (tC (.int 63))))) a0L (tCB a8L (a6 (b4 0) d4))) d4)))))
def a3b(K:Fg):Sp:=spD 1 1 (b1J K)
def a8k(K:Fg):TS:=m8 (F6 (y9 (tOp qEq (tOp qIx (b4 0) (tC (.int 0))) (tC (.int 0)))) (m8 (z8 (tC (.int 12345)) (l4 2)) (m8 (F6 (y9 (tOp qLt (tOp qIx (b4 0) (tC (.int 2))) (tCB L3 (a6 (tOp qIx (b4 0) (tC (.int 3))) d4)))) (m8 (z8 (tOp qIx (tOp qIx (b4 0) (tC (.int 3))) (tOp qIx (b4 0) (tC (.int 2)))) (l4 3)) (m8 (a6i (b4 0) (tC (.int 2)) (tC (.int 1)) a6Y (ipI fun i j=>i+j) a3m) (m8 (F6 (y9 (tOp qGe (b4 3) (tC (.int 1000000000000000000)))) (z8 (b4 3) (a7t (b4 0) (tC (.int 0)) a3m)) A0) (z8 (tOp O4 (tOp a1W (b4 3) (tC (.int 2147483647))) (tC (.int 1))) (l4 2))))) A0) (z8 (tOp a1W (tOp O4 (tOp a4r (tOp qIx (b4 0) (tC (.int 1))) (tC (.int 48271))) (b4 2)) (tC (.int 2147483647))) (a7t (b4 0) (tC (.int 1)) a3m)))) A0) (m8 (F6 (y9 (tOp qGt (tOp qIx (b4 0) (tC (.int 0))) (tC (.int 0)))) (m8 (z8 (tOp a1W (tOp qIx (b4 0) (tC (.int 0))) (b4 1)) (l4 4)) (m8 (z8 (tOp b0n (tOp qIx (b4 0) (tC (.int 0))) (b4 1)) (a7t (b4 0) (tC (.int 0)) a3m)) (z6 (b4 4)))) A0) (m8 (z8 (tOp a1W (tOp a4r (tOp qIx (b4 0) (tC (.int 1))) (tC (.int 39373))) (tC (.int 1000000007))) (l4 5)) (m8 (z8 (tOp a1W (tOp a4r (b4 5) (tC (.int 30011))) (tC (.int 998244353))) (l4 6)) (m8 (F6 (y9 (tOp qGt (b4 1) (tC (.int 1000000)))) (z6 (tOp a1W (tOp O4 (tOp a4r (b4 6) (tC (.int 1000000000))) (b4 5)) (b4 1))) A0) (z6 (tOp a1W (tOp b0n (b4 6) (tC (.int 3))) (b4 1)))))))
def v8(K:Fg):Sp:=spD 2 7 (a8k K)
def a8m(K:Fg):TS:=m8 (z8 (tC (.str "abcdefghijklmnopqrstuvwxyz")) (l4 1)) (m8 (z8 (tOp O4 (b4 1) (tC (.str "0123456789"))) (l4 2)) (z6 (tOp O4 (tOp qIx (b4 1) (h9 (v8 K) [] E0 (a6 (b4 0) (a6 (tC (.int 26)) d4)))) (tBM K "str" a2x (tC (.str "")) (a6 (a0M (a2C (a6 (h9 (v8 K) [] E0 (a6 (b4 0) (a6 (tC (.int 8)) d4))) d4)) a0L (tOp qIx (b4 3) (h9 (v8 K) [] E0 (a6 (b4 1) (a6 (tC (.int 36)) d4))))) d4)))))
def a0Y(K:Fg):Sp:=spD 1 3 (a8m K)
def a6f(K:Fg):TS:=m8 (z8 (R3 (a6 (tC (.str "a")) (a6 (tC (.str "k0")) (a6 (tC (.str "ab")) (a6 (tC (.str "set")) (a6 (tC (.str "abc")) (a6 (tC (.str "k1")) (a6 (tC (.str "abcdefgh")) (a6 (tC (.str "b")) d4))))))))) (l4 1)) (m8 (z8 (tOp O4 (b4 1) (R3 (a6 (tC (.str "ask")) (a6 (tC (.str "x9")) (a6 (tC (.str "a1")) (a6 (tC (.str "abcdefg")) (a6 (tC (.str "plus")) (a6 (tC (.str "ba")) (a6 (tC (.str "k10")) (a6 (tC (.str "z")) d4)))))))))) (l4 1)) (m8 (z8 (h9 (v8 K) [] E0 (a6 (b4 0) (a6 (tC (.int 16)) d4))) (l4 2)) (m8 (z8 (tOp O4 (tC (.int 1)) (tOp a4r (tC (.int 2)) (h9 (v8 K) [] E0 (a6 (b4 0) (a6 (tC (.int 8)) d4))))) (l4 3)) (m8 (z8 (R3 d4) (l4 4)) (m8 (a5f (a2C (a6 (tOp O4 (tC (.int 2)) (h9 (v8 K) [] E0 (a6 (b4 0) (a6 (tC (.int 3)) d4)))) d4)) (l4 5) (m8 (z8 (tOp qIx (b4 1) (tOp a1W (tOp O4 (b4 2) (tOp a4r (b4 5) (b4 3))) (tC (.int 16)))) (l4 6)) (m8 (F6 (y9 (tOp qEq (h9 (v8 K) [] E0 (a6 (b4 0) (a6 (tC (.int 3)) d4))) (tC (.int 0)))) (z8 (h9 (a0Y K) [] E0 (a6 (b4 0) d4)) (l4 6)) A0) (F6 (y9 (tOp (qIn true) (b4 6) (b4 4))) (a4g (tBM K "list" W4 (b4 4) (a6 (b4 6) d4))) A0)))) (z6 (b4 4)))))))
def Z7(K:Fg):Sp:=spD 1 7 (a6f K)
def a6e(K:Fg):TS:=z6 (tOp qIx (R3 (a6 (tC (.int 0)) (a6 (tC (.int 1)) (a6 (tOp a8H (tOp a8H (tOp a8J (tC (.int 10)) (tC (.int 12))) (tC (.int 1))) (h9 (v8 K) [] E0 (a6 (b4 0) (a6 (tC (.int 3)) d4)))) (a6 (h9 (v8 K) [] E0 (a6 (b4 0) (a6 (tC (.int 1000000000000)) d4))) d4))))) (h9 (v8 K) [] E0 (a6 (b4 0) (a6 (tC (.int 4)) d4))))
def Z5(K:Fg):Sp:=spD 1 1 (a6e K)
def a2o(K:Fg):TS:=m8 (F6 (y9 (tOp qEq (h9 (v8 K) [] E0 (a6 (b4 0) (a6 (tC (.int 4)) d4))) (tC (.int 0)))) (z6 (h9 (Z5 K) [] E0 (a6 (b4 0) d4))) A0) (z6 (tOp qIx (b4 1) (h9 (v8 K) [] E0 (a6 (b4 0) (a6 (tCB L3 (a6 (b4 1) d4)) d4)))))
def M0(K:Fg):Sp:=spD 2 2 (a2o K)
def a8o(K:Fg):TS:=m8 (z8 (tOp qIx (R3 (a6 (tC (.str "plus")) (a6 (tC (.str "minus")) (a6 (tC (.str "times")) (a6 (tC (.str "less")) (a6 (tC (.str "same")) d4)))))) (h9 (v8 K) [] E0 (a6 (b4 0) (a6 (tC (.int 5)) d4)))) (l4 2)) (m8 (z8 (h9 (M0 K) [] E0 (a6 (b4 0) (a6 (b4 1) d4))) (l4 3)) (m8 (z8 (h9 (M0 K) [] E0 (a6 (b4 0) (a6 (b4 1) d4))) (l4 4)) (m8 (F6 (y9 (tOp qEq (h9 (v8 K) [] E0 (a6 (b4 0) (a6 (tC (.int 6)) d4))) (tC (.int 0)))) (z8 (b4 3) (l4 4)) A0) (z6 (R1 (a6 (b4 2) (a6 (b4 3) (a6 (b4 4) d4))))))))
def Z8(K:Fg):Sp:=spD 2 5 (a8o K)
def a2q(K:Fg):TS:=m8 (z8 (tOp qIx (b4 1) (h9 (v8 K) [] E0 (a6 (b4 0) (a6 (tCB L3 (a6 (b4 1) d4)) d4)))) (l4 2)) (m8 (z8 (h9 (M0 K) [] E0 (a6 (b4 0) (a6 (b4 1) d4))) (l4 3)) (m8 (z8 (R3 (a6 (R1 (a6 (tC (.str "set")) (a6 (b4 2) (a6 (h9 (Z8 K) [] E0 (a6 (b4 0) (a6 (b4 1) d4))) d4)))) (a6 (R1 (a6 (tC (.str "copy")) (a6 (b4 2) (a6 (b4 3) d4)))) (a6 (R1 (a6 (tC (.str "take")) (a6 (b4 2) d4))) (a6 (R1 (a6 (tC (.str "tell")) (a6 (b4 3) d4))) d4))))) (l4 4)) (z6 (tOp qIx (tOp O4 (b4 4) (R3 (a6 (R1 (a6 (tC (.str "ask")) (a6 (b4 3) d4))) (a6 (R1 (a6 (tC (.str "skip")) d4)) d4)))) (h9 (v8 K) [] E0 (a6 (b4 0) (a6 (tC (.int 6)) d4)))))))
def S1(K:Fg):Sp:=spD 2 5 (a2q K)
def b1I(K:Fg):TS:=m8 (z8 (R3 (a6 (tC (.bl true)) (a6 (tC (.bl false)) (a6 (tC .non) (a6 (tUn (rU fun i=>.int (-i)) (tC (.int 1))) (a6 (tOp a8J (tC (.int 10)) (tC (.int 12))) (a6 (tC (.str "")) (a6 (tC (.str "A")) (a6 (tC (.str "ab c")) (a6 (tC (.str "abcdefghi")) (a6 (tC (.str "1a")) (a6 (tC (.str "a_")) (a6 (tC (.int 0)) (a6 (tC (.str "a")) (a6 (tC (.str "plus")) (a6 (R1 (a6 (tC (.str "a")) d4)) d4)))))))))))))))) (l4 1)) (m8 (z8 (tOp O4 (b4 1) (R3 (a6 (R3 (a6 (tC (.int 1)) d4)) (a6 a5g (a6 (R1 d4) d4))))) (l4 1)) (z6 (tOp qIx (b4 1) (h9 (v8 K) [] E0 (a6 (b4 0) (a6 (tCB L3 (a6 (b4 1) d4)) d4))))))
def a0w(K:Fg):Sp:=spD 1 2 (b1I K)
def a4e(K:Fg):TS:=m8 (z8 (h9 (v8 K) [] E0 (a6 (b4 0) (a6 (tC (.int 6)) d4))) (l4 2)) (m8 (z8 (h9 (v8 K) [] E0 (a6 (b4 0) (a6 (tCB L3 (a6 (b4 1) d4)) d4))) (l4 3)) (m8 (F6 (y9 (tOp qEq (b4 2) (tC (.int 0)))) (z6 (tOp a0N (tSl a3l (b4 1) J8 (V1 (b4 3))) (tSl a3l (b4 1) (V1 (tOp O4 (b4 3) (tC (.int 1)))) J8))) A0) (m8 (F6 (y9 (tOp qEq (b4 2) (tC (.int 1)))) (z6 (tOp a0N (tOp a0N (tSl a3l (b4 1) J8 (V1 (b4 3))) (R1 (a6 (h9 (a0w K) [] E0 (a6 (b4 0) d4)) d4))) (tSl a3l (b4 1) (V1 (b4 3)) J8))) A0) (m8 (F6 (y9 (tOp qEq (b4 2) (tC (.int 2)))) (z6 (tCB a2w (a6 (b4 1) d4))) A0) (z6 (tOp a0N (tOp a0N (tSl a3l (b4 1) J8 (V1 (b4 3))) (R1 (a6 (h9 (a0w K) [] E0 (a6 (b4 0) d4)) d4))) (tSl a3l (b4 1) (V1 (tOp O4 (b4 3) (tC (.int 1)))) J8)))))))
def R4(K:Fg):Sp:=spD 2 4 (a4e K)
def a4d(K:Fg):TS:=m8 (z8 (h9 (Z7 K) [] E0 (a6 (b4 0) d4)) (l4 1)) (m8 (z8 (R3 d4) (l4 2)) (m8 (a5f (a2C (a6 (tC (.int 4)) d4)) (l4 3) (m8 (z8 (h9 (Z8 K) [] E0 (a6 (b4 0) (a6 (b4 1) d4))) (l4 4)) (m8 (z8 (h9 (S1 K) [] E0 (a6 (b4 0) (a6 (b4 1) d4))) (l4 5)) (m8 (z8 (h9 (R4 K) [] E0 (a6 (b4 0) (a6 (b4 4) d4))) (l4 6)) (a4g (tBM K "list" W3 (b4 2) (a6 (R3 (a6 (b4 4) (a6 (b4 5) (a6 (b4 6) (a6 (h9 (R4 K) [] E0 (a6 (b4 0) (a6 (b4 5) d4))) (a6 (R1 (a6 (tC (.str "set")) (a6 (tOp qIx (b4 1) (tC (.int 0))) (a6 (b4 6) d4)))) (a6 (h9 (a0w K) [] E0 (a6 (b4 0) d4)) d4))))))) d4))))))) (z6 (tOp O4 (b4 2) (R3 (a6 (tC (.str "skip")) (a6 (R1 (a6 (tC (.str "skip")) (a6 (tC .non) d4))) (a6 (R1 (a6 (tC (.str "set")) (a6 (tC (.str "a")) (a6 (tC (.str "plus")) d4)))) (a6 (R1 (a6 (tC (.str "plus")) (a6 (tC (.str "a")) d4))) (a6 (R1 (a6 (tC (.str "over")) (a6 (tC (.int 1)) (a6 (tC (.int 2)) d4)))) d4))))))))))
def V8(K:Fg):Sp:=spD 1 7 (a4d K)
def a9U(K:Fg):TS:=z6 (D7 (tCB R7 (a6 (b4 0) (a6 (tC (.ty "int")) d4))) (a2r (tCB R7 (a6 (b4 0) (a6 (tC (.ty "bool")) d4)))))
def Z4(K:Fg):Sp:=spD 1 1 (a9U K)
def L9(K:Fg):TS:=m8 (F6 (tB (tCB R7 (a6 (b4 0) (a6 (tC (.ty "str")) d4)))) (m8 (z8 (D7 (S0 qLe qLe (tC (.int 1)) (tCB L3 (a6 (b4 0) d4)) (tC (.int 8))) (tOp (qIn false) (tOp qIx (b4 0) (tC (.int 0))) (tC (.str "abcdefghijklmnopqrstuvwxyz")))) (l4 1)) (m8 (z8 (tC (.str "abcdefghijklmnopqrstuvwxyz0123456789")) (l4 2)) (z6 (D7 (b4 1) (tOp qEq (a0M (a7r (b4 0)) (y9 (tOp (qIn true) (b4 0) (b4 3))) (b4 0)) (R3 d4)))))) A0) (z6 (D7 (h9 (Z4 K) [] E0 (a6 (b4 0) d4)) (S0 qLe qLt (tC (.int 0)) (b4 0) (tOp a8J (tC (.int 10)) (tC (.int 12))))))
def o8(K:Fg):Sp:=spD 1 3 (L9 K)
def X2(K:Fg):TS:=m8 (F6 (tOr (V2 (tB (tCB R7 (a6 (b4 0) (a6 (tC (.ty "tuple")) d4))))) (tOr (y9 (tOp qNe (tCB L3 (a6 (b4 0) d4)) (tC (.int 3)))) (V2 (tB (tCB R7 (a6 (tOp qIx (b4 0) (tC (.int 0))) (a6 (tC (.ty "str")) d4))))))) (z6 (tC (.bl false))) A0) (m8 (F6 (y9 (tOp (qIn true) (tOp qIx (b4 0) (tC (.int 0))) (R3 (a6 (tC (.str "plus")) (a6 (tC (.str "minus")) (a6 (tC (.str "times")) (a6 (tC (.str "less")) (a6 (tC (.str "same")) d4)))))))) (z6 (tC (.bl false))) A0) (z6 (D7 (h9 (o8 K) [] E0 (a6 (tOp qIx (b4 0) (tC (.int 1))) d4)) (h9 (o8 K) [] E0 (a6 (tOp qIx (b4 0) (tC (.int 2))) d4)))))
def E8(K:Fg):Sp:=spD 1 1 (X2 K)
def a0v(K:Fg):TS:=m8 (F6 (tOr (V2 (tB (tCB R7 (a6 (b4 0) (a6 (tC (.ty "str")) d4))))) (V2 (y9 (S0 qLe qLe (tC (.int 1)) (tCB L3 (a6 (b4 0) d4)) (tC (.int 8)))))) (z6 (tC (.bl false))) A0) (z6 (D7 (tOp (qIn false) (tOp qIx (b4 0) (tC (.int 0))) (tC (.str "abcdefghijklmnopqrstuvwxyz"))) (tCB a6Z (a6 (a0M (a7r (b4 0)) a0L (tOp (qIn false) (b4 0) (tOp O4 (tC (.str "abcdefghijklmnopqrstuvwxyz")) (tC (.str "0123456789"))))) d4))))
def D1(K:Fg):Sp:=spD 1 1 (a0v K)
def a5d(K:Fg):TS:=z6 (D7 (tCB R7 (a6 (b4 0) (a6 (tC (.ty "int")) d4))) (a2r (tCB R7 (a6 (b4 0) (a6 (tC (.ty "bool")) d4)))))
def P7(K:Fg):Sp:=spD 1 1 (a5d K)
def a1q(K:Fg):TS:=z6 (D7 (h9 (P7 K) [] E0 (a6 (b4 0) d4)) (S0 qLe qLt (tC (.int 0)) (b4 0) (tC (.int 1000000000000))))
def P8(K:Fg):Sp:=spD 1 1 (a1q K)
def Z2(K:Fg):TS:=z6 (a9W (h9 (D1 K) [] E0 (a6 (b4 0) d4)) (h9 (P8 K) [] E0 (a6 (b4 0) d4)))
def A9(K:Fg):Sp:=spD 1 1 (Z2 K)
def a2p(K:Fg)(c:Cn):TS:=m8 (F6 (tOr (V2 (tB (tCB R7 (a6 (b4 0) (a6 (tC (.ty "tuple")) d4))))) (y9 (tOp qNe (tCB L3 (a6 (b4 0) d4)) (tC (.int 3))))) (z6 (tC (.bl false))) A0) (z6 (D7 (tOp (a8K K) (tOp qIx (b4 0) (tC (.int 0))) (tC (.ref c.T8))) (D7 (h9 (A9 K) [] E0 (a6 (tOp qIx (b4 0) (tC (.int 1))) d4)) (h9 (A9 K) [] E0 (a6 (tOp qIx (b4 0) (tC (.int 2))) d4)))))
def P3(K:Fg)(c:Cn):Sp:=spD 1 1 (a2p K c)
def a8l(K:Fg):TS:=z6 (D7 (tCB R7 (a6 (b4 0) (a6 (tC (.ty "bool")) d4))) (tOp qEq (b4 0) (b4 1)))
def Z6(K:Fg):Sp:=spD 2 2 (a8l K)
def Z1(K:Fg):TS:=m8 (F6 (tOr (V2 (tB (tCB R7 (a6 (b4 0) (a6 (tC (.ty "tuple")) d4))))) (tOr (y9 (tOp qLt (tCB L3 (a6 (b4 0) d4)) (tC (.int 1)))) (V2 (tB (tCB R7 (a6 (tOp qIx (b4 0) (tC (.int 0))) (a6 (tC (.ty "str")) d4))))))) (z6 (tC (.bl false))) A0) (m8 (z8 (a6g ((tC (.str "set"),tC (.str "nd"))::(tC (.str "copy"),tC (.str "no"))::(tC (.str "take"),tC (.str "n"))::(tC (.str "tell"),tC (.str "o"))::(tC (.str "ask"),tC (.str "o"))::(tC (.str "skip"),tC (.str ""))::[])) (l4 1)) (m8 (F6 (tOr (tB (a3a (tOp qIx (b4 0) (tC (.int 0))) (b4 1))) (y9 (tOp qNe (tCB L3 (a6 (a6h (b4 1) (tOp qIx (b4 0) (tC (.int 0)))) d4)) (tOp a8H (tCB L3 (a6 (b4 0) d4)) (tC (.int 1)))))) (z6 (tC (.bl false))) A0) (m8 (a5f (a3v (a6 (a6h (b4 1) (tOp qIx (b4 0) (tC (.int 0)))) d4)) (b1j K 2 (a2D (l4 2) (a2D (l4 3) (b1k)))) (m8 (z8 (tOp qIx (b4 0) (tOp O4 (b4 2) (tC (.int 1)))) (l4 4)) (m8 (F6 (a6S (y9 (tOp qEq (b4 3) (tC (.str "d")))) (V2 (tB (h9 (E8 K) [] E0 (a6 (b4 4) d4))))) (z6 (tC (.bl false))) A0) (m8 (F6 (a6S (y9 (tOp qEq (b4 3) (tC (.str "o")))) (V2 (tB (h9 (o8 K) [] E0 (a6 (b4 4) d4))))) (z6 (tC (.bl false))) A0) (F6 (a6S (y9 (tOp qEq (b4 3) (tC (.str "n")))) (tOr (V2 (tB (tCB R7 (a6 (b4 4) (a6 (tC (.ty "str")) d4))))) (V2 (tB (h9 (o8 K) [] E0 (a6 (b4 4) d4)))))) (z6 (tC (.bl false))) A0))))) (z6 (tC (.bl true))))))
def M6(K:Fg):Sp:=spD 1 5 (Z1 K)
def a4f(K:Fg)(c:Cn):TS:=m8 (F6 (tOr (V2 (tB (tCB R7 (a6 (b4 0) (a6 (tC (.ty "tuple")) d4))))) (y9 (tOp qEq (tCB L3 (a6 (b4 0) d4)) (tC (.int 0))))) (z6 (tC (.bl false))) A0) (m8 (z8 (tOp qIx (b4 0) (tC (.int 0))) (l4 1)) (m8 (z8 (tSl qSl (b4 0) (V1 (tC (.int 1))) J8) (l4 2)) (m8 (F6 (y9 (tOp a5t (b4 1) (tC (.str "set")))) (z6 (D7 (tOp qEq (tCB L3 (a6 (b4 2) d4)) (tC (.int 2))) (D7 (h9 (D1 K) [] E0 (a6 (tOp qIx (b4 2) (tC (.int 0))) d4)) (h9 (P3 K c) [] E0 (a6 (tOp qIx (b4 2) (tC (.int 1))) d4))))) A0) (m8 (F6 (y9 (tOp a5t (b4 1) (tC (.str "copy")))) (z6 (D7 (tOp qEq (tCB L3 (a6 (b4 2) d4)) (tC (.int 2))) (D7 (h9 (D1 K) [] E0 (a6 (tOp qIx (b4 2) (tC (.int 0))) d4)) (h9 (A9 K) [] E0 (a6 (tOp qIx (b4 2) (tC (.int 1))) d4))))) A0) (m8 (F6 (y9 (tOp a5t (b4 1) (tC (.str "take")))) (z6 (D7 (tOp qEq (tCB L3 (a6 (b4 2) d4)) (tC (.int 1))) (h9 (D1 K) [] E0 (a6 (tOp qIx (b4 2) (tC (.int 0))) d4)))) A0) (m8 (F6 (y9 (tOp (a8K K) (b4 1) (R1 (a6 (tC (.str "tell")) (a6 (tC (.str "ask")) d4))))) (z6 (D7 (tOp qEq (tCB L3 (a6 (b4 2) d4)) (tC (.int 1))) (h9 (A9 K) [] E0 (a6 (tOp qIx (b4 2) (tC (.int 0))) d4)))) A0) (z6 (D7 (tOp a5t (b4 1) (tC (.str "skip"))) (tOp qEq (tCB L3 (a6 (b4 2) d4)) (tC (.int 0)))))))))))
def V9(K:Fg)(c:Cn):Sp:=spD 1 3 (a4f K c)
def a8n(K:Fg)(c:Cn):TS:=m8 (z8 (h9 (a3b K) [] E0 (a6 (b4 0) d4)) (l4 1)) (m8 (z8 (h9 (V8 K) [] E0 (a6 (b4 1) d4)) (l4 2)) (m8 (z8 (tCB a4q (a6 (b4 2) d4)) (l4 3)) (m8 (a5f (a4D K (tOp O4 (b4 2) (a9V (b4 2)))) (l4 4) (m8 (F6 (V2 (tB (h9 (Z6 K) [] E0 (a6 (h9 (P3 K c) [] E0 (a6 (b4 4) d4)) (a6 (h9 (E8 K) [] E0 (a6 (b4 4) d4)) d4))))) (z6 (tC (.bl false))) A0) (F6 (V2 (tB (h9 (Z6 K) [] E0 (a6 (h9 (V9 K c) [] E0 (a6 (b4 4) d4)) (a6 (h9 (M6 K) [] E0 (a6 (b4 4) d4)) d4))))) (z6 (tC (.bl false))) A0))) (z6 (tOp qEq (tCB a4q (a6 (b4 2) d4)) (b4 3))))))
def a1t(K:Fg):Sp:=fun vs H Q _=>vs.length=1/\∀c,a9F K c->a8n K c { nx:=fun _ H'=>Q .non H',rt:=Q } (vs.map some++a3M (5 - vs.length) none) H
end RD
local macro_rules | `(tactic| walk_at "st") => `(tactic| (with_reducible first
 | refine RD.b4j ?_ | refine RD.b0i ?_ | refine RD.b2f ?_ | refine RD.a4l ?_ | refine RD.b2g ?_ | refine RD.b5j ?_ | refine RD.b2e ?_ | refine RD.b2b ?_ | refine RD.b5f ?_ | refine RD.b4d ?_ | refine RD.b4k ?_ | refine RD.b5h ?_ | refine RD.b2k ?_ | refine RD.b4c ?_ | refine RD.b2d ?_ | refine RD.s_ifE ?_ | refine RD.b5i ?_ | refine RD.b0j ?_ | refine RD.b5e ?_ | refine RD.b4f ?_ | refine RD.s_c ?_ | refine RD.b2h ?_ | refine RD.b4e ?_ | refine RD.b2i ?_ | refine RD.b5k ?_ | refine RD.b4a ?_ | refine RD.b4g ?_ | refine RD.b5g ?_ | refine RD.b2c ?_ | refine RD.a8x ?_ | refine RD.b4b ?_ | refine RD.a5m ?_ | refine RD.b2j ?_ | refine RD.b4h ?_
 | refine RD.a2u (by with_unfolding_all rfl) ?_ | refine Exists.intro _ (And.intro (Eq.refl (L2.V.bl _)) ?_) | refine Exists.intro _ (And.intro (Eq.refl (L2.V.int _)) ?_)
 | refine RD.b4t ?_ | refine RD.b2t ?_ | refine RD.b5o ?_ | refine RD.b4u ?_ | refine RD.b5p rfl ?_ | refine RD.b5n rfl ?_))
local macro_rules | `(tactic| walk_at "ev") => `(tactic| repeat walk_at "st")
local macro_rules | `(tactic| walk_at "go") => `(tactic| repeat (first | with_reducible refine RD.a2v ?_ | walk_at "st"))
local macro_rules | `(tactic| ext) => `(tactic| walk_at "ev")
local macro_rules | `(tactic| exists $t:term) => `(tactic| (refine $t; walk_at "ev"))
local macro_rules | `(tactic| specialize $t:term) => `(tactic| (with_reducible refine $t; walk_at "ev"))
local macro_rules | `(tactic| exact_mod_cast $t:term) => `(tactic| with_reducible refine $t)
local macro_rules | `(tactic| nofun) => `(tactic| (with_reducible refine RD.a2v ?_; walk_at "ev"))
namespace RD
open PySem PySem.Spec L2
variable{a b c p:Addr}{H H' H1:Hp}{o:HO}{i:Int}{σ:St}{ta te:TE}{tt:TT}{Q:VK}{v:V}{j m n:Nat}{s z:Str}{xs ys:List V}{R:It->Hp->Prop}{ns:List Int}
section
variable {D:Addr}
theorem a8y(h:ta σ H fun v H2=>∃x,v=.str x/\R (Its x) H2):a7r ta σ H R:=h
theorem a4J{QD:Hp->Prop}{x:Str}(Pv:Nat->List V->Hp->Prop)(h0:Pv 0 [] (upd H1 D (.lst [])))(hP:∀i ys H,Pv i ys H->H D=some (.lst ys))
  (step:∀i c ys H2,x.cps[i]? = some c->Pv i ys H2->∀(R:VK) (R':Hp->Prop),(∀y H5,H5 D=some (.lst ys)->ys.length<c9->Pv (i+1) (ys++[y]) (upd H5 D (.lst (ys++[y])))->R y H5)->(∀H4,Pv (i+1) ys H4->R' H4) ->
   tt (some (.str ⟨#[c]⟩)::σ) H2 fun ok H4=>if ok=true then te (some (.str ⟨#[c]⟩)::σ) H4 R else R' H4)
  (done:∀ys H2,Pv x.length ys H2->QD H2) :
  ∃W:Nat->Nat->List V->Hp->Prop,(∃m,W 0 m [] (upd H1 D (.lst [])))/\∀i m ys H2,W i m ys H2->H2 D=some (.lst ys) /\
   (((Its x).stop i H2 /\ QD H2) \/ ((Its x).go i H2 /\ ∀ v H3,(Its x).yld i H2 v H3 -> tt (some v :: σ) H3 fun ok H4 => if ok = true then
     te (some v::σ) H4 (fun y H5=>H5 D=some (.lst ys)/\ys.length<c9/\∃m',m'<m/\W (i+1) m' (ys++[y]) (upd H5 D (.lst (ys++[y]))))
     else ∃m',m'<m/\W (i+1) m' ys H4)):=by
 refine⟨fun i m ys H=>m=x.length - i/\i<=x.length/\Pv i ys H,⟨x.length,rfl,y0 _,h0⟩,?_⟩
 rintro i m ys H2 ⟨rfl,hi,p⟩
 refine⟨hP i ys H2 p,?_⟩
 by_cases hlt:i<x.length
 ·refine .inr ⟨hlt,fun v H3 y=>?_⟩
  obtain⟨e,c,hc,ev⟩:=y
  subst e ev
  exact step i c ys _ hc p _ _ (fun y H5 h1 h2 h3=>⟨h1,h2,x.length - (i+1),by omega,rfl,hlt,h3⟩) fun H4 h=>⟨x.length - (i+1),by omega,rfl,hlt,h⟩
 ·have e:i=x.length:=by omega
  subst e
  exact .inl ⟨a8 _,done ys H2 p⟩
end
def sgn(S:Str)(c:Nat):Bool := !(Builtin.Str.occurrences S ⟨#[c]⟩ 0 S.length 1).isEmpty
theorem a8E{S:Str}{c:Nat}(h:Q (.bl (sgn S c)) H):qIn false (.str ⟨#[c]⟩) (.str S) H Q:=h
theorem b2q{S:Str}{c:Nat}(h:Q (.bl (!sgn S c)) H):qIn true (.str ⟨#[c]⟩) (.str S) H Q:=h
abbrev LET:Str := "abcdefghijklmnopqrstuvwxyz"
abbrev SGN:Str := "abcdefghijklmnopqrstuvwxyz0123456789"
theorem a8q:LET++("0123456789" : Str)=SGN:=by decide +kernel
def F7(z:Str):Bool:=decide (1<=z.length)&&decide (z.length<=8)&&(match z.cps[0]? with | some c=>sgn LET c | none=>false)&&z.cps.toList.all (sgn SGN)
theorem a4C{K:Fg}{E:XK}(hz:z.length<=400)(k:∀H',j7 H H'->Q (.bl (F7 z)) H'):D1 K [.str z] H Q E:=by
 refine⟨rfl,?_⟩
 unfold a0v
 have hz':=X3 (show z.length<=100000 by omega)
 nofun
 exists P9 (s := "str") rfl (by decide) ?_
 exists n8 (by decide) ?_
 exists a5r hz' ?_
 by_cases h1:1<=z.length
 case neg=>
  exists n8 (b6c (by omega)) ?_
  exists o6 rfl ?_
  have e:F7 z=false:=by unfold F7;rw[b6c h1];simp
  rw[<-e]
  exact k H (j7.refl _)
 exists o6 (b6d (by omega)) ?_
 by_cases h8:z.length<=8
 case neg=>
  rw[b6c (show ¬((z.length:Int)<=8) by omega)]
  exists o6 rfl ?_
  have e:F7 z=false:=by unfold F7;rw[b6c h8];simp
  rw[<-e]
  exact k H (j7.refl _)
 rw[b6d (show(z.length:Int)<=8 by omega)]
 exists n8 rfl ?_
 have hl:z.cps.toList.length=z.length:=q9
 obtain⟨c0,hc0,hc1⟩:=N9 (xs:=z.cps.toList) (i:=0) (by decide) (by omega)
 have hc2:z.cps[0]? = some c0:=by rw[<-F1];exact hc1
 exists a6q hz' hc0 ?_
 have en:F7 z=(sgn LET c0&&z.cps.toList.all (sgn SGN)):=by
  unfold F7
  rw[b6d h1,b6d h8,hc2]
  simp
 refine a8E (S:=LET) ?_
 refine⟨_,rfl,?_⟩
 cases hs:sgn LET c0 with
 | false=>
  refine a1Z ?_
  have e:F7 z=false:=by rw[en,hs];rfl
  rw[<-e]
  exact k H (j7.refl _)
 | true=>
  exists a3t ?_
  specialize a3i (a8y ?_)
  refine⟨z,rfl,fun D hD=>?_⟩
  refine a4J (fun i ys H2=>ys=(z.cps.toList.take i).map (fun c=>V.bl (sgn SGN c))/\H2=upd H D (.lst ys)) ⟨by simp,rfl⟩ ?_ ?_ ?_
  ·rintro i ys _ ⟨_,rfl⟩
   exact j4
  ·rintro i c ys _ hc ⟨rfl,rfl⟩ R R' hR hR'
   have hc':z.cps.toList[i]? = some c:=by rw[F1];exact hc
   ext
   exists a3t ?_
   refine a5s (X3 (by decide +kernel)) ?_
   have e:(("abcdefghijklmnopqrstuvwxyz" : Str)++("0123456789" : Str))=SGN:=a8q
   rw[e]
   refine a8E (S:=SGN) ?_
   refine hR (.bl (sgn SGN c)) _ j4 (a1u ?_) ⟨?_,?_⟩
   ·rw[g8,o9];omega
   ·rw[T6,hc'];simp
   ·rw[a0X]
  ·rintro ys _ ⟨rfl,rfl⟩
   ext
   have eb:E2 ((z.cps.toList.take z.length).map (fun c=>V.bl (sgn SGN c)))=some ((z.cps.toList.take z.length).map (sgn SGN)):=by
    generalize z.cps.toList.take z.length=l
    induction l with
    | nil=>rfl
    | cons a r ih=>simp[E2,ih]
   have ea:((z.cps.toList.take z.length).map (sgn SGN)).all id=F7 z:=by
    rw[en,hs,A1,v9 (by omega),List.all_map]
    rfl
   refine(show a6Z [.ref D] _ _ from ?_)
   unfold a6Z
   simp only[j4]
   refine⟨_,eb,?_⟩
   rw[ea]
   exact k _ (C2 hD)
def NmS(s:Str):Prop:=F7 s=true/\s.length<=8
def OpN(v:V):Prop:=(∃s,v=.str s/\NmS s)\/∃n:Int,v=.int n/\0<=n/\n<1000000000000
abbrev b1Q:List Str:=["plus","minus","times","less","same"]
def a9E(H:Hp)(p:Addr):Prop:=∃k v1 v2,H p=some (.tup [.str k,v1,v2])/\OpN v1/\OpN v2/\k∈b1Q
inductive a7E(H:Hp):List V->Prop
 | set (n:Str) (p:Addr):NmS n->a9E H p->a7E H [.str "set",.str n,.ref p]
 | copy (n:Str) (v:V):NmS n->OpN v->a7E H [.str "copy",.str n,v]
 | take (n:Str):NmS n->a7E H [.str "take",.str n]
 | tell (v:V):OpN v->a7E H [.str "tell",v]
 | ask (v:V):OpN v->a7E H [.str "ask",v]
 | skip:a7E H [.str "skip"]
theorem ix0{α:Type}(a b c d:α):ixN [a,b,c,d].length 0=some 0:=by
 show ixN 4 0=some 0
 decide
theorem ix1{α:Type}(a b c d:α):ixN [a,b,c,d].length 1=some 1:=by
 show ixN 4 1=some 1
 decide
theorem ix2{α:Type}(a b c d:α):ixN [a,b,c,d].length 2=some 2:=by
 show ixN 4 2=some 2
 decide
structure a1N(H:Hp)(b:Addr)(i0 i1 i2:Int)(c:Addr)(ns:List Int):Prop where
 hb:H b=some (.lst [.int i0,.int i1,.int i2,.ref c])
 hc:H c=some (.lst (ns.map V.int))
 p0:0<=i0
 p1:0<=i1
 p1':i1<2147483647
 p2:0<=i2
 pn:∀x∈ns,0<=x
theorem a1N.bag{i0 i1 i2:Int}(h:a1N H b i0 i1 i2 c ns):Bag H b c:=⟨i0,i1,i2,ns,h.hb,h.hc,h.p0,h.p1,h.p1',h.p2,h.pn⟩
theorem Bag.parts(h:Bag H b c):∃i0 i1 i2 ns,a1N H b i0 i1 i2 c ns:=by
 obtain⟨i0,i1,i2,ns,h1,h2,h3,h4,h5,h6,h7⟩:=h.ex
 exact⟨i0,i1,i2,ns,h1,h2,h3,h4,h5,h6,h7⟩
theorem a1N.ne{i0 i1 i2:Int}(h:a1N H b i0 i1 i2 c ns):c≠b:=a9g h.hc h.hb (by
  intro z
  have z:=HO.lst.inj z
  cases ns with
  | nil=>cases z
  | cons a r=>cases r with
   | nil=>cases z
   | cons a2 r=>cases r with
    | nil=>cases z
    | cons a3 r=>cases r with
     | nil=>cases z
     | cons a4 r=>simp at z)
theorem a1N.put{i0 i1 i2 j0 j1 j2:Int}(h:a1N H b i0 i1 i2 c ns)(q0:0<=j0)(q1:0<=j1)(q1':j1<2147483647)(q2:0<=j2) :
  a1N (upd H b (.lst [.int j0,.int j1,.int j2,.ref c])) b j0 j1 j2 c ns:=⟨j4,by rw[u0 h.ne];exact h.hc,q0,q1,q1',q2,h.pn⟩
theorem z7{K:Fg}{many:Int}{E:XK}(hB:Bag H b c)(h0:0<many)(h1:many<2 ^ 64)
  (k:∀n H',0<=n->n<many->Bag H' b c->m4 b H H'->Q (.int n) H'):v8 K [.ref b,.int many] H Q E:=by
 obtain⟨i0,i1,i2,ns,B⟩:=hB.parts
 refine⟨rfl,?_⟩
 unfold a8k
 refine a1A (P:=fun σ H1=>∃x2 x3 j0 j1 j2,σ=[some (.ref b),some (.int many),x2,x3,none,none,none]/\a1N H1 b j0 j1 j2 c ns/\m4 b H H1) ?_ ?_
 ·-- the second part
  rintro _ H1 ⟨x2,x3,j0,j1,j2,rfl,B1,k1⟩
  refine a1A (P:=fun σ H2=>H2=H1/\σ=[some (.ref b),some (.int many),x2,x3,none,none,none]) ?_ ?_
  ·rintro _ _ ⟨rfl,rfl⟩
   walk_at "go"
   refine J9 B1.hb (a9A _ _ _) ?_
   walk_at "go"
   refine K0 (.inr (by omega)) ?_
   walk_at "go"
   refine K0 (by omega) ?_
   walk_at "go"
   have g1:=C1 (j1 * 39373) (show(1000000007:Int)≠0 by decide)
   have g2:=A8 (j1 * 39373) (show(0:Int)<1000000007 by decide)
   refine K0 (.inr (by omega)) ?_
   walk_at "go"
   refine K0 (by omega) ?_
   walk_at "go"
   have g3:=C1 (j1 * 39373 % 1000000007 * 30011) (show(998244353:Int)≠0 by decide)
   have g4:=A8 (j1 * 39373 % 1000000007 * 30011) (show(0:Int)<998244353 by decide)
   refine W8 (fun _=>?_) (fun _=>?_)
   ·walk_at "go"
    refine K0 (.inr (by omega)) ?_
    walk_at "go"
    refine K0 h0 ?_
    exact k _ _ (C1 _ (by omega)) (A8 _ h0) B1.bag k1
   ·walk_at "go"
    refine K0 (by omega) ?_
    walk_at "go"
    refine K0 h0 ?_
    exact k _ _ (C1 _ (by omega)) (A8 _ h0) B1.bag k1
  ·intro nx hnx
   walk_at "go"
   refine J9 B1.hb (Y3 _ _) ?_
   walk_at "go"
   refine W8 (fun _=>?_) (fun _=>?_)
   ·walk_at "go"
    refine J9 B1.hb (Y3 _ _) ?_
    walk_at "go"
    refine K0 h0 ?_
    walk_at "go"
    refine J9 B1.hb (Y3 _ _) ?_
    walk_at "go"
    refine K0 ⟨h0,h1⟩ ?_
    walk_at "go"
    refine a6p B1.hb (ix0 _ _ _ _) ?_
    walk_at "go"
    refine k _ _ (C1 _ (by omega)) (A8 _ h0) (B1.put (Int.ediv_nonneg B1.p0 (by omega)) B1.p1 B1.p1' B1.p2).bag (k1.trans (m4.upd _ _ _))
   ·walk_at "go"
    exact hnx _ _ ⟨rfl,rfl⟩
 ·intro nx hnx
  walk_at "go"
  refine J9 B.hb (Y3 _ _) ?_
  walk_at "go"
  refine W8 (fun e=>?_) (fun _=>?_)
  ·have e:i0=0:=by simpa using e
   subst e
   nofun
   exact_mod_cast a1A (P:=fun σ H1=>∃m x3 j0 j2,σ=[some (.ref b),some (.int many),some (.int m),x3,none,none,none]/\a1N H1 b j0 i1 j2 c ns/\m4 b H H1/\0<=m) ?_ ?_
   ·rintro _ H1 ⟨m,x3,j0,j2,rfl,B1,k1,hm⟩
    walk_at "go"
    refine J9 B1.hb (a9A _ _ _) ?_
    walk_at "go"
    refine K0 (.inr (by omega)) ?_
    walk_at "go"
    refine K0 (by omega) ?_
    walk_at "go"
    refine a6p B1.hb (ix1 _ _ _ _) ?_
    have g1:=C1 (i1 * 48271+m) (show(2147483647:Int)≠0 by decide)
    have g2:=A8 (i1 * 48271+m) (show(0:Int)<2147483647 by decide)
    exact hnx _ _ ⟨_,x3,j0,_,j2,rfl,B1.put B1.p0 g1 g2 B1.p2,k1.trans (m4.upd _ _ _)⟩
   ·intro nx2 hnx2
    walk_at "go"
    refine J9 B.hb (b1p _ _ _ _) ?_
    walk_at "go"
    refine J9 B.hb (b4S _ _ _ _ _) ?_
    walk_at "go"
    refine a3k B.hc ?_
    walk_at "go"
    refine W8 (fun e=>?_) (fun _=>?_)
    ·have e:i2<(ns.length:Int):=by simpa using e
     obtain⟨v,ev,ev2⟩:=N9 (xs:=ns.map V.int) B.p2 (by simpa using e)
     obtain⟨z,ez,rfl⟩:∃z,ns[i2.toNat]? = some z/\v=V.int z:=by
      rw[T7]at ev2
      cases q:ns[i2.toNat]? with
      | none=>rw[q]at ev2;cases ev2
      | some z=>rw[q]at ev2;exact⟨z,rfl,(Option.some.inj ev2).symm⟩
     have hz:0<=z:=B.pn z (mI ez)
     walk_at "go"
     refine J9 B.hb (b4S _ _ _ _ _) ?_
     walk_at "go"
     refine J9 B.hb (b1p _ _ _ _) ?_
     walk_at "go"
     refine J9 B.hc ev ?_
     walk_at "go"
     exists b4s B.hb (by decide) rfl ?_
     refine a6p B.hb (ix2 _ _ _ _) ?_
     have B2:=B.put (j0:=0) (j1:=i1) (j2:=i2+1) (Int.le_refl _) B.p1 B.p1' (by have:=B.p2;omega)
     exact_mod_cast a1A (P:=fun σ H1=>∃j0,σ=[some (.ref b),some (.int many),some (.int 12345),some (.int z),none,none,none]/\a1N H1 b j0 i1 (i2+1) c ns/\m4 b H H1) ?_ ?_
     ·rintro _ H1 ⟨j0,rfl,B1,k1⟩
      walk_at "go"
      refine K0 (by omega) ?_
      walk_at "go"
      have g1:=C1 z (show(2147483647:Int)≠0 by decide)
      exact hnx2 _ _ ⟨_,_,j0,_,rfl,B1,k1,by omega⟩
     ·intro nx3 hnx3
      walk_at "go"
      refine W8 (fun _=>?_) (fun _=>?_)
      ·walk_at "go"
       refine a6p B2.hb (ix0 _ _ _ _) ?_
       refine hnx3 _ _ ⟨z,rfl,?_,(m4.upd _ _ _).trans (m4.upd _ _ _)⟩
       exact B2.put hz B.p1 B.p1' (by have:=B.p2;omega)
      ·walk_at "go"
       exact hnx3 _ _ ⟨0,rfl,B2,m4.upd _ _ _⟩
    ·walk_at "go"
     exact hnx2 _ _ ⟨_,_,0,i2,rfl,B,m4.refl _ _,by decide⟩
  ·walk_at "go"
   exact hnx _ _ ⟨_,_,i0,i1,i2,rfl,B,m4.refl _ _⟩
theorem b3y{K:Fg}{E:XK}(hS:SqL K H a (ns.map V.int))(hl:ns.length<=63)
  (k:∀b c H',Bag H' b c->j7 H H'->H b=none->Q (.ref b) H'):a3b K [.ref a] H Q E:=by
 refine⟨rfl,?_⟩
 unfold b1J
 walk_at "go"
 exact_mod_cast a3i (a8z ?_)
 walk_at "go"
 refine⟨a,_,rfl,hS,fun p hp=>⟨p,rfl,⟨_,SqL.of j4⟩,fun D hD=>?_⟩⟩
 have hcut:Q6 (ns.map V.int) none (some 63)=ns.map V.int:=by
  unfold Q6
  have e:HT.sIx (ns.map V.int).length 0 none=0:=rfl
  have e2:HT.sIx (ns.map V.int).length (ns.map V.int).length (some 63)=ns.length:=by
   have:=HT.a0a (ns.map V.int).length (ns.map V.int).length 63
   rw[g8]at this ⊢
   rw[show((63:Nat):Int)=63 from rfl]at this
   rw[this];omega
  rw[e,e2,a3N,a7F,v9 (by simp)]
 rw[hcut]at hD ⊢
 have s1:j7 H (upd H p (.lst (ns.map V.int))):=C2 hp
 refine a9v (xs:=ns.map V.int) (fun i ys H2=>ys=(ns.take i).map (fun x=>V.int (if x<0 then -x else x))/\H2=upd (upd H p (.lst (ns.map V.int))) D (.lst ys)) ⟨by simp,rfl⟩ ?_ ?_ ?_ ?_
 ·rintro i ys _ ⟨_,rfl⟩
  exact j4
 ·rintro i ys _ _ ⟨_,rfl⟩
  refine SqL.of ?_
  rw[u0 (o0 j4 hD),j4]
 ·rintro i x ys _ hx ⟨rfl,rfl⟩ R hR
  rw[T7]at hx
  cases e:ns[i]? with
  | none=>rw[e]at hx;cases hx
  | some z=>
   rw[e]at hx
   cases hx
   ext
   refine hR _ _ j4 (a1u ?_) ⟨?_,?_⟩
   ·rw[g8,o9];omega
   ·rw[T6,e];simp
   ·rw[a0X]
 ·rintro ys _ ⟨rfl,rfl⟩
  ext
  refine v7 (by simp) fun b H4 hb hb4 s4=>?_
  rw[g8,v9 (a8 _)]at hb s4
  refine k b D _ ⟨0,1234567891,0,ns.map (fun x=>if x<0 then -x else x),hb4,?_,by decide,by decide,by decide,by decide,?_⟩ ?_ ?_
  ·rw[s4 D _ j4,b4Y];rfl
  ·intro x hx
   obtain⟨y,_,rfl⟩:=F9.mp hx
   split <;> omega
  ·exact(s1.trans (C2 hD)).trans s4
  ·exact(s1.trans (C2 hD)).free hb
structure P4(H:Hp)(a:Addr):Prop where
 ex:∃ss:List Str,H a=some (.lst (ss.map V.str))/\ss≠[]/\ss.length<=8/\∀s∈ss,NmS s
theorem P4.kept(h:P4 H a)(hB:Bag H b c)(k:m4 b H H'):P4 H' a/\a≠b:=by
 obtain⟨ss,h1,h2,h3,h4⟩:=h.ex
 obtain⟨i0,i1,i2,ns,hb,_⟩:=hB.ex
 have ne:a≠b:=a9g h1 hb (by
  intro z
  have z:=HO.lst.inj z
  cases ss with
  | nil=>exact h2 rfl
  | cons s r=>cases z)
 exact⟨⟨ss,k.1 a _ h1 ne,h2,h3,h4⟩,ne⟩
theorem P4.same(h:P4 H a)(s:j7 H H'):P4 H' a:=by
 obtain⟨ss,h1,h2,h3⟩:=h.ex
 exact⟨ss,s _ _ h1,h2,h3⟩
theorem b0c:∀c∈LET.cps.toList,sgn LET c=true:=by decide +kernel
theorem b0b:∀c∈SGN.cps.toList,sgn SGN c=true:=by decide +kernel
theorem b1c:∀c∈LET.cps.toList,sgn SGN c=true:=by decide +kernel
theorem a5J(cs:List Nat):Txt.join (Str.ofString "") (cs.map fun k=>(⟨#[k]⟩:Str))=⟨cs.toArray⟩:=by
 show Builtin.Str.glued ("") _=_
 rw[StrLaws.glued_eq_join]
 exact PyProof.Rows.join_ones cs
theorem b4K{ch:Nat}{cs:List Nat}(h1:ch∈LET.cps.toList)(h2:∀c∈cs,c∈SGN.cps.toList)(hl:cs.length<=7):NmS ((⟨#[ch]⟩:Str)++⟨cs.toArray⟩):=by
 have hlen:((⟨#[ch]⟩:Str)++⟨cs.toArray⟩).length=cs.length+1:=by
  rw[Str.length_append]
  show 1+cs.toArray.size=_
  rw[b6];omega
 have hc:((⟨#[ch]⟩:Str)++⟨cs.toArray⟩).cps=(ch::cs).toArray:=by
  rw[Str.cps_append]
  show #[ch]++cs.toArray=_
  simp
 refine⟨?_,by omega⟩
 unfold F7
 rw[hlen,hc]
 have e0:(ch::cs).toArray[0]? = some ch:=by simp
 rw[e0]
 simp only[p8,decide_eq_true_eq,u9]
 refine⟨⟨⟨by omega,by omega⟩,b0c ch h1⟩,?_⟩
 intro c hcc
 have hcc:c∈ch::cs:=by simpa using hcc
 rcases g5.mp hcc with q | q
 ·subst q;exact b1c _ h1
 ·exact b0b c (h2 c q)
theorem a9Y{ss:List Str}(h:∀s∈ss,NmS s)(hs:NmS s):∀t∈ss++[s],NmS t:=by
 intro t ht
 rcases E5.mp ht with q | q
 ·exact h t q
 ·rw[K9.mp q];exact hs
theorem b1a:∀s∈(["a","k0","ab","set","abc","k1","abcdefgh","b","ask","x9","a1","abcdefg","plus","ba","k10","z"]:List Str),NmS s:=by
 have:∀s∈(["a","k0","ab","set","abc","k1","abcdefgh","b","ask","x9","a1","abcdefg","plus","ba","k10","z"]:List Str),F7 s=true/\s.length<=8:=by decide +kernel
 exact this
theorem b0Z{K:Fg}{E:XK}(hB:Bag H b c)(k:∀s H',NmS s->Bag H' b c->m4 b H H'->Q (.str s) H'):a0Y K [.ref b] H Q E:=by
 refine⟨rfl,?_⟩
 unfold a8m
 walk_at "go"
 refine a5s (X3 (by decide +kernel)) ?_
 walk_at "go"
 refine z7 hB (by decide) (by decide) fun n H1 n0 n1 B1 k1=>?_
 obtain⟨ch,hc,hc2⟩:=N9 (xs:=("abcdefghijklmnopqrstuvwxyz" : Str).cps.toList) n0 (by
  have:(("abcdefghijklmnopqrstuvwxyz" : Str).cps.toList).length=26:=by decide +kernel
  omega)
 refine a6q (X3 (by decide +kernel)) hc ?_
 walk_at "go"
 exact_mod_cast a3i (a5p ?_)
 walk_at "go"
 refine z7 B1 (by decide) (by decide) fun m H2 m0 m1 B2 k2=>?_
 walk_at "go"
 refine⟨m,rfl,by omega,by omega,fun D hD=>?_⟩
 obtain⟨nb,nc⟩:=B2.nb hD
 refine a9u (fun i ys H3=>∃cs:List Nat,ys=cs.map (fun k=>V.str (⟨#[k]⟩:Str))/\cs.length=i/\(∀c∈cs,c∈SGN.cps.toList)/\H3 D=some (.lst ys)/\Bag H3 b c/\m4 b H2 H3) ?_ ?_ ?_ ?_
 ·exact⟨[],rfl,rfl,by simp,j4,B2.new hD,m4.new hD⟩
 ·rintro i ys H3 ⟨_,_,_,_,h,_⟩
  exact h
 ·rintro i ys H3 hi ⟨cs,rfl,rfl,h1,hd,B3,k3⟩ R hR
  ext
  refine z7 B3 (by decide) (by decide) fun j H4 j0 j1 B4 k4=>?_
  obtain⟨cj,hcj,hcj2⟩:=N9 (xs:=(("abcdefghijklmnopqrstuvwxyz" : Str)++("0123456789" : Str)).cps.toList) j0 (by
   have:((("abcdefghijklmnopqrstuvwxyz" : Str)++("0123456789" : Str)).cps.toList).length=36:=by decide +kernel
   omega)
  refine a6q (X3 (by decide +kernel)) hcj ?_
  refine hR _ _ (k4.1 _ _ hd nb) (a1u (by rw[g8];omega)) ⟨cs++[cj],by simp,by simp,?_,j4,B4.put nb nc,(k3.trans k4).put hD⟩
  intro s hs
  rcases E5.mp hs with q | q
  ·exact h1 s q
  ·rw[K9.mp q,<-a8q]
   exact mI hcj2
 ·rintro ys H3 ⟨cs,rfl,hn,h1,hd,B3,k3⟩
  ext
  have he:cs.map (fun k=>V.str (⟨#[k]⟩:Str))=(cs.map fun k=>(⟨#[k]⟩:Str)).map V.str:=by rw[b4Y];rfl
  rw[he]at hd
  have hsum:((cs.map fun k=>(⟨#[k]⟩:Str)).map (·.length)).sum=cs.length:=by
   clear hn hd he h1
   induction cs with
   | nil=>rfl
   | cons s r ih=>
    rw[C5,C5,List.sum_cons,ih,D4]
    show 1+_=_
    omega
  refine b2s hd (a5h _) ?_ ?_
  ·rw[hsum,g8]
   show cs.length+cs.length * 0<=_
   omega
  ·have hj:Txt.join (Str.ofString "") (cs.map fun k=>(⟨#[k]⟩:Str))=⟨cs.toArray⟩:=a5J cs
   rw[hj]
   have hl7:cs.length<=7:=by omega
   have hN:=b4K (mI hc2) h1 hl7
   refine a5s (X3 ?_) ?_
   ·have:=hN.2
    rw[Str.length_append]at this
    omega
   ·exact k _ _ hN B3 ((k1.trans k2).trans k3)
theorem a9B(ss:List Str):(ss.map V.str).all C3=true:=by
 rw[u9]
 intro x hx
 obtain⟨s,_,rfl⟩:=F9.mp hx
 rfl
theorem a9h{K:Fg}{E:XK}(hB:Bag H b c)(k:∀a H',P4 H' a->Bag H' b c->m4 b H H'->H a=none->Q (.ref a) H'):Z7 K [.ref b] H Q E:=by
 refine⟨rfl,?_⟩
 unfold a6f
 walk_at "go"
 refine v7 (by decide) fun p1 G1 h1 e1 s1=>?_
 walk_at "go"
 refine v7 (by decide) fun p2 G2 h2 e2 s2=>?_
 walk_at "go"
 refine a1B (s2 _ _ e1) e2 (v7 (by decide) fun p3 H0 h3 e3 s3'=>?_)
 have s3:j7 H H0:=(s1.trans s2).trans s3'
 have B0:=hB.same s3
 obtain⟨M,hM⟩:∃M:List Str,M=(["a","k0","ab","set","abc","k1","abcdefgh","b","ask","x9","a1","abcdefg","plus","ba","k10","z"]:List Str):=⟨_,rfl⟩
 have hm:H0 p3=some (.lst (M.map V.str)):=by rw[e3,hM];rfl
 have nM:∀s∈M,NmS s:=by rw[hM];exact b1a
 have lM:M.length=16:=by rw[hM];rfl
 clear hM e1 e2 e3 h1 h2 h3 s1 s2 s3'
 walk_at "go"
 refine z7 B0 (by decide) (by decide) fun f H1 f0 f1 B1 k1=>?_
 walk_at "go"
 refine z7 B1 (by decide) (by decide) fun g H2 g0 g1 B2 k2=>?_
 refine K0 (.inl (by omega)) ?_
 walk_at "go"
 exists v7 (by decide) fun D H2' hD hd2 s2=>?_
 have pb:p3≠b:=by
  obtain⟨i0,i1,i2,ns,hb,_⟩:=B0.ex
  refine a9g hm hb ?_
  intro z
  have z:=HO.lst.inj z
  cases M with
  | nil=>cases lM
  | cons s r=>cases z
 have hm2:H2 p3=some (.lst (M.map V.str)):=k2.1 _ _ (k1.1 _ _ hm pb) pb
 obtain⟨nb,nc⟩:=B2.nb hD
 have hDp:D≠p3:=(o0 hm2 hD).symm
 exact_mod_cast a2v ?_
 exact_mod_cast a6m (a5p ?_)
 walk_at "go"
 refine z7 (B2.same s2) (by decide) (by decide) fun m H3 m0 m1 B3 k3=>?_
 walk_at "go"
 have hd3:H3 D=some (.lst (([]:List Str).map V.str)):=k3.1 _ _ hd2 nb
 have k03:m4 b H2 H3:=(m4.of_same s2).trans k3
 refine⟨2+m,rfl,by omega,by omega,a2E (fun i σ H4=>∃x5 x6 ss,(∀s∈(ss:List Str),NmS s)/\σ=[some (.ref b),some (.ref p3),some (.int f),some (.int (1+2 * g)),some (.ref D),x5,x6]/\H4 D=some (.lst ((ss:List Str).map V.str))/\ss.length<=i/\(0<i->ss≠[])/\Bag H4 b c/\m4 b H2 H4) ?_ ?_ ?_⟩
 ·exact⟨_,_,[],by simp,rfl,hd3,a8 _,by simp,B3,k03⟩
 ·rintro i _ H4 hi ⟨x5,x6,ss,hss,rfl,hd,hl,hne,B4,k4⟩
  have hi:i<(2+m).toNat:=hi
  ext
  exact_mod_cast a1A (P:=fun σ H5=>∃s,NmS s/\σ=[some (.ref b),some (.ref p3),some (.int f),some (.int (1+2 * g)),some (.ref D),some (.int (0+i)),some (.str s)]/\H5 D=some (.lst ((ss:List Str).map V.str))/\Bag H5 b c/\m4 b H2 H5) ?_ ?_
  ·rintro _ H5 ⟨s,hs,rfl,hd5,B5,k5⟩
   exact_mod_cast a1A (P:=fun σ H6=>∃s,NmS s/\σ=[some (.ref b),some (.ref p3),some (.int f),some (.int (1+2 * g)),some (.ref D),some (.int (0+i)),some (.str s)]/\H6 D=some (.lst ((ss:List Str).map V.str))/\Bag H6 b c/\m4 b H2 H6) ?_ ?_
   ·rintro _ H6 ⟨s,hs,rfl,hd6,B6,k6⟩
    ext
    exists a8D hd6 rfl (a9B ss) ?_
    refine W8 (fun e=>?_) (fun e=>?_)
    ·ext
     specialize b4i ?_
     exists ⟨.inl ⟨rfl,_,SqL.of hd6⟩,?_⟩
     refine a8G hd6 (a1u (by rw[g8];omega)) ?_
     exact⟨_,_,ss++[s],a9Y hss hs,rfl,by rw[j4];simp,by rw[u8,a7H];omega,fun _=>by simp,B6.put nb nc,k6.put hD⟩
    ·ext
     refine⟨_,_,ss,hss,rfl,hd6,by omega,fun _ z=>?_,B6,k6⟩
     subst z
     exact e rfl
   ·intro nx hnx
    ext
    exists z7 B5 (by decide) (by decide) fun q H6 _ _ B6 k6=>?_
    refine W8 (fun _=>?_) (fun _=>?_)
    ·ext
     exists b0Z B6 fun s' H7 hs' B7 k7=>?_
     exact hnx _ _ ⟨s',hs',rfl,k7.1 _ _ (k6.1 _ _ hd5 nb) nb,B7,(k5.trans k6).trans k7⟩
    ·ext
     exact hnx _ _ ⟨s,hs,rfl,k6.1 _ _ hd5 nb,B6,k5.trans k6⟩
  ·intro nx hnx
   ext
   exists K0 (.inl (by omega)) ?_
   refine K0 (by decide) ?_
   obtain⟨v,hv,hv2⟩:=N9 (xs:=M.map V.str) (i:=(f+(0+(i:Int)) * (1+2 * g)) % 16) (C1 _ (by decide)) (by
    rw[g8,lM]
    exact A8 _ (by decide))
   obtain⟨s,hsM,rfl⟩:=F9.mp (mI hv2)
   exists J9 (k4.1 _ _ hm2 pb) hv ?_
   exact hnx _ _ ⟨s,nM s hsM,rfl,hd,B4,k4⟩
 ·rintro _ H4 ⟨x5,x6,ss,hss,rfl,hd,hl,hne,B4,k4⟩
  walk_at "go"
  refine k D H4 ⟨ss,hd,hne (by omega),by omega,hss⟩ B4 (((m4.of_same s3).trans (k1.trans k2)).trans k4) ?_
  exact(m4.of_same (b:=b) s3).none (k1.none (k2.none hD))
theorem a8P:(10:Int) ^ (12:Int).toNat=1000000000000:=by decide
theorem a8h{K:Fg}{E:XK}(hB:Bag H b c)(k:∀n H',0<=n->n<1000000000000->Bag H' b c->m4 b H H'->Q (.int n) H'):Z5 K [.ref b] H Q E:=by
 refine⟨rfl,?_⟩
 unfold a6e
 walk_at "go"
 refine K0 ⟨by decide,by decide,by decide⟩ ?_
 walk_at "go"
 refine z7 hB (by decide) (by decide) fun n1 H1 a0 a1 B1 k1=>?_
 walk_at "go"
 refine z7 B1 (by decide) (by decide) fun n2 H2 b0 b1 B2 k2=>?_
 walk_at "go"
 refine v7 (by simp) fun p G hp e s=>?_
 walk_at "go"
 refine z7 (B2.same s) (by decide) (by decide) fun n3 H3 c0 c1 B3 k3=>?_
 have hp3:=k3.1 p _ e (B2.nb hp).1
 rw[a8P]at hp3
 have kk:m4 b H H3:=(k1.trans k2).trans ((m4.of_same s).trans k3)
 obtain⟨v,hv,hv2⟩:=N9 (xs:=([.int 0,.int 1,.int (1000000000000 - 1 - n1),.int n2]:List V)) c0 (by simpa using c1)
 refine J9 hp3 hv ?_
 have:∃n,v=.int n/\0<=n/\n<1000000000000:=by
  have m:=mI hv2
  simp only[g5,D3,or_false]at m
  rcases m with rfl | rfl | rfl | rfl
  ·exact⟨0,rfl,by decide,by decide⟩
  ·exact⟨1,rfl,by decide,by decide⟩
  ·exact⟨_,rfl,by omega,by omega⟩
  ·exact⟨_,rfl,by omega,by omega⟩
 obtain⟨n,rfl,q0,q1⟩:=this
 exact k n H3 q0 q1 B3 kk
theorem Y0{K:Fg}{E:XK}(hB:Bag H b c)(hN:P4 H a)(k:∀v H',OpN v->Bag H' b c->m4 b H H'->Q v H'):M0 K [.ref b,.ref a] H Q E:=by
 refine⟨rfl,?_⟩
 unfold a2o
 nofun
 exists z7 hB (by decide) (by decide) fun n1 H1 a0 a1 B1 k1=>?_
 refine W8 (fun _=>?_) (fun _=>?_)
 ·ext
  exact a8h B1 fun n H2 q0 q1 B2 k2=>k _ _ (.inr ⟨n,rfl,q0,q1⟩) B2 (k1.trans k2)
 ·ext
  obtain⟨N1,ne⟩:=hN.kept hB k1
  obtain⟨ss,h1,h2,h3,h4⟩:=N1.ex
  exists a3k h1 ?_
  have hl:0<ss.length:=a0m.mpr h2
  refine z7 B1 (by rw[g8];omega) (by rw[g8];omega) fun n2 H2 b0 b1 B2 k2=>?_
  obtain⟨v,hv,hv2⟩:=N9 (xs:=ss.map V.str) b0 b1
  obtain⟨s,hs,rfl⟩:=F9.mp (mI hv2)
  exact J9 (k2.1 _ _ h1 ne) hv (k _ _ (.inl ⟨s,rfl,h4 s hs⟩) B2 (k1.trans k2))
theorem a6y{K:Fg}{E:XK}(hB:Bag H b c)(hN:P4 H a)(k:∀p H',a9E H' p->H p=none->Bag H' b c->m4 b H H'->Q (.ref p) H'):Z8 K [.ref b,.ref a] H Q E:=by
 refine⟨rfl,?_⟩
 unfold a8o
 nofun
 exists v7 (by decide) fun p G hp e s=>?_
 refine z7 (hB.same s) (by decide) (by decide) fun n1 H1 a0 a1 B1 k1=>?_
 have hp1:=k1.1 p _ e (hB.nb hp).1
 have k01:m4 b H H1:=(m4.of_same s).trans k1
 obtain⟨v,hv,hv2⟩:=N9 (xs:=([.str "plus",.str "minus",.str "times",.str "less",.str "same"]:List V)) a0 (by simpa using a1)
 refine J9 hp1 hv ?_
 have:∃kd:Str,v=.str kd/\kd∈(["plus","minus","times","less","same"]:List Str):=by
  have m:=mI hv2
  simp only[g5,D3,or_false]at m
  rcases m with rfl | rfl | rfl | rfl | rfl <;> exact⟨_,rfl,by simp⟩
 obtain⟨kd,rfl,hkd⟩:=this
 ext
 nofun
 obtain⟨N1,_⟩:=hN.kept hB k01
 exists Y0 B1 N1 fun v1 H2 o1 B2 k2=>?_
 nofun
 obtain⟨N2,_⟩:=N1.kept B1 k2
 exists Y0 B2 N2 fun v2 H3 o2 B3 k3=>?_
 exact_mod_cast a1A (P:=fun σ H4=>∃v2,σ=[some (.ref b),some (.ref a),some (.str kd),some v1,some v2]/\OpN v2/\Bag H4 b c/\m4 b H3 H4) ?_ ?_
 ·rintro _ H4 ⟨v2,rfl,o2,B4,k4⟩
  ext
  refine v7 (by simp) fun q G hq e s=>?_
  exact k q _ ⟨kd,v1,v2,e,o1,o2,hkd⟩ (k01.none (k2.none (k3.none (k4.none hq)))) (B4.same s) ((((k01.trans k2).trans k3).trans k4).trans (m4.of_same s))
 ·intro nx hnx
  ext
  exists z7 B3 (by decide) (by decide) fun n4 H4 d0 d1 B4 k4=>?_
  refine W8 (fun _=>?_) (fun _=>?_)
  ·ext
   exact hnx _ _ ⟨v1,rfl,o1,B4,k4⟩
  ·ext
   exact hnx _ _ ⟨v2,rfl,o2,B4,k4⟩
def tyD:PyData->String
 | .none => "NoneType"
 | .bool _ => "bool"
 | .int _ => "int"
 | .str _ => "str"
 | .list _ => "list"
 | .tuple _ => "tuple"
 | .dict _ => "dict"
theorem Q4{d:PyData}(h:RdP H v d):V0 v H=some (tyD d):=by
 cases h with
 | lst e _=>simp only[V0,e];rfl
 | tup e _=>simp only[V0,e];rfl
 | dct e=>simp only[V0,e];rfl
 | _=>rfl
def nmB:PyData->Bool
 | .str s=>F7 s
 | _=>false
def vaB:PyData->Bool
 | .int i=>decide (0<=i)&&decide (i<1000000000000)
 | _=>false
def opB(d:PyData):Bool:=nmB d||vaB d
def v5(d:PyData):Prop:=d.weight<=400
theorem V4{K:Fg}{d:PyData}{E:XK}(h:RdP H v d)(hs:v5 d)(k:∀H',j7 H H'->Q (.bl (nmB d)) H'):D1 K [v] H Q E:=by
 by_cases hd:∃s,d=.str s
 ·obtain⟨s,rfl⟩:=hd
  cases h
  exact a4C (by unfold v5 at hs;simp only[PyData.weight]at hs;exact hs) k
 ·have ht:=Q4 h
  have e1:K6 (tyD d) "str" = false:=by
   cases d with
   | str s=>exact absurd ⟨s,rfl⟩ hd
   | _=>simp only[tyD];decide
  have e2:nmB d=false:=by
   cases d with
   | str s=>exact absurd ⟨s,rfl⟩ hd
   | _=>rfl
  refine⟨rfl,?_⟩
  unfold a0v
  nofun
  refine P9 ht (by decide) ?_
  rw[e1]
  ext
  refine o6 rfl ?_
  exists o6 rfl ?_
  rw[<-e2]
  exact k H (j7.refl _)
def whB:PyData->Bool
 | .int _=>true
 | _=>false
theorem a2l{d:PyData}(h:RdP H v d)(k:Q (.bl (whB d)) H) :
  z6 (D7 (tCB R7 (a6 (b4 0) (a6 (tC (.ty "int")) d4))) (a2r (tCB R7 (a6 (b4 0) (a6 (tC (.ty "bool")) d4))))) { nx:=fun _ H'=>Q .non H',rt:=Q } [some v] H:=by
 have ht:=Q4 h
 ext
 exists P9 ht (by decide) ?_
 by_cases e:K6 (tyD d) "int" = true
 ·exists o6 e ?_
  exists P9 ht (by decide) ?_
  have e2:(!K6 (tyD d) "bool")=whB d:=by
   cases d with
   | int i=>simp only[tyD,whB];decide
   | bool b=>simp only[tyD,whB];decide
   | _=>exact absurd e (by simp only[tyD];decide)
  rw[e2]
  exact k
 ·refine n8 (by simpa using e) ?_
  have e2:whB d=false:=by
   cases d with
   | int i=>exact absurd (by simp only[tyD];decide) e
   | _=>rfl
  rw[e2]at k
  exact k
theorem a3u{K:Fg}{d:PyData}{E:XK}(h:RdP H v d)(k:Q (.bl (vaB d)) H):P8 K [v] H Q E:=by
 refine⟨rfl,?_⟩
 unfold a1q
 ext
 refine(show P7 K [v] H _ _ from⟨rfl,a2l h ?_⟩)
 refine⟨_,rfl,?_⟩
 cases h with
 | int i=>
  exists o6 rfl ?_
  by_cases h0:0<=i
  ·exists o6 (b6d h0) ?_
   have e:vaB (.int i)=decide (i<1000000000000):=by unfold vaB;simp[h0]
   rw[e]at k
   exact k
  ·refine n8 (b6c h0) ?_
   have e:vaB (.int i)=false:=by unfold vaB;simp[h0]
   rw[e]at k
   exact k
 | _=>exact n8 rfl k
theorem K5{K:Fg}{d:PyData}{E:XK}(h:RdP H v d)(hs:v5 d)(k:∀H',j7 H H'->Q (.bl (opB d)) H'):A9 K [v] H Q E:=by
 refine⟨rfl,?_⟩
 unfold Z2
 ext
 refine V4 h hs fun G s=>?_
 refine⟨_,rfl,?_⟩
 cases e:nmB d with
 | true=>
  have:=k G s
  unfold opB at this
  rw[e]at this
  exact a3t this
 | false=>
  exists a1Z ?_
  refine a3u (RdP.same s h) ?_
  have:=k G s
  unfold opB at this
  rw[e]at this
  exact this
def inD(ss:List Str)(d:PyData):Bool:=match d with
 | .str s=>inV (.str s) (ss.map V.str)
 | _=>false
def kdB:PyData->Bool:=inD ["plus","minus","times","less","same"]
def L4:PyData->Bool
 | .tuple [k,a,b]=>kdB k&&(opB a&&opB b)
 | _=>false
theorem b1M{K:Fg}{d:PyData}{ss:List Str}(h:RdP H v d)(hp:SqT K H p (ss.map V.str))(k:Q (.bl (inD ss d)) H):a8K K v (.ref p) H Q:=by
 refine⟨p,ss,rfl,hp,?_⟩
 have hno:∀x:V,(∀s,x≠.str s)->C3 x=true->inV x (ss.map V.str)=false:=by
  intro x hx hf
  unfold inV
  rw[b1B]
  intro z
  rw[List.any_eq_true]at z
  obtain⟨y,hy,e⟩:=z
  obtain⟨s,_,rfl⟩:=F9.mp hy
  cases x with
  | str s=>exact hx s rfl
  | _=>cases e
 cases h with
 | non=>exact .inl ⟨rfl,by rw[hno _ (fun s z=>by cases z) rfl];exact k⟩
 | bl b=>exact .inl ⟨rfl,by rw[hno _ (fun s z=>by cases z) rfl];exact k⟩
 | int i=>exact .inl ⟨rfl,by rw[hno _ (fun s z=>by cases z) rfl];exact k⟩
 | str s=>exact .inl ⟨rfl,k⟩
 | lst e _=>exact .inr ⟨⟨_,rfl,.inr (.inl ⟨_,e⟩)⟩,k⟩
 | tup e _=>exact .inr ⟨⟨_,rfl,.inl ⟨_,e⟩⟩,k⟩
 | dct e=>exact .inr ⟨⟨_,rfl,.inr (.inr ⟨_,e⟩)⟩,k⟩
def isS(z:Str):PyData->Bool
 | .str s=>decide (s=z)
 | _=>false
theorem a6r{d:PyData}(h:RdP H v d)(k:Q (.bl (isS z d)) H):a5t v (.str z) H Q:=by
 cases h with
 | non=>exact .inl ⟨false,rfl,k⟩
 | bl b=>exact .inl ⟨false,rfl,k⟩
 | int i=>exact .inl ⟨false,rfl,k⟩
 | str s=>
  refine .inl ⟨_,if_pos rfl,?_⟩
  have e:decide (V.str s=V.str z)=decide (s=z):=by
   by_cases q:s=z
   ·subst q;simp
   ·rw[b6c q,b6c (fun w=>q (V.str.inj w))]
  rw[e]
  exact k
 | lst e _=>exact .inr ⟨⟨_,rfl,.inr (.inl ⟨_,e⟩)⟩,⟨_,rfl⟩,k⟩
 | tup e _=>exact .inr ⟨⟨_,rfl,.inl ⟨_,e⟩⟩,⟨_,rfl⟩,k⟩
 | dct e=>exact .inr ⟨⟨_,rfl,.inr (.inr ⟨_,e⟩)⟩,⟨_,rfl⟩,k⟩
theorem a2t:∀ {ds:List PyData} {d:PyData} {n:Nat},d∈ds->PyData.weightAll ds<=n->d.weight<=n
 | e::ds,d,n,h,q=>by
  simp only[PyData.weightAll]at q
  rcases g5.mp h with rfl | h
  ·omega
  ·exact a2t h (by omega)
theorem O9{ds:List PyData}{d:PyData}(h:d∈ds)(q:v5 (.tuple ds)):v5 d:=by
 unfold v5 at q ⊢
 simp only[PyData.weight]at q
 exact a2t h q
theorem M9:∀ {H:Hp} {xs:List V} {ds:List PyData},C4 H xs ds->xs.length=ds.length
 | _,_,_,.nil=>rfl
 | _,_,_,.cons _ r=>by simp[M9 r]
theorem a6o:∀ {H:Hp} {xs:List V} {ds:List PyData} {i:Nat} {d:PyData},C4 H xs ds->ds[i]? = some d->∃x,xs[i]? = some x/\RdP H x d
 | _,_,_,_,_,.nil,h=>by simp at h
 | _,_,_,0,_,.cons a r,h=>by simp at h;subst h;exact⟨_,rfl,a⟩
 | _,_,_,i+1,_,.cons a r,h=>by
  obtain⟨x,e,q⟩:=a6o (i:=i) r (by simpa using h)
  exact⟨x,by simpa using e,q⟩
theorem a4H{ds:List PyData}(h:ds.length≠3):L4 (.tuple ds)=false:=by
 match ds,h with
 | [],_=>rfl
 | [_],_=>rfl
 | [_,_],_=>rfl
 | [_,_,_],h=>exact absurd rfl h
 | _::_::_::_::_,_=>rfl
theorem a0O{K:Fg}{c:Cn}{d:PyData}{E:XK}(ck:a9F K c)(h:RdP H v d)(hs:v5 d)(k:∀H',j7 H H'->Q (.bl (L4 d)) H'):P3 K c [v] H Q E:=by
 have ht:=Q4 h
 refine⟨rfl,?_⟩
 unfold a2p
 nofun
 exists P9 ht (by decide) ?_
 by_cases hd:∃ds,d=.tuple ds
 rotate_left
 ·have e1:K6 (tyD d) "tuple" = false:=by
   cases d with
   | tuple s=>exact absurd ⟨s,rfl⟩ hd
   | _=>simp only[tyD];decide
  have e2:L4 d=false:=by
   cases d with
   | tuple s=>exact absurd ⟨s,rfl⟩ hd
   | _=>rfl
  refine o6 (by rw[e1];rfl) ?_
  exists o6 rfl ?_
  rw[<-e2]
  exact k H (j7.refl _)
 obtain⟨ds,rfl⟩:=hd
 cases h with
 | tup hp rs=>
 exists n8 (by simp only[tyD];decide) ?_
 exists S5 hp ?_
 by_cases h3:ds.length=3
 rotate_left
 ·exists o6 (by rw[M9 rs,b1A,decide_eq_false_iff_not];intro z;have:=V.int.inj z;omega) ?_
  rw[<-a4H h3]
  exact k H (j7.refl _)
 match ds,rs,h3,hs,k with
 | [d0,d1,d2],.cons (x:=x0) r0 (.cons (x:=x1) r1 (.cons (x:=x2) r2 .nil)),_,hs,k=>
 exists n8 (by simp) ?_
 exists O1 hp (Y3 _ _) ?_
 refine b1M (ss:=["plus","minus","times","less","same"]) r0 (ck.a3I H) ?_
 refine⟨_,rfl,?_⟩
 rw[show inD ["plus","minus","times","less","same"] d0=kdB d0 from rfl]
 cases e0:kdB d0 with
 | false=>
  refine a1Z ?_
  have:=k H (j7.refl _)
  simp only[L4,e0,z0]at this
  exact this
 | true=>
 exists a3t ?_
 exists O1 hp (a9A _ _ _) ?_
 refine K5 r1 (O9 (by simp) hs) fun G1 s1=>?_
 refine⟨_,rfl,?_⟩
 cases e1:opB d1 with
 | false=>
  refine a1Z ?_
  have:=k G1 s1
  simp only[L4,e0,e1,z0,A1]at this
  exact this
 | true=>
 exists a3t ?_
 exists O1 (s1 _ _ hp) (b1p _ _ _ _) ?_
 refine K5 (RdP.same s1 r2) (O9 (by simp) hs) fun G2 s2=>?_
 have:=k G2 (s1.trans s2)
 simp only[L4,e0,e1,A1]at this
 exact this
theorem a1H{g:Bool}(hz:z.length<=400)(k:∀H',j7 H H'->Q (.bl (g&&z.cps.toList.all (sgn SGN))) H') :
  if g=true then tOp qEq (a0M (a7r (b4 0)) (y9 (tOp (qIn true) (b4 0) (b4 3))) (b4 0)) (R3 (d4)) [some (.str z),some (.bl g),some (.str SGN)] H Q else Q (.bl false) H:=by
 cases g with
 | false=>
  refine a1Z ?_
  exact k H (j7.refl _)
 | true=>
 exists a3t ?_
 have hl:z.cps.toList.length=z.length:=q9
 specialize a3i (a8y ?_)
 refine⟨z,rfl,fun D hD=>?_⟩
 refine a4J (fun i ys H2=>ys=((z.cps.toList.take i).filter (fun c => !sgn SGN c)).map (fun c=>V.str ⟨#[c]⟩)/\H2=upd H D (.lst ys)) ⟨by simp,rfl⟩ ?_ ?_ ?_
 ·rintro i ys _ ⟨_,rfl⟩
  exact j4
 ·rintro i c ys _ hc ⟨rfl,rfl⟩ R R' hR hR'
  have hc':z.cps.toList[i]? = some c:=by rw[F1];exact hc
  ext
  refine b2q (S:=SGN) ?_
  refine⟨_,rfl,?_⟩
  cases hq:sgn SGN c with
  | true=>
   refine n8 rfl ?_
   refine hR' _ ⟨?_,rfl⟩
   rw[T6,hc'];simp[hq]
  | false=>
   exists o6 rfl ?_
   refine hR _ _ j4 (a1u ?_) ⟨?_,?_⟩
   ·rw[g8]
    have:=List.length_filter_le (fun c => !sgn SGN c) (z.cps.toList.take i)
    rw[o9]at this
    omega
   ·rw[T6,hc'];simp[hq]
   ·rw[a0X]
 ·rintro ys _ ⟨rfl,rfl⟩
  ext
  refine v7 (by decide) fun q G _ e s=>?_
  have hf:(((z.cps.toList.take z.length).filter (fun c => !sgn SGN c)).map (fun c=>V.str ⟨#[c]⟩)).all C3=true:=by
   rw[u9]
   intro x hx
   obtain⟨c,_,rfl⟩:=F9.mp hx
   rfl
  refine⟨_,b1l (s _ _ j4) e hf rfl,?_⟩
  have ea:T0 (((z.cps.toList.take z.length).filter (fun c => !sgn SGN c)).map (fun c=>V.str ⟨#[c]⟩)) []=(true&&z.cps.toList.all (sgn SGN)):=by
   rw[A1,v9 (by omega)]
   unfold T0
   rw[a2Q,Nat.min_zero,g8]
   show(true&&_)=_
   rw[A1]
   generalize z.cps.toList=l
   induction l with
   | nil=>rfl
   | cons a r ih=>
    rw[List.filter_cons,a4U]
    cases ha:sgn SGN a with
    | true=>simpa using ih
    | false=>simp
  rw[ea]
  exact k G ((C2 hD).trans s)
theorem b1b{K:Fg}{E:XK}(hz:z.length<=400)(k:∀H',j7 H H'->Q (.bl (F7 z)) H'):o8 K [.str z] H Q E:=by
 refine⟨rfl,?_⟩
 unfold L9
 have hz':=X3 (show z.length<=100000 by omega)
 nofun
 exists P9 (s := "str") rfl (by decide) ?_
 refine o6 (by decide) ?_
 nofun
 exists a5r hz' ?_
 by_cases h1:1<=z.length
 case neg=>
  refine n8 (b6c (by omega)) ?_
  exists ⟨_,rfl,a1Z ?_⟩
  nofun
  refine a1H (g:=false) hz fun G s=>?_
  have e:F7 z=false:=by unfold F7;rw[b6c h1];simp
  rw[z0,<-e]
  exact k G s
 exists o6 (b6d (by omega)) ?_
 by_cases h8:z.length<=8
 case neg=>
  exists n8 (b6c (show ¬((z.length:Int)<=8) by omega)) ?_
  nofun
  refine a1H (g:=false) hz fun G s=>?_
  have e:F7 z=false:=by unfold F7;rw[b6c h8];simp
  rw[z0,<-e]
  exact k G s
 exists o6 (b6d (show(z.length:Int)<=8 by omega)) ?_
 have hl:z.cps.toList.length=z.length:=q9
 obtain⟨c0,hc0,hc1⟩:=N9 (xs:=z.cps.toList) (i:=0) (by decide) (by omega)
 have hc2:z.cps[0]? = some c0:=by rw[<-F1];exact hc1
 exists a6q hz' hc0 ?_
 exists a8E (S:=LET) ?_
 nofun
 refine a1H (g:=sgn LET c0) hz fun G s=>?_
 have en:F7 z=(sgn LET c0&&z.cps.toList.all (sgn SGN)):=by
  unfold F7
  rw[b6d h1,b6d h8,hc2]
  simp
 rw[<-en]
 exact k G s
theorem a0Z{K:Fg}{d:PyData}{E:XK}(h:RdP H v d)(hs:v5 d)(k:∀H',j7 H H'->Q (.bl (opB d)) H'):o8 K [v] H Q E:=by
 by_cases hd:∃s,d=.str s
 ·obtain⟨s,rfl⟩:=hd
  cases h
  refine b1b (by unfold v5 at hs;simp only[PyData.weight]at hs;exact hs) fun G s=>?_
  have:=k G s
  simp only[opB,nmB,vaB,a4V]at this
  exact this
 ·have ht:=Q4 h
  have e1:K6 (tyD d) "str" = false:=by
   cases d with
   | str s=>exact absurd ⟨s,rfl⟩ hd
   | _=>simp only[tyD];decide
  have e2:nmB d=false:=by
   cases d with
   | str s=>exact absurd ⟨s,rfl⟩ hd
   | _=>rfl
  refine⟨rfl,?_⟩
  unfold L9
  nofun
  exists P9 ht (by decide) ?_
  exists n8 e1 ?_
  have k':=k H (j7.refl _)
  unfold opB at k'
  rw[e2,Bool.false_or]at k'
  refine(show Z4 K [v] H _ _ from⟨rfl,a2l h ?_⟩)
  refine⟨_,rfl,?_⟩
  cases h with
  | int i=>
   exists o6 rfl ?_
   by_cases h0:0<=i
   ·exists o6 (b6d h0) ?_
    exists K0 ⟨by decide,by decide,by decide⟩ ?_
    have e:vaB (.int i)=decide (i<1000000000000):=by unfold vaB;simp[h0]
    rw[e]at k'
    rw[a8P]
    exact k'
   ·refine n8 (b6c h0) ?_
    have e:vaB (.int i)=false:=by unfold vaB;simp[h0]
    rw[e]at k'
    exact k'
  | str s=>exact absurd ⟨s,rfl⟩ hd
  | _=>exact n8 rfl k'
theorem a0e{K:Fg}{d:PyData}{E:XK}(h:RdP H v d)(hs:v5 d)(k:∀H',j7 H H'->Q (.bl (L4 d)) H'):E8 K [v] H Q E:=by
 have ht:=Q4 h
 refine⟨rfl,?_⟩
 unfold X2
 nofun
 exists P9 ht (by decide) ?_
 by_cases hd:∃ds,d=.tuple ds
 rotate_left
 ·have e1:K6 (tyD d) "tuple" = false:=by
   cases d with
   | tuple s=>exact absurd ⟨s,rfl⟩ hd
   | _=>simp only[tyD];decide
  have e2:L4 d=false:=by
   cases d with
   | tuple s=>exact absurd ⟨s,rfl⟩ hd
   | _=>rfl
  refine o6 (by rw[e1];rfl) ?_
  exists o6 rfl ?_
  rw[<-e2]
  exact k H (j7.refl _)
 obtain⟨ds,rfl⟩:=hd
 cases h with
 | tup hp rs=>
 exists n8 (by simp only[tyD];decide) ?_
 exists S5 hp ?_
 by_cases h3:ds.length=3
 rotate_left
 ·refine o6 (by rw[M9 rs,b1A,decide_eq_false_iff_not];intro z;have:=V.int.inj z;omega) ?_
  exists o6 rfl ?_
  rw[<-a4H h3]
  exact k H (j7.refl _)
 match ds,rs,h3,hs,k with
 | [d0,d1,d2],.cons (x:=x0) r0 (.cons (x:=x1) r1 (.cons (x:=x2) r2 .nil)),_,hs,k=>
 exists n8 (by simp) ?_
 exists O1 hp (Y3 _ _) ?_
 exists P9 (Q4 r0) (by decide) ?_
 by_cases h0:∃s,d0=.str s
 rotate_left
 ·have e1:K6 (tyD d0) "str" = false:=by
   cases d0 with
   | str s=>exact absurd ⟨s,rfl⟩ h0
   | _=>simp only[tyD];decide
  have e2:kdB d0=false:=by
   cases d0 with
   | str s=>exact absurd ⟨s,rfl⟩ h0
   | _=>rfl
  exists o6 (by rw[e1];rfl) ?_
  have:=k H (j7.refl _)
  simp only[L4,e2,z0]at this
  exact this
 obtain⟨s,rfl⟩:=h0
 cases r0
 exists n8 (by simp only[tyD];decide) ?_
 nofun
 exists O1 hp (Y3 _ _) ?_
 refine v7 (by decide) fun q G _ e sm=>?_
 exists a8D e rfl rfl ?_
 have ek:kdB (.str s)=inV (.str s) [.str "plus",.str "minus",.str "times",.str "less",.str "same"]:=rfl
 cases e0:kdB (.str s)with
 | false=>
  rw[e0]at ek
  exists o6 (by rw[<-ek];rfl) ?_
  have:=k G sm
  simp only[L4,e0,z0]at this
  exact this
 | true=>
 rw[e0]at ek
 exists n8 (by rw[<-ek];rfl) ?_
 exists O1 (sm _ _ hp) (a9A _ _ _) ?_
 refine a0Z (RdP.same sm r1) (O9 (by simp) hs) fun G1 s1=>?_
 refine⟨_,rfl,?_⟩
 cases e1:opB d1 with
 | false=>
  refine a1Z ?_
  have:=k G1 (sm.trans s1)
  simp only[L4,e0,e1,z0,A1]at this
  exact this
 | true=>
 exists a3t ?_
 exists O1 (s1 _ _ (sm _ _ hp)) (b1p _ _ _ _) ?_
 refine a0Z (RdP.same (sm.trans s1) r2) (O9 (by simp) hs) fun G2 s2=>?_
 have:=k G2 ((sm.trans s1).trans s2)
 simp only[L4,e0,e1,A1]at this
 exact this
def m1(f:PyData->Bool):List PyData->Bool
 | [a]=>f a
 | _=>false
def m2(f g:PyData->Bool):List PyData->Bool
 | [a,b]=>f a&&g b
 | _=>false
def S4:PyData->Bool
 | .tuple (d0::r)=>if isS "set" d0 then m2 nmB L4 r
  else if isS "copy" d0 then m2 nmB opB r
  else if isS "take" d0 then m1 nmB r
  else if inD ["tell","ask"] d0 then m1 opB r
  else isS "skip" d0&&r.isEmpty
 | _=>false
theorem b4R(a:V)(r:List V):Q6 (a::r) (some 1) none=r:=by
 unfold Q6
 have e:HT.sIx (a::r).length 0 (some 1)=1:=by
  have:=HT.a0a (a::r).length 0 1
  rw[show((1:Nat):Int)=1 from rfl]at this
  rw[this,D4]
  omega
 rw[e]
 show List.take ((a::r).length - 1) r=r
 rw[v9 (by simp)]
theorem a7k(a:V)(r:List V):¬(HT.sIx (a::r).length 0 (some 1)=0/\HT.sIx (a::r).length (a::r).length none=(a::r).length):=by
 intro h
 have e:HT.sIx (a::r).length 0 (some 1)=1:=by
  have:=HT.a0a (a::r).length 0 1
  rw[show((1:Nat):Int)=1 from rfl]at this
  rw[this,D4]
  omega
 omega
theorem a6t(m:Int)(hm:m=n):decide (V.int (xs.length:Int)=V.int m)=decide (xs.length=n):=by
 subst hm
 by_cases h:xs.length=n
 ·rw[b6d h,b6d (by rw[h])]
 ·rw[b6c h,b6c (fun z=>h (by have:=V.int.inj z;omega))]
section
variable {K:Fg}{c:Cn}{d:PyData}{E:XK}{q:Addr}{r:List PyData}{f:PyData->Bool}
theorem a4u{sp:Sp}{D:VK}(hq:H q=some (.tup ys))(rs:C4 H ys r)(hs:∀e∈r,v5 e)(h2:σ[2]? = some (some (.ref q)))
  (look:∀ {x:V} {e:PyData} {R:VK},RdP H x e->v5 e->(∀H',j7 H H'->R (.bl (f e)) H')->sp [x] H R E0) (k:∀H',j7 H H'->D (.bl (m1 f r)) H') :
  D7 (tOp qEq (tCB L3 (a6 (b4 2) (d4))) (tC (.int 1))) (h9 sp [] E0 (a6 (tOp qIx (b4 2) (tC (.int 0))) (d4))) σ H D:=by
 ext
 exists a2u h2 ?_
 exists S5 hq ?_
 rw[a6t (n:=1) 1 rfl,M9 rs]
 match r,rs,hs,k with
 | [],_,_,k=>exact n8 rfl (k H (j7.refl _))
 | _::_::_,_,_,k=>exact n8 (by simp) (k H (j7.refl _))
 | [a],.cons r0 .nil,hs,k=>
  exists o6 rfl ?_
  exists a2u h2 ?_
  exists O1 hq (Y3 _ _) ?_
  exact look r0 (hs a (by simp)) fun G s=>k G s
theorem a4c{sp:Sp}{D:VK}(hq:H q=some (.tup ys))(rs:C4 H ys r)(hs:∀e∈r,v5 e)(h2:σ[2]? = some (some (.ref q)))
  (look:∀ {G:Hp} {x:V} {e:PyData} {R:VK},j7 H G->RdP G x e->v5 e->(∀H',j7 G H'->R (.bl (f e)) H')->sp [x] G R E0) (k:∀H',j7 H H'->D (.bl (m2 nmB f r)) H') :
  D7 (tOp qEq (tCB L3 (a6 (b4 2) (d4))) (tC (.int 2))) (D7 (h9 (D1 K) [] E0 (a6 (tOp qIx (b4 2) (tC (.int 0))) (d4))) (h9 sp [] E0 (a6 (tOp qIx (b4 2) (tC (.int 1))) (d4)))) σ H D:=by
 ext
 exists a2u h2 ?_
 exists S5 hq ?_
 rw[a6t (n:=2) 2 rfl,M9 rs]
 match r,rs,hs,k with
 | [],_,_,k=>exact n8 rfl (k H (j7.refl _))
 | [_],_,_,k=>exact n8 (by simp) (k H (j7.refl _))
 | _::_::_::_,_,_,k=>exact n8 (by simp) (k H (j7.refl _))
 | [a,b],.cons r0 (.cons r1 .nil),hs,k=>
  exists o6 rfl ?_
  exists a2u h2 ?_
  exists O1 hq (Y3 _ _) ?_
  refine V4 r0 (hs a (by simp)) fun G s=>?_
  refine⟨_,rfl,?_⟩
  cases e:nmB a with
  | false=>
   refine a1Z ?_
   have:=k G s
   simp only[m2,e,z0]at this
   exact this
  | true=>
  exists a3t ?_
  exists a2u h2 ?_
  exists O1 (s _ _ hq) (a9A _ _ _) ?_
  refine look s (RdP.same s r1) (hs b (by simp)) fun G' s'=>?_
  have:=k G' (s.trans s')
  simp only[m2,e,A1]at this
  exact this
theorem a5K(ck:a9F K c)(h:RdP H v d)(hs:v5 d)(k:∀H',j7 H H'->Q (.bl (S4 d)) H'):V9 K c [v] H Q E:=by
 have ht:=Q4 h
 refine⟨rfl,?_⟩
 unfold a4f
 nofun
 exists P9 ht (by decide) ?_
 by_cases hd:∃ds,d=.tuple ds
 rotate_left
 ·have e1:K6 (tyD d) "tuple" = false:=by
   cases d with
   | tuple s=>exact absurd ⟨s,rfl⟩ hd
   | _=>simp only[tyD];decide
  have e2:S4 d=false:=by
   cases d with
   | tuple s=>exact absurd ⟨s,rfl⟩ hd
   | _=>rfl
  refine o6 (by rw[e1];rfl) ?_
  exists o6 rfl ?_
  rw[<-e2]
  exact k H (j7.refl _)
 obtain⟨ds,rfl⟩:=hd
 cases h with
 | tup hp rs=>
 exists n8 (by simp only[tyD];decide) ?_
 exists S5 hp ?_
 rw[a6t (n:=0) 0 rfl,M9 rs]
 match ds,rs,hs,k with
 | [],.nil,hs,k=>
  exists o6 rfl ?_
  exact k H (j7.refl _)
 | d0::r,.cons (x:=x0) (xs:=ys) r0 rs,hs,k=>
 exists n8 (by simp) ?_
 nofun
 exists O1 hp (Y3 _ _) ?_
 nofun
 refine b4q hp (a7k _ _) fun q G hq e s=>?_
 rw[b4R]at e
 ext
 have r0:=RdP.same s r0
 have rs:=C4.same s rs
 have hsr:∀e∈r,v5 e:=fun e he=>O9 (l7 _ he) hs
 have k:∀H',j7 G H'->Q (.bl (S4 (.tuple (d0::r)))) H':=fun H' s'=>k H' (s.trans s')
 clear hs hp s
 nofun
 exists a6r r0 ?_
 unfold S4 at k
 refine W8 (fun e1=>?_) (fun e1=>?_)
 ·simp only[e1,if_true]at k
  exact_mod_cast a4l ?_
  exact a4c (f:=L4) e rs hsr rfl (fun s r q k=>a0O ck r q k) k
 simp only[e1,L0,if_false]at k
 ext
 nofun
 exists a6r r0 ?_
 refine W8 (fun e2=>?_) (fun e2=>?_)
 ·simp only[e2,if_true]at k
  exact_mod_cast a4l ?_
  exact a4c (f:=opB) e rs hsr rfl (fun s r q k=>K5 r q k) k
 simp only[e2,L0,if_false]at k
 ext
 nofun
 exists a6r r0 ?_
 refine W8 (fun e3=>?_) (fun e3=>?_)
 ·simp only[e3,if_true]at k
  exact_mod_cast a4l ?_
  exact a4u (f:=nmB) e rs hsr rfl (fun r q k=>V4 r q k) k
 simp only[e3,L0,if_false]at k
 ext
 nofun
 refine v7 (by decide) fun p2 G2 _ e4 s4=>?_
 exists b1M (ss:=["tell","ask"]) (RdP.same s4 r0) (SqT.of e4) ?_
 have k:∀H',j7 G2 H'->Q _ H':=fun H' s'=>k H' (s4.trans s')
 refine W8 (fun e5=>?_) (fun e5=>?_)
 ·simp only[e5,if_true]at k
  exact_mod_cast a4l ?_
  exact a4u (f:=opB) (s4 _ _ e) (C4.same s4 rs) hsr rfl (fun r q k=>K5 r q k) k
 simp only[e5,L0,if_false]at k
 ext
 refine a6r (RdP.same s4 r0) ?_
 refine⟨_,rfl,?_⟩
 cases e6:isS "skip" d0 with
 | false=>
  refine a1Z ?_
  have:=k G2 (j7.refl _)
  rw[e6]at this
  exact this
 | true=>
 exists a3t ?_
 exists S5 (s4 _ _ e) ?_
 rw[a6t (n:=0) 0 rfl,M9 rs]
 have:=k G2 (j7.refl _)
 rw[e6,A1]at this
 have ee:decide (r.length=0)=r.isEmpty:=by cases r <;> simp
 rw[ee]
 exact this
end
abbrev WD:List (Key×V):=[(Sum.inr "set",.str "nd"),(Sum.inr "copy",.str "no"),(Sum.inr "take",.str "n"),(Sum.inr "tell",.str "o"),(Sum.inr "ask",.str "o"),(Sum.inr "skip",.str "")]
def wOf(s:Str):Option Str:=if s = "set" then some "nd" else if s = "copy" then some "no" else if s = "take" then some "n" else if s = "tell" then some "o" else if s = "ask" then some "o" else if s = "skip" then some "" else none
theorem a6c(s:Str):a0R WD (Sum.inr s)=(wOf s).map V.str:=by
 have hk:∀a b:Str,decide ((Sum.inr a:Key)=Sum.inr b)=decide (b=a):=fun a b=>by
  by_cases h:b=a
  ·subst h;simp
  ·rw[b6c h,b6c (fun z=>h (Sum.inr.inj z).symm)]
 unfold a0R wOf
 simp only[E6,List.find?_nil,hk]
 repeat (first | rfl | (split <;> rename_i h <;> first | (rw[if_pos (by simpa using h)];rfl) | rw[if_neg (by simpa using h)]))
theorem b4Q(k:∀p H',H p=none->H' p=some (.dK WD)->j7 H H'->Q (.ref p) H') :
  a6g ((tC (.str "set"),tC (.str "nd"))::(tC (.str "copy"),tC (.str "no"))::(tC (.str "take"),tC (.str "n"))::(tC (.str "tell"),tC (.str "o"))::(tC (.str "ask"),tC (.str "o"))::(tC (.str "skip"),tC (.str ""))::[]) σ H Q:=by
 intro p hp
 refine(show(upd H p (.dK [])) p=some (.dK [])/\_ from⟨j4,WD,rfl,by simp,?_⟩)
 rw[a0X]
 exact k p _ hp j4 (C2 hp)
def U9(w:Nat)(d:PyData):Bool:=if w=100 then L4 d else if w=111 then opB d else nmB d
def a9D(x:Str)(r:List PyData):Prop:=∀(j:Nat) (c:Nat) (e:PyData),x.cps.toList[j]? = some c->r[j]? = some e->U9 c e=true
theorem b2n{r:List PyData}(h:wOf s=none):S4 (.tuple (.str s::r))=false:=by
 unfold wOf at h
 by_cases h1:s = "set"; · rw[if_pos h1]at h;cases h
 rw[if_neg h1]at h
 by_cases h2:s = "copy"; · rw[if_pos h2]at h;cases h
 rw[if_neg h2]at h
 by_cases h3:s = "take"; · rw[if_pos h3]at h;cases h
 rw[if_neg h3]at h
 by_cases h4:s = "tell"; · rw[if_pos h4]at h;cases h
 rw[if_neg h4]at h
 by_cases h5:s = "ask"; · rw[if_pos h5]at h;cases h
 rw[if_neg h5]at h
 by_cases h6:s = "skip"; · rw[if_pos h6]at h;cases h
 have e:inD ["tell","ask"] (.str s)=false:=by
  simp only[inD,inV,C5,a1e,T9,List.any_nil,eqV,a4V,Bool.or_eq_false_iff,beq_eq_false_iff_ne]
  exact⟨fun z=>h4 z.symm,fun z=>h5 z.symm⟩
 simp only[S4,isS,h1,h2,h3,h6,e,decide_false,L0,if_false,z0]
theorem a9T:inD ["tell","ask"] (.str "tell")=true:=by decide +kernel
theorem b3z:inD ["tell","ask"] (.str "ask")=true:=by decide +kernel
theorem b0a:inD ["tell","ask"] (.str "skip")=false:=by decide +kernel
theorem b0k{x:Str}{r:List PyData}(h:wOf s=some x):(x.length≠r.length->S4 (.tuple (.str s::r))=false)/\(x.length=r.length->(S4 (.tuple (.str s::r))=true↔a9D x r))/\∀c∈x.cps.toList,c=100\/c=110\/c=111:=by
 have two:∀(a b:Nat) (y:Str) (f g:PyData->Bool),y.cps.toList=[a,b]->(∀e,U9 a e=f e)->(∀e,U9 b e=g e)->(y.length≠r.length->m2 f g r=false)/\(y.length=r.length->(m2 f g r=true↔a9D y r)):=by
  intro a b y f g hy hf hg
  have hl:y.length=2:=by rw[<-show y.cps.toList.length=y.length from q9,hy];rfl
  rw[hl]
  match r with
  | []=>exact⟨fun _=>rfl,fun z=>by cases z⟩
  | [_]=>exact⟨fun _=>rfl,fun z=>by cases z⟩
  | _::_::_::_=>exact⟨fun _=>rfl,fun z=>by simp at z⟩
  | [u,w]=>
   refine⟨fun z=>absurd rfl z,fun _=>?_⟩
   unfold a9D
   rw[hy]
   constructor
   ·intro q j c e h1 h2
    have q:(f u&&g w)=true:=q
    rw[p8]at q
    match j with
    | 0=>simp at h1 h2;subst h1 h2;rw[hf];exact q.1
    | 1=>simp at h1 h2;subst h1 h2;rw[hg];exact q.2
    | j+2=>simp at h1
   ·intro q
    show(f u&&g w)=true
    rw[<-hf,<-hg,q 0 a u rfl rfl,q 1 b w rfl rfl];rfl
 have one:∀(a:Nat) (y:Str) (f:PyData->Bool),y.cps.toList=[a]->(∀e,U9 a e=f e)->(y.length≠r.length->m1 f r=false)/\(y.length=r.length->(m1 f r=true↔a9D y r)):=by
  intro a y f hy hf
  have hl:y.length=1:=by rw[<-show y.cps.toList.length=y.length from q9,hy];rfl
  rw[hl]
  match r with
  | []=>exact⟨fun _=>rfl,fun z=>by cases z⟩
  | _::_::_=>exact⟨fun _=>rfl,fun z=>by simp at z⟩
  | [u]=>
   refine⟨fun z=>absurd rfl z,fun _=>?_⟩
   unfold a9D
   rw[hy]
   constructor
   ·intro q j c e h1 h2
    match j with
    | 0=>simp at h1 h2;subst h1 h2;rw[hf];exact q
    | j+1=>simp at h1
   ·intro q
    show f u=true
    rw[<-hf,q 0 a u rfl rfl]
 unfold wOf at h
 by_cases h1:s = "set"
 ·rw[if_pos h1]at h
  cases h
  subst h1
  obtain⟨a,b⟩:=two 110 100 "nd" nmB L4 (by decide +kernel) (fun _=>rfl) (fun _=>rfl)
  exact⟨a,b,by decide +kernel⟩
 rw[if_neg h1]at h
 by_cases h2:s = "copy"
 ·rw[if_pos h2]at h
  cases h
  subst h2
  obtain⟨a,b⟩:=two 110 111 "no" nmB opB (by decide +kernel) (fun _=>rfl) (fun _=>rfl)
  exact⟨a,b,by decide +kernel⟩
 rw[if_neg h2]at h
 by_cases h3:s = "take"
 ·rw[if_pos h3]at h
  cases h
  subst h3
  obtain⟨a,b⟩:=one 110 "n" nmB (by decide +kernel) (fun _=>rfl)
  exact⟨a,b,by decide +kernel⟩
 rw[if_neg h3]at h
 by_cases h4:s = "tell"
 ·rw[if_pos h4]at h
  cases h
  subst h4
  obtain⟨a,b⟩:=one 111 "o" opB (by decide +kernel) (fun _=>rfl)
  have e:S4 (.tuple (.str "tell" :: r))=m1 opB r:=by
   simp only[S4]
   rw[if_neg (show ¬isS "set" (.str "tell")=true by decide +kernel),if_neg (show ¬isS "copy" (.str "tell")=true by decide +kernel),if_neg (show ¬isS "take" (.str "tell")=true by decide +kernel),if_pos a9T]
  rw[e]
  exact⟨a,b,by decide +kernel⟩
 rw[if_neg h4]at h
 by_cases h5:s = "ask"
 ·rw[if_pos h5]at h
  cases h
  subst h5
  obtain⟨a,b⟩:=one 111 "o" opB (by decide +kernel) (fun _=>rfl)
  have e:S4 (.tuple (.str "ask" :: r))=m1 opB r:=by
   simp only[S4]
   rw[if_neg (show ¬isS "set" (.str "ask")=true by decide +kernel),if_neg (show ¬isS "copy" (.str "ask")=true by decide +kernel),if_neg (show ¬isS "take" (.str "ask")=true by decide +kernel),if_pos b3z]
  rw[e]
  exact⟨a,b,by decide +kernel⟩
 rw[if_neg h5]at h
 by_cases h6:s = "skip"
 ·rw[if_pos h6]at h
  cases h
  subst h6
  have e:S4 (.tuple (.str "skip" :: r))=r.isEmpty:=by
   simp only[S4]
   rw[if_neg (show ¬isS "set" (.str "skip")=true by decide +kernel),if_neg (show ¬isS "copy" (.str "skip")=true by decide +kernel),if_neg (show ¬isS "take" (.str "skip")=true by decide +kernel),if_neg (by rw[b0a];exact c7),show isS "skip" (.str "skip")=true by decide +kernel]
   rfl
  rw[e]
  have l0:("" : Str).length=0:=by decide +kernel
  rw[l0]
  refine⟨fun z=>?_,fun z=>?_,by decide +kernel⟩
  ·cases r with
   | nil=>exact absurd rfl z
   | cons a b=>rfl
  ·cases r with
   | nil=>exact⟨fun _ j c e h1 h2=>by simp at h2,fun _=>rfl⟩
   | cons a b=>cases z
 rw[if_neg h6]at h
 cases h
theorem b0S{d:PyData}:((match d with | .str _=>true | _=>false)&&opB d)=nmB d:=by
 cases d <;> simp[opB,nmB,vaB]
theorem a8A{tr:TA}(h:tr σ H fun vs H1=>∃x,vs=[.str x]/\R (b3F x) H1):a3v tr σ H R:=h
section
variable {K:Fg}{d:PyData}{E:XK}
theorem b3r:K6 (tyD d) "str" = (match d with | .str _=>true | _=>false):=by
 cases d <;> (simp only[tyD];decide)
theorem a4A(h:RdP H v d)(hs:v5 d)(k:∀H',j7 H H'->Q (.bl (S4 d)) H'):M6 K [v] H Q E:=by
 have ht:=Q4 h
 refine⟨rfl,?_⟩
 unfold Z1
 nofun
 exists P9 ht (by decide) ?_
 by_cases hd:∃ds,d=.tuple ds
 rotate_left
 ·have e1:K6 (tyD d) "tuple" = false:=by
   cases d with
   | tuple s=>exact absurd ⟨s,rfl⟩ hd
   | _=>simp only[tyD];decide
  have e2:S4 d=false:=by
   cases d with
   | tuple s=>exact absurd ⟨s,rfl⟩ hd
   | _=>rfl
  refine o6 (by rw[e1];rfl) ?_
  exists o6 rfl ?_
  rw[<-e2]
  exact k H (j7.refl _)
 obtain⟨ds,rfl⟩:=hd
 cases h with
 | tup hp rs=>
 rename_i a xs
 exists n8 (by simp only[tyD];decide) ?_
 exists S5 hp ?_
 match ds,rs,hs,k with
 | [],.nil,hs,k=>
  refine o6 (by simp) ?_
  exists o6 rfl ?_
  exact k H (j7.refl _)
 | d0::r,.cons (x:=x0) (xs:=ys) r0 rs,hs,k=>
 exists n8 (b6c (by simp;omega)) ?_
 exists O1 hp (Y3 _ _) ?_
 exists P9 (Q4 r0) (by decide) ?_
 by_cases h0:∃s,d0=.str s
 rotate_left
 ·have e1:K6 (tyD d0) "str" = false:=by
   cases d0 with
   | str s=>exact absurd ⟨s,rfl⟩ h0
   | _=>simp only[tyD];decide
  have e2:S4 (.tuple (d0::r))=false:=by
   cases d0 with
   | str s=>exact absurd ⟨s,rfl⟩ h0
   | _=>rfl
  exists o6 (by rw[e1];rfl) ?_
  rw[<-e2]
  exact k H (j7.refl _)
 obtain⟨s,rfl⟩:=h0
 cases r0
 exists n8 (by simp only[tyD];decide) ?_
 nofun
 exists b4Q fun p G _ hw sm=>?_
 have hp1:=sm _ _ hp
 have hsr:∀e∈r,v5 e:=fun e he=>O9 (l7 _ he) hs
 nofun
 exists (show(tOp qIx (b4 0) (tC (.int 0)):TE) _ G _ from ?_)
 exists O1 hp1 (Y3 _ _) ?_
 refine⟨p,_,rfl,a2d.k (k:=Sum.inr s) hw,?_⟩
 rw[a6c]
 ext
 cases hx:wOf s with
 | none=>
  refine o6 rfl ?_
  exists o6 rfl ?_
  rw[<-b2n (r:=r) hx]
  exact k G sm
 | some x=>
 refine n8 rfl ?_
 have get:∀ {G':Hp},j7 G G'->a2d G' p (.str s) (some (.str x)):=fun {G'} s'=>by
  have:=a2d.k (H:=G') (k:=Sum.inr s) (s' _ _ hw)
  rw[a6c,hx]at this
  exact this
 obtain⟨y1,y2,y3⟩:=b0k (r:=r) hx
 have hx4:x.length<=100:=by
  unfold wOf at hx
  repeat (first | (split at hx <;> first | (cases hx;decide +kernel) | skip) | cases hx)
 ext
 exists (show(b4 1:TE) _ G _ from ?_)
 refine O1 hp1 (Y3 _ _) ?_
 exists ⟨p,_,rfl,get (j7.refl _),?_⟩
 exists a5r (X3 (by omega)) ?_
 exists S5 hp1 ?_
 have el:decide (V.int (x.length:Int)=V.int (((V.str s::ys).length:Int) - 1))=decide (x.length=r.length):=by
  have e1:((V.str s::ys).length:Int) - 1=(r.length:Int):=by rw[D4,<-M9 rs];omega
  rw[e1]
  by_cases z:x.length=r.length
  ·rw[b6d z,b6d (by rw[z])]
  ·rw[b6c z,b6c (fun w=>z (by have:=V.int.inj w;omega))]
 rw[el]
 by_cases hl:x.length=r.length
 rotate_left
 ·exists o6 (by rw[b6c hl];rfl) ?_
  rw[<-y1 hl]
  exact k G sm
 refine n8 (by rw[b6d hl];rfl) ?_
 have y2:=y2 hl
 ext
 exact_mod_cast a2v ?_
 specialize a6m (a8A ?_)
 exists (show(b4 1:TE) _ G _ from ?_)
 refine O1 hp1 (Y3 _ _) ?_
 exists ⟨p,_,rfl,get (j7.refl _),?_⟩
 refine⟨x,rfl,?_⟩
 refine b4O x.length (fun i σ H2=>∃x2 x3 x4,σ=[some (.ref a),some (.ref p),x2,x3,x4]/\j7 G H2/\∀(j:Nat),j<i->∀(c:Nat) (e:PyData),x.cps.toList[j]? = some c->r[j]? = some e->U9 c e=true) ⟨_,_,_,rfl,j7.refl _,fun j hj=>absurd hj (by omega)⟩ ?_ ?_ ?_
 ·rintro _ H2 ⟨x2,x3,x4,rfl,s2,hg⟩
  exists ⟨rfl,?_⟩
  have hG:S4 (.tuple (.str s::r))=true:=y2.mpr fun j c e h1 h2=>hg j (by
   have:=(gI h1)
   have e3:x.cps.toList.length=x.length:=q9
   omega) c e h1 h2
  rw[<-hG]
  exact k H2 (sm.trans s2)
 ·rintro i _ H2 hi _
  exact hi
 ·rintro i _ H2 hi ⟨x2,x3,x4,rfl,s2,hg⟩ v H3 ⟨q,c,hq,rfl,rfl,hc⟩
  have hc':x.cps.toList[i]? = some c:=by rw[F1];exact hc
  have s3:j7 G (upd H2 q (.tup [.int i,.str ⟨#[c]⟩])):=s2.trans (C2 hq)
  refine b0h (SqT.of j4) ?_
  generalize upd H2 q (.tup [.int i,.str ⟨#[c]⟩])=H3 at s3
  nofun
  obtain⟨e,he⟩:∃e,r[i]? = some e:=⟨_,List.getElem?_eq_getElem (by omega)⟩
  obtain⟨y,hy,ry⟩:=a6o rs he
  have hyi:atI (V.str s::ys) ((i:Int)+1)=some y:=by
   have := @W6 V (V.str s::ys) (i+1) y (by simpa using hy)
   simpa using this
  exists O1 (s3 _ _ hp1) hyi ?_
  have ry3:=RdP.same (sm.trans s3) ry
  have se:=hsr e (mI he)
  have no:∀H',j7 H3 H'->U9 c e=false->Q (.bl false) H':=fun H' s' w=>by
   have:S4 (.tuple (.str s::r))=false:=by
    rw[b1B]
    intro z
    have:=y2.mp z i c e hc' he
    rw[w]at this
    cases this
   rw[<-this]
   exact k H' ((sm.trans s3).trans s')
  have yes:∀H',j7 H3 H'->U9 c e=true->∀z1 z2 z3,∃x2 x3 x4,[some (V.ref a),some (V.ref p),z1,z2,z3]=[some (V.ref a),some (V.ref p),x2,x3,x4]/\j7 G H'/\∀(j:Nat),j<i+1->∀(c:Nat) (e:PyData),x.cps.toList[j]? = some c->r[j]? = some e->U9 c e=true:=fun H' s' w z1 z2 z3=>by
   refine⟨_,_,_,rfl,s3.trans s',fun j hj c2 e2 h1 h2=>?_⟩
   by_cases z:j=i
   ·subst z
    rw[hc']at h1
    rw[he]at h2
    cases h1
    cases h2
    exact w
   ·exact hg j (by omega) c2 e2 h1 h2
  rcases y3 c (mI hc')with rfl | rfl | rfl
  ·nofun
   exists o6 (by decide +kernel) ?_
   refine a0e ry3 se fun G1 s1=>?_
   refine⟨_,rfl,?_⟩
   have w:U9 100 e=L4 e:=rfl
   cases eb:L4 e with
   | false=>
    exists o6 rfl ?_
    exact no G1 s1 (by rw[w,eb])
   | true=>
   exists n8 rfl ?_
   nofun
   refine n8 (by decide +kernel) ?_
   exists n8 rfl ?_
   refine n8 (by decide +kernel) ?_
   exists n8 rfl ?_
   exact yes G1 s1 (by rw[w,eb]) _ _ _
  ·nofun
   refine n8 (by decide +kernel) ?_
   exists n8 rfl ?_
   nofun
   refine n8 (by decide +kernel) ?_
   exists n8 rfl ?_
   exists o6 (by decide +kernel) ?_
   exists P9 (Q4 ry3) (by decide) ?_
   have w:U9 110 e=nmB e:=rfl
   have w2:=b0S (d:=e)
   rw[b3r]
   cases eb:(match e with | .str _=>true | _=>false)with
   | false=>
    rw[eb]at w2
    refine o6 rfl ?_
    exists o6 rfl ?_
    exact no H3 (j7.refl _) (by rw[w,<-w2];rfl)
   | true=>
   rw[eb,A1]at w2
   exists n8 rfl ?_
   refine a0Z ry3 se fun G1 s1=>?_
   refine⟨_,rfl,?_⟩
   cases ec:opB e with
   | false=>
    exists o6 rfl ?_
    exact no G1 s1 (by rw[w,<-w2,ec])
   | true=>
   exists n8 rfl ?_
   exact yes G1 s1 (by rw[w,<-w2,ec]) _ _ _
  ·nofun
   refine n8 (by decide +kernel) ?_
   exists n8 rfl ?_
   nofun
   exists o6 (by decide +kernel) ?_
   refine a0Z ry3 se fun G1 s1=>?_
   refine⟨_,rfl,?_⟩
   have w:U9 111 e=opB e:=rfl
   cases ec:opB e with
   | false=>
    exists o6 rfl ?_
    exact no G1 s1 (by rw[w,ec])
   | true=>
   exists n8 rfl ?_
   refine n8 (by decide +kernel) ?_
   exists n8 rfl ?_
   exact yes G1 s1 (by rw[w,ec]) _ _ _
end
def Hb(S:List Addr)(H:Hp):Hp:=fun a=>if a∈S then none else H a
theorem M7{S:List Addr}(h:H a=some o)(n:a∉S):Hb S H a=some o:=by unfold Hb;rw[if_neg n];exact h
theorem b4M{S:List Addr}:j7 (Hb S H) H:=fun a o h=>by
 unfold Hb at h
 split at h
 ·cases h
 ·exact h
theorem a0f{S:List Addr}(hb:b∈S)(k:m4 b H H'):j7 (Hb S H) (Hb S H'):=fun a o h=>by
 unfold Hb at h ⊢
 split at h
 ·cases h
 ·rename_i n
  rw[if_neg n]
  exact k.1 a o h fun z=>n (z ▸ hb)
theorem a3x{S:List Addr}(k:j7 H H'):j7 (Hb S H) (Hb S H'):=fun a o h=>by
 unfold Hb at h ⊢
 split at h
 ·cases h
 ·rename_i n
  rw[if_neg n]
  exact k a o h
theorem b3t{S:List Addr}{D:Addr}(hD:D∈S):j7 (Hb S H) (Hb S (upd H D o)):=fun a u h=>by
 unfold Hb at h ⊢
 split at h
 ·cases h
 ·rename_i n
  rw[if_neg n,u0 (show a≠D from fun z=>n (z ▸ hD))]
  exact h
structure SOk(S:List Addr)(b:Addr)(H:Hp):Prop where
 mem:b∈S
 ls:∀a∈S,∃xs,H a=some (.lst xs)
theorem SOk.kept{S:List Addr}(h:SOk S b H)(hB:Bag H' b c)(k:m4 b H H'):SOk S b H':=⟨h.mem,fun a ha=>by
 by_cases e:a=b
 ·subst e;exact hB.lst
 ·obtain⟨xs,q⟩:=h.ls a ha
  exact⟨xs,k.1 _ _ q e⟩⟩
theorem SOk.same{S:List Addr}(h:SOk S b H)(k:j7 H H'):SOk S b H':=⟨h.mem,fun a ha=>by
 obtain⟨xs,q⟩:=h.ls a ha
 exact⟨xs,k _ _ q⟩⟩
theorem SOk.tup{S:List Addr}{b q:Addr}{H:Hp}{ys:List V}(h:SOk S b H)(e:H q=some (.tup ys)):q∉S:=fun z=>by
 obtain⟨xs,w⟩:=h.ls q z
 rw[e]at w;cases w
theorem SOk.new{S:List Addr}{q:Addr}(h:SOk S b H)(e:H q=none):q∉S:=fun z=>by
 obtain⟨xs,w⟩:=h.ls q z
 rw[e]at w;cases w
structure Fn(d:PyData)(n k:Nat):Prop where
 sh:d.showable=true
 le:d.leavesShort 13=true
 we:d.weight<=n
 de:d.depth<=k
structure FnA(d:List PyData)(n k:Nat):Prop where
 sh:PyData.showableAll d=true
 le:PyData.leavesShortAll 13 d=true
 we:PyData.weightAll d<=n
 de:PyData.depthAll d<=k
theorem Fn.mono{d:PyData}{k:Nat}(h:Fn d n k)(hn:n<=m)(hk:k<=j):Fn d m j:=⟨h.sh,h.le,j3 h.we hn,j3 h.de hk⟩
theorem FnA.mono{d:List PyData}{k:Nat}(h:FnA d n k)(hn:n<=m)(hk:k<=j):FnA d m j:=⟨h.sh,h.le,j3 h.we hn,j3 h.de hk⟩
theorem FnA.nil{k:Nat}:FnA [] 0 k:=⟨rfl,rfl,a8 _,y0 _⟩
theorem FnA.cons{d:PyData}{ds:List PyData}{n m k:Nat}(h:Fn d n k)(hs:FnA ds m k):FnA (d::ds) (n+1+m) k:=by
 refine⟨?_,?_,?_,?_⟩
 ·simp only[PyData.showableAll,h.sh,hs.sh];rfl
 ·simp only[PyData.leavesShortAll,h.le,hs.le];rfl
 ·simp only[PyData.weightAll];have:=h.we;have:=hs.we;omega
 ·simp only[PyData.depthAll];exact Nat.max_le.mpr ⟨h.de,hs.de⟩
theorem FnA.uncons{d:PyData}{ds:List PyData}{k:Nat}(h:FnA (d::ds) m k):∃n n',Fn d n k/\FnA ds n' k/\n+1+n'=m:=by
 have h1:=h.sh
 have h2:=h.le
 have h3:=h.we
 have h4:=h.de
 simp only[PyData.showableAll,p8]at h1
 simp only[PyData.leavesShortAll,p8]at h2
 simp only[PyData.weightAll]at h3
 simp only[PyData.depthAll]at h4
 have h5:=Nat.max_le.mp h4
 exact⟨d.weight,m - d.weight - 1,⟨h1.1,h2.1,a8 _,h5.1⟩,⟨h1.2,h2.2,by omega,h5.2⟩,by omega⟩
theorem FnA.tup{ds:List PyData}{n k:Nat}(h:FnA ds n k):Fn (.tuple ds) n (k+1):=⟨h.sh,h.le,h.we,b3H h.de⟩
theorem FnA.lst{ds:List PyData}{n k:Nat}(h:FnA ds n k):Fn (.list ds) n (k+1):=⟨h.sh,h.le,h.we,b3H h.de⟩
theorem R6:∀ {H:Hp} {xs ys:List V} {ds es:List PyData},C4 H xs ds->C4 H ys es->C4 H (xs++ys) (ds++es)
 | _,_,_,_,_,.nil,h=>h
 | _,_,_,_,_,.cons a r,h=>.cons a (R6 r h)
theorem W1:∀ {H:Hp} {xs:List V} {ds:List PyData} (i:Nat),C4 H xs ds->C4 H (xs.take i) (ds.take i)
 | _,_,_,0,_=>by simpa using C4.nil
 | _,_,_,i+1,.nil=>by simpa using C4.nil
 | _,_,_,i+1,.cons a r=>by simpa using C4.cons a (W1 i r)
theorem W2:∀ {H:Hp} {xs:List V} {ds:List PyData} (i:Nat),C4 H xs ds->C4 H (xs.drop i) (ds.drop i)
 | _,_,_,0,h=>by simpa using h
 | _,_,_,i+1,.nil=>by simpa using C4.nil
 | _,_,_,i+1,.cons a r=>by simpa using W2 i r
def TH(S:List Addr)(H:Hp)(v:V)(n k:Nat):Prop:=∃d,RdP (Hb S H) v d/\Fn d n k
theorem TH.kept{S:List Addr}{k:Nat}(h:TH S H v n k)(hb:b∈S)(q:m4 b H H'):TH S H' v n k:=by
 obtain⟨d,r,f⟩:=h
 exact⟨d,RdP.same (a0f hb q) r,f⟩
theorem TH.same{S:List Addr}{k:Nat}(h:TH S H v n k)(q:j7 H H'):TH S H' v n k:=by
 obtain⟨d,r,f⟩:=h
 exact⟨d,RdP.same (a3x q) r,f⟩
theorem TH.mono{S:List Addr}{k:Nat}(h:TH S H v n k)(hn:n<=m)(hk:k<=j):TH S H v m j:=by
 obtain⟨d,r,f⟩:=h
 exact⟨d,r,f.mono hn hk⟩
theorem a2F{k:Nat}(h:NmS s):Fn (.str s) 8 k:=by
 refine⟨rfl,?_,h.2,y0 _⟩
 have h1:=h.1
 unfold F7 at h1
 simp only[p8]at h1
 simp only[PyData.leavesShort,u9,decide_eq_true_eq]
 intro c hc
 have h2:=u9.mp h1.2 c hc
 have h3:decide (c∈SGN.cps.toList)=true:=by
  rw[<-PySem.StrLaws.found_one SGN c];exact h2
 have h4:∀c∈SGN.cps.toList,c<16 ^ 8:=by decide +kernel
 exact h4 c (of_decide_eq_true h3)
theorem a9o{k:Nat}(h0:0<=i)(h1:i<1000000000000):Fn (.int i) 40 k:=by
 have hl:i.natAbs.log2<40:=by
  by_cases z:i.natAbs=0
  ·rw[z];decide +kernel
  ·exact(Nat.log2_lt z).mpr (by omega)
 refine⟨?_,?_,?_,y0 _⟩
 ·simp only[PyData.showable,decide_eq_true_eq];omega
 ·simp only[PyData.leavesShort,decide_eq_true_eq]
  exact PyData.shown_int_le (by omega)
 ·simp only[PyData.weight]
  split <;> omega
theorem b1H{S:List Addr}{k:Nat}(h:OpN v):TH S H v 40 k:=by
 rcases h with ⟨s,rfl,hs⟩ | ⟨n,rfl,h0,h1⟩
 ·exact⟨_,.str s,(a2F hs).mono (by omega) (a8 _)⟩
 ·exact⟨_,.int n,a9o h0 h1⟩
def TT3(S:List Addr)(H:Hp)(p:Addr)(n k:Nat):Prop:=∃xs ds,H p=some (.tup xs)/\p∉S/\C4 (Hb S H) xs ds/\FnA ds n k/\xs≠[]/\xs.length<=4
theorem TT3.th{S:List Addr}{k:Nat}(h:TT3 S H p n k):TH S H (.ref p) n (k+1):=by
 obtain⟨xs,ds,hp,nb,rs,f,_,_⟩:=h
 exact⟨_,.tup (M7 hp nb) rs,f.tup⟩
theorem TT3.kept{S:List Addr}{k:Nat}(h:TT3 S H p n k)(hb:b∈S)(q:m4 b H H'):TT3 S H' p n k:=by
 obtain⟨xs,ds,hp,nb,rs,f,a,c⟩:=h
 exact⟨xs,ds,q.1 _ _ hp (fun z=>nb (z ▸ hb)),nb,C4.same (a0f hb q) rs,f,a,c⟩
theorem TT3.mono{S:List Addr}{k:Nat}(h:TT3 S H p n k)(hn:n<=m)(hk:k<=j):TT3 S H p m j:=by
 obtain⟨xs,ds,hp,nb,rs,f,a,c⟩:=h
 exact⟨xs,ds,hp,nb,rs,f.mono hn hk,a,c⟩
theorem a6d{S:List Addr}(hS:SOk S b H)(h:a9E H p):TT3 S H p 88 0:=by
 obtain⟨k,v1,v2,hp,o1,o2,hk⟩:=h
 obtain⟨d1,r1,f1⟩:=b1H (S:=S) (H:=H) (k:=0) o1
 obtain⟨d2,r2,f2⟩:=b1H (S:=S) (H:=H) (k:=0) o2
 have fk:Fn (.str k) 5 0:=by
  have:∀s∈b1Q,PyData.leavesShort 13 (.str s)=true/\s.cps.size<=5:=by decide +kernel
  exact⟨rfl,(this k hk).1,(this k hk).2,y0 _⟩
 refine⟨_,[.str k,d1,d2],hp,hS.tup hp,.cons (.str k) (.cons r1 (.cons r2 .nil)),(FnA.cons fk (FnA.cons f1 (FnA.cons f2 FnA.nil))).mono (by omega) (a8 _),by simp,by simp⟩
theorem S9{d:PyData}(h:(d.showable&&d.leavesShort 13&&decide (d.weight<=40)&&decide (d.depth<=1))=true):Fn d 40 1:=by
 simp only[p8,decide_eq_true_eq]at h
 exact⟨h.1.1.1,h.1.1.2,h.1.2,h.2⟩
theorem a5E{K:Fg}{S:List Addr}{E:XK}(hB:Bag H b c)(hS:SOk S b H)(k:∀v H',TH S H' v 40 1->Bag H' b c->m4 b H H'->Q v H'):a0w K [.ref b] H Q E:=by
 refine⟨rfl,?_⟩
 unfold b1I
 nofun
 exists K0 ⟨by decide,by decide,by decide⟩ ?_
 exists v7 (by decide) fun p1 G1 h1 e1 s1=>?_
 exists v7 (by simp) fun p2 G2 h2 e2 s2=>?_
 nofun
 exists v7 (by decide) fun p3 G3 h3 e3 s3=>?_
 refine(show ∀d,G3 d=none->_ from fun p4 h4=>?_)
 obtain⟨G4,hG4⟩:∃G4,G4=upd G3 p4 (.dK []):=⟨_,rfl⟩
 rw[<-hG4]
 have e4:G4 p4=some (.dK []):=by rw[hG4];exact j4
 have s4:j7 G3 G4:=by rw[hG4];exact C2 h4
 ext
 exists v7 (by decide) fun p5 G5 h5 e5 s5=>?_
 exists v7 (by simp) fun p6 G6 h6 e6 s6=>?_
 have s36:j7 G2 G6:=((s3.trans s4).trans s5).trans s6
 exists a1B (s36 _ _ e2) e6 (v7 (by simp) fun p7 G7 h7 e7 s7=>?_)
 exists a3k e7 ?_
 have sA:j7 H G7:=(s1.trans s2).trans (s36.trans s7)
 have B7:=hB.same sA
 refine z7 B7 (by simp) (by simp) fun n H8 n0 n1 B8 k8=>?_
 have nb1:=hS.new h1
 have nb3:=(hS.same (s1.trans s2)).new h3
 have nb4:=(hS.same ((s1.trans s2).trans s3)).new h4
 have nb5:=(hS.same (((s1.trans s2).trans s3).trans s4)).new h5
 have nb7:=(hS.same ((s1.trans s2).trans s36)).new h7
 obtain⟨v,hv,hv2⟩:=N9 n0 n1
 refine J9 (k8.1 _ _ e7 (fun z=>nb7 (z ▸ hS.mem))) hv ?_
 refine k v H8 (TH.kept (H:=G7) ?_ hS.mem k8) B8 ((m4.of_same sA).trans k8)
 have m:=mI hv2
 have a1:Hb S G7 p1=some (.tup [.str "a"]):=M7 ((s2.trans (s36.trans s7)) _ _ e1) nb1
 have a3:Hb S G7 p3=some (.lst [.int 1]):=M7 ((((s4.trans s5).trans s6).trans s7) _ _ e3) nb3
 have a4:Hb S G7 p4=some (.dK []):=M7 (((s5.trans s6).trans s7) _ _ e4) nb4
 have a5:Hb S G7 p5=some (.tup []):=M7 ((s6.trans s7) _ _ e5) nb5
 rw[a8P]at m
 simp only[D5,b3J,g5,D3,or_false]at m
 rcases m with rfl | rfl | rfl | rfl | rfl | rfl | rfl | rfl | rfl | rfl | rfl | rfl | rfl | rfl | rfl | rfl | rfl | rfl
 ·exact⟨_,.bl _,S9 (by decide +kernel)⟩
 ·exact⟨_,.bl _,S9 (by decide +kernel)⟩
 ·exact⟨_,.non,S9 (by decide +kernel)⟩
 ·exact⟨_,.int _,S9 (by decide +kernel)⟩
 ·exact⟨_,.int _,S9 (by decide +kernel)⟩
 ·exact⟨_,.str _,S9 (by decide +kernel)⟩
 ·exact⟨_,.str _,S9 (by decide +kernel)⟩
 ·exact⟨_,.str _,S9 (by decide +kernel)⟩
 ·exact⟨_,.str _,S9 (by decide +kernel)⟩
 ·exact⟨_,.str _,S9 (by decide +kernel)⟩
 ·exact⟨_,.str _,S9 (by decide +kernel)⟩
 ·exact⟨_,.int _,S9 (by decide +kernel)⟩
 ·exact⟨_,.str _,S9 (by decide +kernel)⟩
 ·exact⟨_,.str _,S9 (by decide +kernel)⟩
 ·exact⟨_,.tup a1 (.cons (.str _) .nil),S9 (by decide +kernel)⟩
 ·exact⟨_,.lst a3 (.cons (.int _) .nil),S9 (by decide +kernel)⟩
 ·exact⟨_,.dct a4,S9 (by decide +kernel)⟩
 ·exact⟨_,.tup a5 .nil,S9 (by decide +kernel)⟩
theorem a5M{i:Nat}(h:i<=xs.length):Q6 xs none (some (i:Int))=xs.take i:=by
 unfold Q6
 have e:HT.sIx xs.length xs.length (some (i:Int))=i:=by rw[HT.a0a];omega
 rw[e,HT.a4m,a3N,a7F]
theorem a1J{i:Nat}(h:i<=xs.length):Q6 xs (some (i:Int)) none=xs.drop i:=by
 unfold Q6
 have e:HT.sIx xs.length 0 (some (i:Int))=i:=by rw[HT.a0a];omega
 rw[e,HT.a4m,v9 (by simp)]
theorem a0A{lo hi:Option Int}(ha:H a=some (.tup xs))(h:∀p H',j7 H H'->H' p=some (.tup (Q6 xs lo hi))->Q (.ref p) H'):a3l (.ref a) lo hi H Q:=⟨a,xs,rfl,ha,h⟩
theorem a0b(ha:H a=some (.tup xs))(hb:H b=some (.tup ys))(hl:xs.length+ys.length<=1000)(h:∀p H',j7 H H'->H' p=some (.tup (xs++ys))->Q (.ref p) H'):a0N (.ref a) (.ref b) H Q:=⟨a,b,xs,ys,rfl,rfl,ha,hb,X3 (by omega),h⟩
theorem a2s{K:Fg}{S:List Addr}{E:XK}(hB:Bag H b c)(hS:SOk S b H)(hT:TT3 S H p n m)(hm:1<=m)(k:∀v H',TH S H' v (n+41) (m+1)->Bag H' b c->m4 b H H'->Q v H'):R4 K [.ref b,.ref p] H Q E:=by
 refine⟨rfl,?_⟩
 unfold a4e
 nofun
 exists z7 hB (by decide) (by decide) fun w H1 w0 w1 B1 k1=>?_
 nofun
 have T1:=hT.kept hS.mem k1
 obtain⟨xs,ds,hp,nb,rs,fa,hne,hl4⟩:=T1
 have hl:0<xs.length:=a0m.mpr hne
 exists S5 hp ?_
 refine z7 B1 (by omega) (by omega) fun i' H2 i0 i1 B2 k2=>?_
 obtain⟨i,rfl⟩:∃i:Nat,i'=(i:Int):=⟨i'.toNat,by omega⟩
 have hi:i<xs.length:=by omega
 have hp2:=k2.1 _ _ hp (fun z=>nb (z ▸ hS.mem))
 have rs2:=C4.same (a0f hS.mem k2) rs
 have k02:=k1.trans k2
 have hS2:=hS.kept B2 k02
 ext
 nofun
 refine W8 (fun _=>?_) (fun _=>?_)
 ·ext
  refine a0A hp2 fun p1 G1 s1 e1=>?_
  rw[a5M (by omega)]at e1
  ext
  refine a0A (s1 _ _ hp2) fun p2 G2 s2 e2=>?_
  rw[show((i:Int)+1)=((i+1:Nat):Int) by omega,a1J (by omega)]at e2
  refine a0b (s2 _ _ e1) e2 (by rw[o9,O2];omega) fun p3 G3 s3 e3=>?_
  have sA:=(s1.trans s2).trans s3
  have B3:=B2.same sA
  refine k _ _ ⟨_,.tup (M7 e3 ((hS2.same sA).tup e3)) (C4.same (a3x sA) (R6 (W1 i rs2) (W2 (i+1) rs2))),?_⟩ B3 (k02.trans (m4.of_same sA))
  have hw:∀ {ds:List PyData} {n k:Nat} (i:Nat),FnA ds n k->FnA (ds.take i++ds.drop (i+1)) n k:=fun {ds n k} i h=>by
   induction ds generalizing n i with
   | nil=>simpa using h
   | cons d ds ih=>
    obtain⟨a,b',f,g,e⟩:=h.uncons
    cases i with
    | zero=>simpa using g.mono (by omega) (a8 _)
    | succ i=>
     rw[a0l,a0o,D5]
     exact(FnA.cons f (ih i g)).mono (by omega) (a8 _)
  exact(hw i fa).tup.mono (by omega) (a8 _)
 ext
 nofun
 refine W8 (fun _=>?_) (fun _=>?_)
 ·ext
  refine a0A hp2 fun p1 G1 s1 e1=>?_
  rw[a5M (by omega)]at e1
  ext
  refine a5E (B2.same s1) (hS2.same s1) fun v H3 hv B3 k3=>?_
  have kk:m4 b H2 H3:=(m4.of_same s1).trans k3
  ext
  refine v7 (by simp) fun p4 G4 h4 e4 s4=>?_
  have e1':G4 p1=some (.tup (xs.take i)):=s4 _ _ (k3.1 _ _ e1 (fun z=>(hS2.same s1).tup e1 (z ▸ hS.mem)))
  exists a0b e1' e4 (by rw[o9];simp;omega) fun p5 G5 s5 e5=>?_
  have hp5:=s5 _ _ (s4 _ _ (kk.1 _ _ hp2 (fun z=>nb (z ▸ hS.mem))))
  refine a0A hp5 fun p6 G6 s6 e6=>?_
  rw[a1J (by omega)]at e6
  refine a0b (s6 _ _ e5) e6 (by rw[u8,o9,O2];simp;omega) fun p7 G7 s7 e7=>?_
  have sA:=((s4.trans s5).trans s6).trans s7
  have B7:=B3.same sA
  have rsA:=C4.same (a0f hS.mem (kk.trans (m4.of_same sA))) rs2
  obtain⟨d,rd,fd⟩:=hv.same sA
  refine k _ _ ⟨_,.tup (M7 e7 (((hS2.kept B3 kk).same sA).tup e7)) (R6 (R6 (W1 i rsA) (.cons rd .nil)) (W2 i rsA)),?_⟩ B7 ((k02.trans kk).trans (m4.of_same sA))
  have hw:∀ {ds:List PyData} {n:Nat} (i:Nat),FnA ds n m->FnA ((ds.take i++[d])++ds.drop i) (n+41) m:=fun {ds n} i h=>by
   induction ds generalizing n i with
   | nil=>simpa using (FnA.cons (fd.mono (a8 _) hm) FnA.nil).mono (by omega) (a8 _)
   | cons e ds ih=>
    cases i with
    | zero=>simpa using (FnA.cons (fd.mono (a8 _) hm) h).mono (by omega) (a8 _)
    | succ i=>
     obtain⟨a,b',f,g,e⟩:=h.uncons
     rw[a0l,a0o,D5,D5]
     exact(FnA.cons f (ih i g)).mono (by omega) (a8 _)
  exact(hw i fa).tup
 ext
 nofun
 refine W8 (fun _=>?_) (fun _=>?_)
 ·ext
  refine b2r hp2 fun l G hl e s=>?_
  exact k _ _ ⟨_,.lst (M7 e (hS2.new hl)) (C4.same (a3x s) rs2),fa.lst.mono (by omega) (a8 _)⟩ (B2.same s) (k02.trans (m4.of_same s))
 ext
 refine a0A hp2 fun p1 G1 s1 e1=>?_
 rw[a5M (by omega)]at e1
 ext
 refine a5E (B2.same s1) (hS2.same s1) fun v H3 hv B3 k3=>?_
 have kk:m4 b H2 H3:=(m4.of_same s1).trans k3
 ext
 refine v7 (by simp) fun p4 G4 h4 e4 s4=>?_
 have e1':G4 p1=some (.tup (xs.take i)):=s4 _ _ (k3.1 _ _ e1 (fun z=>(hS2.same s1).tup e1 (z ▸ hS.mem)))
 exists a0b e1' e4 (by rw[o9];simp;omega) fun p5 G5 s5 e5=>?_
 have hp5:=s5 _ _ (s4 _ _ (kk.1 _ _ hp2 (fun z=>nb (z ▸ hS.mem))))
 refine a0A hp5 fun p6 G6 s6 e6=>?_
 rw[show((i:Int)+1)=((i+1:Nat):Int) by omega,a1J (by omega)]at e6
 refine a0b (s6 _ _ e5) e6 (by rw[u8,o9,O2];simp;omega) fun p7 G7 s7 e7=>?_
 have sA:=((s4.trans s5).trans s6).trans s7
 have B7:=B3.same sA
 have rsA:=C4.same (a0f hS.mem (kk.trans (m4.of_same sA))) rs2
 obtain⟨d,rd,fd⟩:=hv.same sA
 refine k _ _ ⟨_,.tup (M7 e7 (((hS2.kept B3 kk).same sA).tup e7)) (R6 (R6 (W1 i rsA) (.cons rd .nil)) (W2 (i+1) rsA)),?_⟩ B7 ((k02.trans kk).trans (m4.of_same sA))
 have hw:∀ {ds:List PyData} {n:Nat} (i:Nat),FnA ds n m->FnA ((ds.take i++[d])++ds.drop (i+1)) (n+41) m:=fun {ds n} i h=>by
  induction ds generalizing n i with
  | nil=>simpa using (FnA.cons (fd.mono (a8 _) hm) FnA.nil).mono (by omega) (a8 _)
  | cons e ds ih=>
   obtain⟨a,b',f,g,e⟩:=h.uncons
   cases i with
   | zero=>simpa using (FnA.cons (fd.mono (a8 _) hm) g).mono (by omega) (a8 _)
   | succ i=>
    rw[a0l,a0o,D5,D5]
    exact(FnA.cons f (ih i g)).mono (by omega) (a8 _)
 exact(hw i fa).tup
theorem a5L{k:Nat}(h:(PyData.leavesShort 13 (.str s)&&decide (s.cps.size<=5))=true):Fn (.str s) 5 k:=by
 simp only[p8,decide_eq_true_eq]at h
 exact⟨rfl,h.1,h.2,y0 _⟩
theorem a5S{K:Fg}{S:List Addr}{E:XK}(hB:Bag H b c)(hS:SOk S b H)(hN:P4 H a)(k:∀p H',TT3 S H' p 110 1->Bag H' b c->m4 b H H'->Q (.ref p) H'):S1 K [.ref b,.ref a] H Q E:=by
 refine⟨rfl,?_⟩
 unfold a2q
 nofun
 obtain⟨ss,h1,h2,h3,h4⟩:=hN.ex
 have hl:0<ss.length:=a0m.mpr h2
 exists a3k h1 ?_
 refine z7 hB (by rw[g8];omega) (by rw[g8];omega) fun n1 H1 a0 a1 B1 k1=>?_
 obtain⟨N1,ne⟩:=hN.kept hB k1
 obtain⟨v,hv,hv2⟩:=N9 (xs:=ss.map V.str) a0 a1
 obtain⟨s,hs,rfl⟩:=F9.mp (mI hv2)
 have ns:=h4 s hs
 exists J9 (k1.1 _ _ h1 ne) hv ?_
 nofun
 exists Y0 B1 N1 fun o H2 op B2 k2=>?_
 nofun
 obtain⟨N2,_⟩:=N1.kept B1 k2
 refine a6y B2 N2 fun d H3 dd _ B3 k3=>?_
 have k03:=(k1.trans k2).trans k3
 have hS3:=hS.kept B3 k03
 have td:=a6d hS3 dd
 ext
 exists v7 (by simp) fun p1 G1 _ e1 s1=>?_
 exists v7 (by simp) fun p2 G2 _ e2 s2=>?_
 exists v7 (by simp) fun p3 G3 _ e3 s3=>?_
 exists v7 (by simp) fun p4 G4 _ e4 s4=>?_
 exists v7 (by simp) fun l1 G5 _ f1 s5=>?_
 exists v7 (by simp) fun p5 G6 _ e5 s6=>?_
 exists v7 (by simp) fun p6 G7 _ e6 s7=>?_
 refine v7 (by simp) fun l2 G8 _ f2 s8=>?_
 have s68:=(s6.trans s7).trans s8
 exists a1B (s68 _ _ f1) f2 (v7 (by simp) fun l3 G9 hl3 f3 s9=>?_)
 have t1:=((((s2.trans s3).trans s4).trans s5).trans s68).trans s9
 have sA:=s1.trans t1
 have B9:=B3.same sA
 refine z7 B9 (by decide) (by decide) fun i H9 i0 i1 B10 k10=>?_
 have nb:l3≠b:=fun z=>((hS3.same (s1.trans ((((s2.trans s3).trans s4).trans s5).trans s68))).new hl3) (z ▸ hS.mem)
 obtain⟨v,hv,hv2⟩:=N9 (xs:=([.ref p1,.ref p2,.ref p3,.ref p4]++[.ref p5,.ref p6]:List V)) i0 (by simpa using i1)
 refine J9 (k10.1 _ _ f3 nb) hv ?_
 have hS9:=hS3.same sA
 have fin:∀p,TT3 S G9 p 110 1->Q (.ref p) H9:=fun p h=>k p H9 (h.kept hS.mem k10) B10 ((k03.trans (m4.of_same sA)).trans k10)
 have ro:∀ {G:Hp},∃d,RdP G o d/\Fn d 40 1:=fun {G}=>by
  rcases op with ⟨s,rfl,hs⟩ | ⟨n,rfl,h0,h1⟩
  ·exact⟨_,.str s,(a2F hs).mono (by omega) (a8 _)⟩
  ·exact⟨_,.int n,a9o h0 h1⟩
 have mk:∀(p:Addr) (xs:List V) (ds:List PyData) (n:Nat),G9 p=some (.tup xs)->C4 (Hb S G9) xs ds->FnA ds n 1->n<=110->xs≠[]->xs.length<=4->TT3 S G9 p 110 1:=fun p xs ds n e r f hn h5 h6=>⟨xs,ds,e,hS9.tup e,r,f.mono hn (a8 _),h5,h6⟩
 have m:=mI hv2
 simp only[D5,b3J,g5,D3,or_false]at m
 obtain⟨dd1,rd1,fd1⟩:=td.th.same sA
 obtain⟨dd2,rd2,fd2⟩:=ro (G:=Hb S G9)
 rcases m with rfl | rfl | rfl | rfl | rfl | rfl
 ·exact fin _ (mk p1 _ _ _ (t1 _ _ e1) (.cons (.str _) (.cons (.str s) (.cons rd1 .nil))) (FnA.cons (a5L (by decide +kernel)) (FnA.cons (a2F ns) (FnA.cons fd1 FnA.nil))) (by omega) (by simp) (by simp))
 ·exact fin _ (mk p2 _ _ _ (((((s3.trans s4).trans s5).trans s68).trans s9) _ _ e2) (.cons (.str _) (.cons (.str s) (.cons rd2 .nil))) (FnA.cons (a5L (by decide +kernel)) (FnA.cons (a2F ns) (FnA.cons fd2 FnA.nil))) (by omega) (by simp) (by simp))
 ·exact fin _ (mk p3 _ _ _ ((((s4.trans s5).trans s68).trans s9) _ _ e3) (.cons (.str _) (.cons (.str s) .nil)) (FnA.cons (a5L (by decide +kernel)) (FnA.cons (a2F ns) FnA.nil)) (by omega) (by simp) (by simp))
 ·exact fin _ (mk p4 _ _ _ (((s5.trans s68).trans s9) _ _ e4) (.cons (.str _) (.cons rd2 .nil)) (FnA.cons (a5L (by decide +kernel)) (FnA.cons fd2 FnA.nil)) (by omega) (by simp) (by simp))
 ·exact fin _ (mk p5 _ _ _ (((s7.trans s8).trans s9) _ _ e5) (.cons (.str _) (.cons rd2 .nil)) (FnA.cons (a5L (by decide +kernel)) (FnA.cons fd2 FnA.nil)) (by omega) (by simp) (by simp))
 ·exact fin _ (mk p6 _ _ _ ((s8.trans s9) _ _ e6) (.cons (.str _) .nil) (FnA.cons (a5L (by decide +kernel)) FnA.nil) (by omega) (by simp) (by simp))
theorem a6R{K:Fg}{E:XK}(hB:Bag H b c)(k:∀R H' vs,H' R=some (.lst vs)->vs≠[]->vs.length<=40->(∀v∈vs,∃d,RdP H' v d/\Fn d 300 4)->Q (.ref R) H'):V8 K [.ref b] H Q E:=by
 refine⟨rfl,?_⟩
 unfold a4d
 nofun
 exists a9h hB fun a H1 N1 B1 k1 _=>?_
 nofun
 refine v7 (by simp) fun D H2 hD eD s2=>?_
 have B2:=B1.same s2
 have N2:=N1.same s2
 obtain⟨nb,nc⟩:=B1.nb hD
 have na:a≠D:=by
  obtain⟨ss,h1,_⟩:=N1.ex
  exact o0 h1 hD
 ext
 exact_mod_cast a2v ?_
 specialize a6m (a5p ?_)
 refine⟨4,rfl,by decide,by decide,?_⟩
 refine a2E (fun i σ H4=>∃x3 x4 x5 x6 vs,σ=[some (.ref b),some (.ref a),some (.ref D),x3,x4,x5,x6]/\H4 D=some (.lst vs)/\vs.length=6 * i/\(∀v∈vs,TH [b,D] H4 v 300 4)/\Bag H4 b c/\P4 H4 a) ?_ ?_ ?_
 ·exact⟨_,_,_,_,[],rfl,eD,rfl,by simp,B2,N2⟩
 ·rintro i _ H4 hi ⟨x3,x4,x5,x6,vs,rfl,hd,hl,ht,B4,N4⟩
  have hi:i<4:=hi
  have hS:SOk [b,D] b H4:=⟨by simp,fun z hz=>by
   rcases g5.mp hz with rfl | hz
   ·exact B4.lst
   ·rw[K9.mp hz];exact⟨_,hd⟩⟩
  ext
  nofun
  refine a6y B4 N4 fun p1 H5 d5 _ B5 k5=>?_
  obtain⟨N5,_⟩:=N4.kept B4 k5
  have hS5:=hS.kept B5 k5
  have t5:=(a6d hS5 d5).mono (a8 _) (y0 1)
  ext
  nofun
  refine a5S B5 hS5 N5 fun p2 H6 t6 B6 k6=>?_
  obtain⟨N6,_⟩:=N5.kept B5 k6
  have hS6:=hS5.kept B6 k6
  ext
  nofun
  refine a2s B6 hS6 (t5.kept hS.mem k6) (a8 _) fun v3 H7 t7 B7 k7=>?_
  obtain⟨N7,_⟩:=N6.kept B6 k7
  have hS7:=hS6.kept B7 k7
  ext
  specialize b4i ?_
  have hd7:=k7.1 _ _ (k6.1 _ _ (k5.1 _ _ hd nb) nb) nb
  exists ⟨.inl ⟨rfl,_,SqL.of hd7⟩,?_⟩
  refine a2s B7 hS7 (t6.kept hS.mem k7) (a8 _) fun v4 H8 t8 B8 k8=>?_
  obtain⟨N8,_⟩:=N7.kept B7 k8
  have hS8:=hS7.kept B8 k8
  ext
  obtain⟨ss,g1,g2,g3,g4⟩:=N8.ex
  obtain⟨s0,r0,rfl⟩:∃s0 r0,ss=s0::r0:=by
   cases ss with
   | nil=>exact absurd rfl g2
   | cons s r=>exact⟨_,_,rfl⟩
  exists J9 g1 (Y3 _ _) ?_
  exists v7 (by simp) fun p5 G9 _ e9 s9=>?_
  have hS9:=hS8.same s9
  refine a5E (B8.same s9) hS9 fun v6 H10 t10 B10 k10=>?_
  have hS10:=hS9.kept B10 k10
  ext
  refine v7 (by simp) fun l G11 _ e11 s11=>?_
  have kA:m4 b H7 G11:=((k8.trans (m4.of_same s9)).trans k10).trans (m4.of_same s11)
  have kB:m4 b H4 G11:=((k5.trans k6).trans k7).trans kA
  have hd11:G11 D=some (.lst vs):=kA.1 _ _ hd7 nb
  ext
  refine a8F hd11 e11 (X3 (by simp;omega)) ?_
  have hm:b∈[b,D]:=by simp
  have up:∀ {v:V} {n k:Nat},TH [b,D] G11 v n k->TH [b,D] (upd G11 D (.lst (vs++[.ref p1,.ref p2,v3,v4,.ref p5,v6]))) v n k:=fun {v n k} h=>by
   obtain⟨d,r,f⟩:=h
   exact⟨d,RdP.same (b3t (by simp)) r,f⟩
  have q1:TH [b,D] G11 (.ref p1) 300 4:=(((t5.kept hm k6).kept hm k7).kept hm kA).th.mono (by omega) (by omega)
  have q2:TH [b,D] G11 (.ref p2) 300 4:=((t6.kept hm k7).kept hm kA).th.mono (by omega) (by omega)
  have q3:TH [b,D] G11 v3 300 4:=(t7.kept hm kA).mono (by omega) (by omega)
  have q4:TH [b,D] G11 v4 300 4:=(((t8.same s9).kept hm k10).same s11).mono (by omega) (by omega)
  have q6:TH [b,D] G11 v6 300 4:=(t10.same s11).mono (by omega) (by omega)
  have q5:TH [b,D] G11 (.ref p5) 300 4:=by
   obtain⟨d3,rd3,fd3⟩:=t7.kept hm kA
   have kC:m4 b G9 G11:=k10.trans (m4.of_same s11)
   have ne5:p5∉[b,D]:=hS9.tup e9
   have e5:=kC.1 _ _ e9 (fun z=>ne5 (by rw[z];simp))
   exact⟨_,.tup (M7 e5 ne5) (.cons (.str _) (.cons (.str s0) (.cons rd3 .nil))),((FnA.cons (a5L (by decide +kernel)) (FnA.cons (a2F (g4 s0 (by simp))) (FnA.cons fd3 FnA.nil))).tup).mono (by omega) (by omega)⟩
  refine⟨_,_,_,_,_,rfl,j4,by simp;omega,?_,(B10.same s11).put nb nc,?_⟩
  ·intro v hv
   rcases E5.mp hv with q | q
   ·exact up ((ht v q).kept hm kB)
   ·simp only[g5,D3,or_false]at q
    rcases q with rfl | rfl | rfl | rfl | rfl | rfl
    ·exact up q1
    ·exact up q2
    ·exact up q3
    ·exact up q4
    ·exact up q5
    ·exact up q6
  ·obtain⟨N11,_⟩:=N4.kept B4 kB
   obtain⟨ss,g1,g2,g3,g4⟩:=N11.ex
   exact⟨ss,by rw[u0 na];exact g1,g2,g3,g4⟩
 ·rintro _ H4 ⟨x3,x4,x5,x6,vs,rfl,hd,hl,ht,B4,N4⟩
  have hl:vs.length=24:=by
   have:(4:Int).toNat=4:=rfl
   omega
  have ht4:∀v∈vs,∃d,RdP H4 v d/\Fn d 300 4:=fun v hv=>by
   obtain⟨d,r,f⟩:=ht v hv
   exact⟨d,RdP.same b4M r,f⟩
  ext
  exists v7 (by simp) fun p1 G1 _ e1 s1=>?_
  exists v7 (by simp) fun p2 G2 _ e2 s2=>?_
  exists v7 (by simp) fun p3 G3 _ e3 s3=>?_
  exists v7 (by simp) fun p4 G4 _ e4 s4=>?_
  refine v7 (by simp) fun l G5 _ e5 s5=>?_
  have sA:=(((s1.trans s2).trans s3).trans s4).trans s5
  refine a1B (sA _ _ hd) e5 (v7 (by simp;omega) fun R G6 _ e6 s6=>?_)
  refine k R G6 _ e6 (by intro z;have:=congrArg List.length z;simp at this) (by simp;omega) ?_
  intro v hv
  rcases E5.mp hv with q | q
  ·obtain⟨d,r,f⟩:=ht4 v q
   exact⟨d,RdP.same (sA.trans s6) r,f⟩
  ·simp only[g5,D3,or_false]at q
   have fx:∀ {d:PyData},(d.showable&&d.leavesShort 13&&decide (d.weight<=40)&&decide (d.depth<=1))=true->Fn d 300 4:=fun h=>(S9 h).mono (by omega) (by omega)
   rcases q with rfl | rfl | rfl | rfl | rfl
   ·exact⟨_,.str _,fx (by decide +kernel)⟩
   ·exact⟨_,.tup (((((s2.trans s3).trans s4).trans s5).trans s6) _ _ e1) (.cons (.str _) (.cons .non .nil)),fx (by decide +kernel)⟩
   ·exact⟨_,.tup ((((s3.trans s4).trans s5).trans s6) _ _ e2) (.cons (.str _) (.cons (.str _) (.cons (.str _) .nil))),fx (by decide +kernel)⟩
   ·exact⟨_,.tup (((s4.trans s5).trans s6) _ _ e3) (.cons (.str _) (.cons (.str _) .nil)),fx (by decide +kernel)⟩
   ·exact⟨_,.tup ((s5.trans s6) _ _ e4) (.cons (.str _) (.cons (.int _) (.cons (.int _) .nil))),fx (by decide +kernel)⟩
theorem a6k{K:Fg}{x:Bool}{E:XK}(k:Q (.bl true) H):Z6 K [.bl x,.bl x] H Q E:=by
 refine⟨rfl,?_⟩
 unfold a8l
 ext
 exists P9 (s := "bool") rfl (by decide) ?_
 exists o6 (by decide) ?_
 have e:decide (V.bl x=V.bl x)=true:=b6d rfl
 rw[e]
 exact k
theorem a4n:∀ {H:Hp} {vs:List V},(∀v∈vs,∃d,RdP H v d/\Fn d 300 4)->∃ds,C4 H vs ds/\FnA ds (301 * vs.length) 4
 | _,[],_=>⟨[],.nil,FnA.nil⟩
 | H,v::vs,h=>by
  obtain⟨d,r,f⟩:=h v E3
  obtain⟨ds,rs,fs⟩:=a4n (vs:=vs) fun w hw=>h w (l7 _ hw)
  exact⟨d::ds,.cons r rs,(FnA.cons f fs).mono (by rw[D4];omega) (a8 _)⟩
theorem a8C{R:Addr}{vs:List V}{d:PyData}{ds:List PyData}(hR:H R=some (.lst vs))(r:C4 H vs (d::ds))(f:FnA (d::ds) 20000 4)(k:Q (.str (PyData.list (d::ds)).shown) H):a4q [.ref R] H Q:=
 ⟨R,vs,d,ds,rfl,hR,r,f.lst.sh,PyData.shown_fits (B:=13) (by decide) (by decide) f.lst.le (by have:=f.lst.we;omega),by have:=f.lst.de;omega,k⟩
theorem law_reading(K:Fg)(hl:ns.length<=63)(hO:b1u H)(hS:SqL K H a (ns.map V.int)):a1t K [.ref a] H (fun v _=>v=.bl true) (fun _ _ _=>False):=by
 refine⟨rfl,fun c ck=>?_⟩
 unfold a8n
 nofun
 exists b3y hS hl fun b cc H1 B1 _ _=>?_
 nofun
 exists a6R B1 fun R H2 vs hR hne h40 hv=>?_
 nofun
 obtain⟨ds0,rs0,fs0⟩:=a4n hv
 have fs1:FnA ds0 20000 4:=fs0.mono (by omega) (a8 _)
 obtain⟨d,ds,rfl⟩:∃d ds,ds0=d::ds:=by
  cases ds0 with
  | nil=>cases rs0;exact absurd rfl hne
  | cons d ds=>exact⟨_,_,rfl⟩
 exists a8C hR rs0 fs1 ?_
 exact_mod_cast a2v ?_
 specialize a6m (a8z ?_)
 refine b4r hR fun p3 G3 _ e3 s3=>?_
 refine a1B (s3 _ _ hR) e3 (v7 (by simp;omega) fun p4 G4 _ e4 s4=>?_)
 have s24:j7 H2 G4:=s3.trans s4
 refine⟨p4,rfl,⟨_,SqL.of e4⟩,a9n (xs:=vs++vs.reverse) (fun i σ H5=>∃x,σ=[some (.ref a),some (.ref b),some (.ref R),some (.str (PyData.list (d::ds)).shown),x]/\j7 G4 H5) ?_ ?_ ?_ ?_⟩
 ·exact⟨_,rfl,j7.refl _⟩
 ·rintro i _ H5 _ ⟨x,rfl,s5⟩
  exact SqL.of (s5 _ _ e4)
 ·rintro i v _ H5 hx ⟨x,rfl,s5⟩
  have hm:v∈vs:=by
   have:=mI hx
   simpa using this
  obtain⟨d1,r1,f1⟩:=hv v hm
  have r5:=RdP.same (s24.trans s5) r1
  have hw:v5 d1:=j3 f1.we (by decide)
  ext
  nofun
  exists a0O ck r5 hw fun G6 s6=>?_
  exists a0e (RdP.same s6 r5) hw fun G7 s7=>?_
  exists a6k ?_
  exists n8 rfl ?_
  have r7:=RdP.same (s6.trans s7) r5
  exists a5K ck r7 hw fun G8 s8=>?_
  exists a4A (RdP.same s8 r7) hw fun G9 s9=>?_
  exists a6k ?_
  exists n8 rfl ?_
  exact⟨_,rfl,(((s5.trans s6).trans s7).trans s8).trans s9⟩
 ·rintro _ H5 ⟨x,rfl,s5⟩
  ext
  exists a8C ((s24.trans s5) _ _ hR) (C4.same (s24.trans s5) rs0) fs1 ?_
  exact congrArg V.bl (b6d rfl)
end RD
set_option maxHeartbeats 0
namespace PR
open PySem L2 RD Y
abbrev b5D:Str:="_law_script"
abbrev b5E:Str:="_law_bag"
abbrev b5F:Str:="_law_bag_here"
abbrev b5G:Str:="_law_take"
abbrev b5H:Str:="_law_signs"
abbrev b5I:Str:="_law_name"
abbrev b5J:Str:="_law_names_here"
abbrev b5K:Str:="_law_names"
abbrev b5L:Str:="_law_value"
abbrev b5M:Str:="_law_operand"
abbrev b5N:Str:="_law_deed"
abbrev b5O:Str:="_law_any_row"
abbrev b5P:Str:="_law_odd"
abbrev b5Q:Str:="_law_thing"
abbrev b5R:Str:="_law_spoilt"
abbrev b5S:Str:="_law_things"
abbrev b5T:Str:="_law_whole"
abbrev b5U:Str:="_law_is_operand"
abbrev b5V:Str:="_law_is_deed"
abbrev b5W:Str:="thing"
abbrev b5X:Str:="is_whole"
abbrev b5Y:Str:="is_value"
abbrev b5Z:Str:="is_operand"
abbrev b6a:Str:="_law_says"
abbrev b6b:Str:="_law_is_row"
section
def top(i:Nat):Stmt:=PySem.Challenge.pw_oncedone_k12_deeds_and_rows_known.main.body.getD i (.Pass ⟨0,0,0,0⟩)
abbrev a6n:Stmt:=top 13
abbrev a5n:Stmt:=top 14
abbrev a3h:Stmt:=top 16
abbrev a3g:Stmt:=top 17
abbrev a3f:Stmt:=top 18
abbrev a0x:Stmt:=top 19
abbrev a5q:Stmt:=top 20
abbrev a0z:Stmt:=top 26
abbrev a8w:Stmt:=top 24
abbrev a1y:Stmt:=top 25
abbrev a1x:Stmt:=top 27
abbrev a3e:Stmt:=top 15
abbrev F2:Stmt:=top 21
abbrev Q3:Stmt:=top 22
abbrev W0:Stmt:=top 8
abbrev X6:Stmt:=top 6
abbrev X7:Stmt:=top 7
abbrev S3:Stmt:=top 9
abbrev a0y:Stmt:=top 10
abbrev a5o:Stmt:=top 28
abbrev S2:Stmt:=top 23
abbrev a1z:Stmt:=top 11
abbrev a6l:Stmt:=top 29
structure Txt(K:Fg)(mg:Str->Option Value)(c:Cn):Prop where
 b4V:mg "abs" = none
 b4U:mg "all" = none
 a5Y:mg "bool" = none
 a4R:mg "enumerate" = none
 b1S:mg "int" = none
 m5:mg "isinstance" = none
 L6:mg "len" = none
 b3N:mg "list" = none
 a3K:mg "range" = none
 a9H:mg "repr" = none
 a4Q:mg "str" = none
 a1f:mg "tuple" = none
 b1C:∃u,mg "BOUND" = some u/\m3 (.int 1000000000000) u
 a3J:∃u,mg "DEED_KINDS" = some u/\m3 (.ref c.T8) u
 a7I:∃u,mg "FIGURES" = some u/\m3 (.str "0123456789") u
 a2S:∃u,mg "LETTERS" = some u/\m3 (.str "abcdefghijklmnopqrstuvwxyz") u
 a1P:∃u,mg "LONGEST_NAME" = some u/\m3 (.int 8) u
abbrev scF(ns:List (Str×a0q)):Scope:={ kind:=.function,names:=ns,isGenerator:=false,isCoroutine:=false,more:=[] }
local macro_rules | `(tactic| walk_at "c0") => `(tactic| exact ⟨rfl, by decide +kernel, by decide +kernel, rfl, by decide +kernel, by decide +kernel, rfl, by decide +kernel⟩)
local macro_rules | `(tactic| walk_at "c1") => `(tactic| exact ⟨rfl, by decide +kernel, by decide +kernel, rfl, fr_nest (by decide +kernel), by decide +kernel, rfl, by decide +kernel⟩)
local macro_rules | `(tactic| walk_at "c2") => `(tactic| exact ⟨rfl, by decide +kernel, by decide +kernel, rfl, rfl, by decide +kernel, by decide +kernel, rfl, rfl, by decide +kernel⟩)
local macro_rules | `(tactic| walk_at "c3") => `(tactic| exact ⟨rfl, by decide +kernel, by decide +kernel, rfl, rfl, fr_nest (by decide +kernel), by decide +kernel, rfl, rfl, by decide +kernel⟩)
def a9G(f:List Value->Prop):List Str->Prop
 | []=>f []
 | _::r=>∀u,a9G (fun us=>f (u::us)) r
theorem a9G.mp:∀ {ps:List Str} {f:List Value->Prop},a9G f ps->∀us,us.length=ps.length->f us
 | [],_,h,[],_=>h
 | _::_,_,h,u::us,e=>a9G.mp (h u) us (Nat.succ.inj e)
section
variable {P:g7}{w:World}{K:Fg}{mg:Str->Option Value}{base h:Heap}{c:Cn}{f C:Addr}{fd:E4}{x q:Str}{st:Stmt}{N ps:List Str}{k:Nat}{t:TS}{pm cd:Value}{sp:Sp}
open PySem.Spec PyProof.Rows in
theorem fk(F:Fun K x q st f fd)(S:n9 N ps (d8 st))(b:∀cdv A outer s H E,F0 k (A.deeper (a3P q (d8 st) s.heap.objs.size f cdv))->N.Nodup->a2Z (a4I CX0 P w K mg base N q (d8 st) f cdv A outer s H E).nox (K7 st) t):D8 P w K mg base CX0 (k+1) f fd ps (spD ps.length N.length t):=
 a3X F S (fun _ _ _ _ h=>h.1) fun cdv A outer s H _ _ E hr h=>⟨t,b cdv A outer s H E hr S.nd,h.2⟩
abbrev fdM(x q:Str)(st:Stmt)(pm cd:Value):E4:=F5 x q (Q0 st) (K7 st) (d8 st) .none .none .none pm none cd .none
structure FnI(K:Fg)(x q:Str)(st:Stmt)(f:Addr)(pm cd:Value):Prop where
 l:K.lookup f=some ⟨.type "function",none,.func (fdM x q st pm cd),#[]⟩
 c:X0 K cd q=true
 k:C6 K (.ref f)=true
structure FnG(K:Fg)(x:Str)(st:Stmt)(f:Addr)(pm cd:Value):Prop where
 i:FnI K x x st f pm cd
 a:j6 K e8 x=some (some (.ref f))
structure FnM(K:Fg)(C:Addr)(x q:Str)(st:Stmt)(f:Addr)(pm cd:Value):Prop where
 i:FnI K x q st f pm cd
 a:C7 K (.ref C) x=some (some (.ref f))
 n:a4M K (.ref f)=true
theorem FnI.F(h:FnI K x q st f pm cd):Fun K x q st f (fdM x q st pm cd):=b3u h.l h.c h.k
abbrev BdA(x q:Str)(st:Stmt)(ps:List Str):Prop:=∀(kV doc pm:Value) (an:Option Addr) (cdv ct:Value),a9G (fun us=>bindArgs (F5 x q (Q0 st) (K7 st) (d8 st) .none kV doc pm an cdv ct) ⟨us,[]⟩=pure (ps.zip us)) ps
theorem mkC(X:K.In h)(G:h.Ns e8 mg)(g:FnG K x st f pm cd)(O:D8 P w K mg base CX0 k f (fdM x x st pm cd) ps sp)(B:BdA x x st ps):w6 P w K mg base k x ps sp:=a7x g.i.F O (G0 X G g.a) (g.i.F.binds fun _ _ _ _ _ _ us hl=>(B _ _ _ _ _ _).mp us hl)
end
section
variable {P:g7}{w:World}{K:Fg}{mg:Str->Option Value}{base:Heap}{c:Cn}{f:Addr}{fd:E4}(T:Txt K mg c)
abbrev a8Z:List Str:=[b5D]
theorem b2a:n9 [b5D] a8Z (d8 a6n):=by walk_at "sc"
theorem a9x:T4 [b5D] (d8 a6n) (scF [ (".0",.local),("_law_cell",.local),("abs",.globalImplicit)]) "_law_cell" := by walk_at "c0"
include T in
theorem b3f(F:Fun K b5E b5E a6n f fd):D8 P w K mg base CX0 1 f fd a8Z (a3b K):=fk F b2a fun _ _ _ _ _ _ hr nd=>b8 (d7 (z5 (a8d a7 a7 a7 (V6 a9x rfl (a2h (E7 a6H (b7 0) J1 (J0 a7))) (fun _ _ _ _ _=>a0s) (fun _ _ _ _ _=>d6 a3Z rfl T.b4V PyProof.Rows.boot_abs (i9 (b7 0)))))))
variable(a6D:w6 P w K mg base 1 b5E a8Z (a3b K))
abbrev a5v:List Str:=[b5F,"_law_many"]
theorem b0d:n9 [b5F,"_law_many","_law_more","_law_cell","_law_value_here","_law_first","_law_second"] a5v (d8 a5n):=by walk_at "sc"
include T in
theorem b0U(F:Fun K b5G b5G a5n f fd):D8 P w K mg base CX0 1 f fd a5v (v8 K):=fk F b0d fun _ _ _ _ _ _ hr nd=>a9 (l9 (C9 (v0 hr) (j9 (b7 0) a7) a7) (a9 (l6 2 nd a7) (a9 (l9 (C9 Y9 (j9 (b7 0) a7) (d6 k9 rfl T.L6 i8 (i9 (j9 (b7 0) a7)))) (a9 (l6 3 nd (j9 (j9 (b7 0) a7) (j9 (b7 0) a7))) (a9 (a6J (b7 0) a7 a9P a7 a8f a0W) (a9 (l9 (C9 a8e (b7 3) a7) (b8 (a1i (b7 3) (a1k (b7 0) a7 a0W))) g9) (b8 (l6 2 nd (g6 u7 (g6 J2 (b7 3) a7) a7)))))) g9) (b8 (a1i (g6 J2 (g6 u7 (g6 O8 (j9 (b7 0) a7) a7) (b7 2)) a7) (a1k (b7 0) a7 a0W))))) g9) (a9 (l9 (C9 a3W (j9 (b7 0) a7) a7) (a9 (l6 4 nd (g6 J2 (j9 (b7 0) a7) (b7 1))) (a9 (a1i (g6 a2k (j9 (b7 0) a7) (b7 1)) (a1k (b7 0) a7 a0W)) (b8 (d7 (b7 4))))) g9) (a9 (l6 5 nd (g6 J2 (g6 O8 (j9 (b7 0) a7) a7) a7)) (a9 (l6 6 nd (g6 J2 (g6 O8 (b7 5) a7) a7)) (a9 (l9 (C9 a3W (b7 1) a7) (b8 (d7 (g6 J2 (g6 u7 (g6 O8 (b7 6) a7) (b7 5)) (b7 1)))) g9) (b8 (d7 (g6 J2 (g6 a2k (b7 6) a7) (b7 1))))))))
variable(m9:w6 P w K mg base 1 b5G a5v (v8 K))
abbrev a5x:List Str:=[b5F]
theorem b0f:n9 [b5F,"_law_letters",b5H] a5x (d8 a3h):=by walk_at "sc"
theorem a7w:T4 [b5F,"_law_letters",b5H] (d8 a3h) (scF [ (".0",.local),("_law_k",.local),(b5G,.globalImplicit),(b5F,.free),(b5H,.free)]) "_law_k" := by walk_at "c0"
include T m9 in
theorem b0W(F:Fun K b5I b5I a3h f fd):D8 P w K mg base CX0 2 f fd a5x (a0Y K):=fk F b0f fun _ _ _ _ _ _ hr nd=>a9 (l6 1 nd b3) (a9 (l6 2 nd (g6 u7 (b7 1) b3)) (b8 (d7 (g6 u7 (j9 (b7 1) (f7 m9 hr (l8 (b7 0) a7))) (a2V PySem.F.plainAttrs_str PySem.F.slot_str_join PySem.F.type_str_join a4Z b3 (i9 (V6 a7w rfl (U6 rfl T.a3K (i9 (f7 m9 hr (l8 (b7 0) a7)))) (fun _ _ _ _ _=>a0s) (fun _ _ _ _ _=>j9 (b7 3) (f7 m9 hr (l8 (b7 1) a7))))))))))
variable(a3D:w6 P w K mg base 2 b5I a5x (a0Y K))
abbrev a3q:List Str:=[b5F]
theorem a8u:n9 [b5F,"_law_menu","_law_first","_law_by",b5J,"_law_k","_law_name_here"] a3q (d8 a3g):=by walk_at "sc"
include T m9 a3D in
theorem a9e(F:Fun K b5K b5K a3g f fd):D8 P w K mg base CX0 3 f fd a3q (Z7 K):=fk F a8u fun _ _ _ _ _ _ hr nd=>a9 (l6 1 nd (z5 (f9 b3 (f9 b3 (f9 b3 (a1m b3 b3 b3 b3 b3)))))) (a9 (l6 1 nd (g6 u7 (b7 1) (z5 (f9 b3 (f9 b3 (f9 b3 (a1m b3 b3 b3 b3 b3))))))) (a9 (l6 2 nd (f7 m9 hr (l8 (b7 0) a7))) (a9 (l6 3 nd (g6 u7 a7 (g6 O8 a7 (f7 m9 hr (l8 (b7 0) a7))))) (a9 (l6 4 nd (z5 J7)) (a9 (Y8 PassesOwn.never rfl (U6 rfl T.a3K (i9 (g6 u7 a7 (f7 m9 hr (l8 (b7 0) a7))))) (a1l 5 nd) (a9 (l6 6 nd (j9 (b7 1) (g6 J2 (g6 u7 (b7 2) (g6 O8 (b7 5) (b7 3))) a7))) (a9 (l9 (C9 (v0 hr) (f7 m9 hr (l8 (b7 0) a7)) a7) (b8 (l6 6 nd (f7 a3D hr (i9 (b7 0))))) g9) (b8 (l9 (I0 U8 (b7 6) (b7 4) rfl) (b8 (a2g (a2V a3L PySem.F.slot_list_append PySem.F.type_list_append a2X (b7 4) (i9 (b7 6))))) g9))))) (b8 (d7 (b7 4))))))))
variable(a1d:w6 P w K mg base 3 b5K a3q (Z7 K))
abbrev a3p:List Str:=[b5F]
theorem a8t:n9 [b5F] a3p (d8 a3f):=by walk_at "sc"
include T m9 in
theorem a9d(F:Fun K b5L b5L a3f f fd):D8 P w K mg base CX0 2 f fd a3p (Z5 K):=fk F a8t fun _ _ _ _ _ _ hr nd=>b8 (d7 (j9 (z5 (a8d a7 a7 (g6 a0t (g6 a0t (g6 a0u a7 a7) a7) (f7 m9 hr (l8 (b7 0) a7))) (f7 m9 hr (l8 (b7 0) a7)))) (f7 m9 hr (l8 (b7 0) a7))))
variable(a1c:w6 P w K mg base 2 b5L a3p (Z5 K))
abbrev a0C:List Str:=[b5F,b5J]
theorem a5i:n9 [b5F,b5J] a0C (d8 a0x):=by walk_at "sc"
include T m9 a1c in
theorem a5A(F:Fun K b5M b5M a0x f fd):D8 P w K mg base CX0 3 f fd a0C (M0 K):=fk F a5i fun _ _ _ _ _ _ hr nd=>a9 (l9 (C9 (v0 hr) (f7 m9 hr (l8 (b7 0) a7)) a7) (b8 (d7 (f7 a1c hr (i9 (b7 0))))) g9) (b8 (d7 (j9 (b7 1) (f7 m9 hr (l8 (b7 0) (d6 k9 rfl T.L6 i8 (i9 (b7 1))))))))
variable(J3:w6 P w K mg base 3 b5M a0C (M0 K))
abbrev a5y:List Str:=[b5F,b5J]
theorem b0g:n9 [b5F,b5J,"_law_kind","_law_one","_law_other"] a5y (d8 a5q):=by walk_at "sc"
include T m9 J3 in
theorem b0X(F:Fun K b5N b5N a5q f fd):D8 P w K mg base CX0 4 f fd a5y (Z8 K):=fk F b0g fun _ _ _ _ _ _ hr nd=>a9 (l6 2 nd (j9 (z5 (a1m b3 b3 b3 b3 b3)) (f7 m9 hr (l8 (b7 0) a7)))) (a9 (l6 3 nd (f7 J3 hr (l8 (b7 0) (b7 1)))) (a9 (l6 4 nd (f7 J3 hr (l8 (b7 0) (b7 1)))) (a9 (l9 (C9 (v0 hr) (f7 m9 hr (l8 (b7 0) a7)) a7) (b8 (l6 4 nd (b7 3))) g9) (b8 (d7 (y7 (a1n (b7 2) (b7 3) (b7 4))))))))
variable(Y2:w6 P w K mg base 4 b5N a5y (Z8 K))
abbrev a0F:List Str:=[b5F,b5J]
theorem a5l:n9 [b5F,b5J,"_law_name_here","_law_operand_here","_law_rows"] a0F (d8 a0z):=by walk_at "sc"
include T m9 J3 Y2 in
theorem a5D(F:Fun K b5O b5O a0z f fd):D8 P w K mg base CX0 5 f fd a0F (S1 K):=fk F a5l fun _ _ _ _ _ _ hr nd=>a9 (l6 2 nd (j9 (b7 1) (f7 m9 hr (l8 (b7 0) (d6 k9 rfl T.L6 i8 (i9 (b7 1))))))) (a9 (l6 3 nd (f7 J3 hr (l8 (b7 0) (b7 1)))) (a9 (l6 4 nd (z5 (a8d (y7 (a1n b3 (b7 2) (f7 Y2 hr (l8 (b7 0) (b7 1))))) (y7 (a1n b3 (b7 2) (b7 3))) (y7 (l8 b3 (b7 2))) (y7 (l8 b3 (b7 3)))))) (b8 (d7 (j9 (g6 u7 (b7 4) (z5 (l8 (y7 (l8 b3 (b7 3))) (y7 (i9 b3))))) (f7 m9 hr (l8 (b7 0) a7)))))))
variable(W5:w6 P w K mg base 5 b5O a0F (S1 K))
abbrev a8Y:List Str:=[b5F]
theorem b1Z:n9 [b5F,"_law_odd_here"] a8Y (d8 a8w):=by walk_at "sc"
include T m9 in
theorem b3d(F:Fun K b5P b5P a8w f fd):D8 P w K mg base CX0 2 f fd a8Y (a0w K):=fk F b1Z fun _ _ _ _ _ _ hr nd=>a9 (l6 1 nd (z5 (f9 D0 (f9 D0 (f9 a3U (f9 (a9M a7Y a7) (f9 (g6 a0u a7 a7) (f9 b3 (f9 b3 (f9 b3 (f9 b3 (f9 b3 (a1m b3 a7 b3 b3 (y7 (i9 b3))))))))))))))) (a9 (l6 1 nd (g6 u7 (b7 1) (z5 (a1n (z5 (i9 a7)) a4Y (y7 J7))))) (b8 (d7 (j9 (b7 1) (f7 m9 hr (l8 (b7 0) (d6 k9 rfl T.L6 i8 (i9 (b7 1)))))))))
variable(a0Q:w6 P w K mg base 2 b5P a8Y (a0w K))
abbrev a1D:List Str:=[b5F,b5Q]
theorem a6W:n9 [b5F,b5Q,"_law_way","_law_at"] a1D (d8 a1y):=by walk_at "sc"
include T m9 a0Q in
theorem a7h(F:Fun K b5R b5R a1y f fd):D8 P w K mg base CX0 3 f fd a1D (R4 K):=fk F a6W fun _ _ _ _ _ _ hr nd=>a9 (l6 2 nd (f7 m9 hr (l8 (b7 0) a7))) (a9 (l6 3 nd (f7 m9 hr (l8 (b7 0) (d6 k9 rfl T.L6 i8 (i9 (b7 1)))))) (a9 (l9 (C9 (v0 hr) (b7 2) a7) (b8 (d7 (g6 P2 (E7 O6 (b7 1) J1 (J0 (b7 3))) (E7 O6 (b7 1) (J0 (g6 u7 (b7 3) a7)) J1)))) g9) (a9 (l9 (C9 (v0 hr) (b7 2) a7) (b8 (d7 (g6 P2 (g6 P2 (E7 O6 (b7 1) J1 (J0 (b7 3))) (y7 (i9 (f7 a0Q hr (i9 (b7 0)))))) (E7 O6 (b7 1) (J0 (b7 3)) J1)))) g9) (a9 (l9 (C9 (v0 hr) (b7 2) a7) (b8 (d7 (a3V a2Y rfl T.b3N PyProof.Rows.boot_list (i9 (b7 1))))) g9) (b8 (d7 (g6 P2 (g6 P2 (E7 O6 (b7 1) J1 (J0 (b7 3))) (y7 (i9 (f7 a0Q hr (i9 (b7 0)))))) (E7 O6 (b7 1) (J0 (g6 u7 (b7 3) a7)) J1))))))))
variable(V5:w6 P w K mg base 3 b5R a1D (R4 K))
abbrev a1C:List Str:=[b5F]
theorem a6V:n9 [b5F,b5J,"_law_things_here","_law_k","_law_deed_here","_law_row","_law_bent"] a1C (d8 a1x):=by walk_at "sc"
include T a1d Y2 W5 a0Q V5 in
theorem a7g(F:Fun K b5S b5S a1x f fd):D8 P w K mg base CX0 6 f fd a1C (V8 K):=fk F a6V fun _ _ _ _ _ _ hr nd=>a9 (l6 1 nd (f7 a1d hr (i9 (b7 0)))) (a9 (l6 2 nd (z5 J7)) (a9 (Y8 PassesOwn.never rfl (U6 rfl T.a3K (i9 a7)) (a1l 3 nd) (a9 (l6 4 nd (f7 Y2 hr (l8 (b7 0) (b7 1)))) (a9 (l6 5 nd (f7 W5 hr (l8 (b7 0) (b7 1)))) (a9 (l6 6 nd (f7 V5 hr (l8 (b7 0) (b7 4)))) (b8 (a2g (a2V a3L PySem.F.slot_list_extend PySem.F.type_list_extend a2W (b7 2) (i9 (z5 (f9 (b7 4) (a1m (b7 5) (b7 6) (f7 V5 hr (l8 (b7 0) (b7 5))) (y7 (a1n b3 (j9 (b7 1) a7) (b7 6))) (f7 a0Q hr (i9 (b7 0)))))))))))))) (b8 (d7 (g6 u7 (b7 2) (z5 (a1m b3 (y7 (l8 b3 a3U)) (y7 (a1n b3 b3 b3)) (y7 (l8 b3 b3)) (y7 (a1n b3 a7 a7)))))))))
variable(a0h:w6 P w K mg base 6 b5S a1C (V8 K))
abbrev a3o:List Str:=[b5Q]
theorem a8s:n9 [b5Q] a3o (d8 a3e):=by walk_at "sc"
include T in
theorem a9c(F:Fun K b5T b5T a3e f fd):D8 P w K mg base CX0 1 f fd a3o (Z4 K):=fk F a8s fun _ _ _ _ _ _ hr nd=>b8 (d7 (w4 (d6 o7 rfl T.m5 c6 (l8 (b7 0) (y8 rfl T.b1S a2f rfl))) (z4 (a3T (d6 o7 rfl T.m5 c6 (l8 (b7 0) (y8 rfl T.a5Y Q7 rfl)))))))
variable(a1b:w6 P w K mg base 1 b5T a3o (Z4 K))
abbrev M3:List Str:=[b5Q]
theorem Z9:n9 [b5Q,"_law_good",b5H] M3 (d8 F2):=by walk_at "sc"
theorem W9:T4 [b5Q,"_law_good",b5H] (d8 F2) (scF [ (".0",.local),("_law_sign",.local),(b5H,.free)]) "_law_sign" := by walk_at "c0"
include T a1b in
theorem a0d(F:Fun K b5U b5U F2 f fd):D8 P w K mg base CX0 2 f fd M3 (o8 K):=fk F Z9 fun _ _ _ _ _ _ hr nd=>a9 (l9 (A4 (d6 o7 rfl T.m5 c6 (l8 (b7 0) (y8 rfl T.a4Q D2 rfl)))) (a9 (l6 1 nd (w4 (X5 R0 R0 a7 (d6 k9 rfl T.L6 i8 (i9 (b7 0))) a7) (z4 (O7 a1p (j9 (b7 0) a7) b3 rfl)))) (a9 (l6 2 nd b3) (b8 (d7 (w4 (b7 1) (z4 (U7 (v0 hr) (V6 W9 rfl (a3S (b7 0)) (fun _ _ _ _ _=>a6I (I0 U8 (b7 0) (b7 3) rfl)) (fun _ _ _ _ _=>b7 0)) (z5 J7)))))))) g9) (b8 (d7 (w4 (f7 a1b hr (i9 (b7 0))) (z4 (X5 R0 Y9 a7 (b7 0) (g6 a0u a7 a7))))))
variable(o5:w6 P w K mg base 2 b5U M3 (o8 K))
abbrev Q5:List Str:=[b5Q]
theorem a1w:n9 [b5Q] Q5 (d8 Q3):=by walk_at "sc"
include T o5 in
theorem a1F(F:Fun K b5V b5V Q3 f fd):D8 P w K mg base CX0 3 f fd Q5 (E8 K):=fk F a1w fun _ _ _ _ _ _ hr nd=>a9 (l9 (M5 (O3 (A5 (A4 (d6 o7 rfl T.m5 c6 (l8 (b7 0) (y8 rfl T.a1f F8 rfl))))) (O3 (C9 (a1o hr) (d6 k9 rfl T.L6 i8 (i9 (b7 0))) a7) (P1 (A5 (A4 (d6 o7 rfl T.m5 c6 (l8 (j9 (b7 0) a7) (y8 rfl T.a4Q D2 rfl))))))))) (b8 (d7 D0)) g9) (a9 (l9 (I0 U8 (j9 (b7 0) a7) (z5 (a1m b3 b3 b3 b3 b3)) rfl) (b8 (d7 D0)) g9) (b8 (d7 (w4 (f7 o5 hr (i9 (j9 (b7 0) a7))) (z4 (f7 o5 hr (i9 (j9 (b7 0) a7))))))))
variable(C0:w6 P w K mg base 3 b5V Q5 (E8 K))
abbrev a0D:List Str:=[b5W]
theorem a5j:n9 [b5W] a0D (d8 W0):=by walk_at "sc"
theorem a3z:T4 [b5W] (d8 W0) (scF [ (".0",.local),("sign",.local),("LETTERS",.globalImplicit),("FIGURES",.globalImplicit)]) "sign" := by walk_at "c0"
include T in
theorem a5B(F:Fun K "is_name" "is_name" W0 f fd):D8 P w K mg base CX0 1 f fd a0D (D1 K):=fk F a5j fun _ _ _ _ _ _ hr nd=>a9 (l9 (M5 (O3 (A5 (A4 (d6 o7 rfl T.m5 c6 (l8 (b7 0) (y8 rfl T.a4Q D2 rfl))))) (P1 (A5 (a4W R0 R0 a7 (d6 k9 rfl T.L6 i8 (i9 (b7 0))) (L8 T.a1P rfl)))))) (b8 (d7 D0)) g9) (b8 (d7 (w4 (O7 a1p (j9 (b7 0) a7) (L8 T.a2S rfl) rfl) (z4 (d6 (a3Y rfl) rfl T.b4U PyProof.Rows.boot_all (i9 (V6 a3z rfl (a3S (b7 0)) (fun _ _ _ _ _=>a0s) (fun _ _ _ _ _=>O7 a1p (b7 0) (g6 u7 (L8 T.a2S rfl) (L8 T.a7I rfl)) rfl))))))))
variable(F3:w6 P w K mg base 1 "is_name" a0D (D1 K))
abbrev X8:List Str:=[b5W]
theorem a4j:n9 [b5W] X8 (d8 X6):=by walk_at "sc"
include T in
theorem a4v(F:Fun K b5X b5X X6 f fd):D8 P w K mg base CX0 1 f fd X8 (P7 K):=fk F a4j fun _ _ _ _ _ _ hr nd=>b8 (d7 (w4 (d6 o7 rfl T.m5 c6 (l8 (b7 0) (y8 rfl T.b1S a2f rfl))) (z4 (a3T (d6 o7 rfl T.m5 c6 (l8 (b7 0) (y8 rfl T.a5Y Q7 rfl)))))))
variable(T2:w6 P w K mg base 1 b5X X8 (P7 K))
abbrev X9:List Str:=[b5W]
theorem a4k:n9 [b5W] X9 (d8 X7):=by walk_at "sc"
include T T2 in
theorem a4w(F:Fun K b5Y b5Y X7 f fd):D8 P w K mg base CX0 2 f fd X9 (P8 K):=fk F a4k fun _ _ _ _ _ _ hr nd=>b8 (d7 (w4 (f7 T2 hr (i9 (b7 0))) (z4 (X5 R0 Y9 a7 (b7 0) (L8 T.b1C rfl)))))
variable(T3:w6 P w K mg base 2 b5Y X9 (P8 K))
abbrev S7:List Str:=[b5W]
theorem a1V:n9 [b5W] S7 (d8 S3):=by walk_at "sc"
include T F3 T3 in
theorem a1Y(F:Fun K b5Z b5Z S3 f fd):D8 P w K mg base CX0 3 f fd S7 (A9 K):=fk F a1V fun _ _ _ _ _ _ hr nd=>b8 (d7 (a9N (f7 F3 hr (i9 (b7 0))) (z4 (f7 T3 hr (i9 (b7 0))))))
variable(z9:w6 P w K mg base 3 b5Z S7 (A9 K))
abbrev a0E:List Str:=[b5W]
theorem a5k:n9 [b5W] a0E (d8 a0y):=by walk_at "sc"
include T z9 in
theorem a5C(F:Fun K "is_deed" "is_deed" a0y f fd):D8 P w K mg base CX0 4 f fd a0E (P3 K c):=fk F a5k fun _ _ _ _ _ _ hr nd=>a9 (l9 (M5 (O3 (A5 (A4 (d6 o7 rfl T.m5 c6 (l8 (b7 0) (y8 rfl T.a1f F8 rfl))))) (P1 (C9 (a1o hr) (d6 k9 rfl T.L6 i8 (i9 (b7 0))) a7)))) (b8 (d7 D0)) g9) (b8 (d7 (w4 (O7 (a2j hr) (j9 (b7 0) a7) (L8 T.a3J rfl) rfl) (w4 (f7 z9 hr (i9 (j9 (b7 0) a7))) (z4 (f7 z9 hr (i9 (j9 (b7 0) a7))))))))
variable(M4:w6 P w K mg base 4 "is_deed" a0E (P3 K c))
abbrev a5w:List Str:=["_law_found","_law_due"]
theorem b0e:n9 ["_law_found","_law_due"] a5w (d8 a5o):=by walk_at "sc"
include T in
theorem b0V(F:Fun K b6a b6a a5o f fd):D8 P w K mg base CX0 1 f fd a5w (Z6 K):=fk F b0e fun _ _ _ _ _ _ hr nd=>b8 (d7 (w4 (d6 o7 rfl T.m5 c6 (l8 (b7 0) (y8 rfl T.a5Y Q7 rfl))) (z4 (U7 (v0 hr) (b7 0) (b7 1)))))
variable(a1L:w6 P w K mg base 1 b6a a5w (Z6 K))
abbrev S6:List Str:=[b5Q]
theorem a1U:n9 [b5Q,"_law_wants","_law_k","_law_want","_law_part"] S6 (d8 S2):=by walk_at "sc"
include T o5 C0 in
theorem a1X(F:Fun K b6b b6b S2 f fd):D8 P w K mg base CX0 4 f fd S6 (M6 K):=fk F a1U fun _ _ _ _ _ _ hr nd=>a9 (l9 (M5 (O3 (A5 (A4 (d6 o7 rfl T.m5 c6 (l8 (b7 0) (y8 rfl T.a1f F8 rfl))))) (O3 (C9 Y9 (d6 k9 rfl T.L6 i8 (i9 (b7 0))) a7) (P1 (A5 (A4 (d6 o7 rfl T.m5 c6 (l8 (j9 (b7 0) a7) (y8 rfl T.a4Q D2 rfl))))))))) (b8 (d7 D0)) g9) (a9 (l6 1 nd (a6N (L7 b3 b3 (L7 b3 b3 (L7 b3 b3 (L7 b3 b3 (L7 b3 b3 (L7 b3 b3 a6K)))))))) (a9 (l9 (M5 (O3 (a3R hr (j9 (b7 0) a7) (b7 1) rfl) (P1 (C9 (a1o hr) (d6 k9 rfl T.L6 i8 (i9 (a2i hr (b7 1) (j9 (b7 0) a7) (fun _ _=>rfl)))) (g6 a0t (d6 k9 rfl T.L6 i8 (i9 (b7 0))) a7))))) (b8 (d7 D0)) g9) (a9 (Y8 PassesOwn.never rfl (a4X rfl T.a4R (i9 (a2i hr (b7 1) (j9 (b7 0) a7) (fun _ _=>rfl)))) (a8a rfl (a1j (a1l 2 nd) (a1j (a1l 3 nd) a6L))) (a9 (l6 4 nd (j9 (b7 0) (g6 u7 (b7 2) a7))) (a9 (l9 (M5 (a1h (C9 (v0 hr) (b7 3) b3) (a0r (A5 (A4 (f7 C0 hr (i9 (b7 4)))))))) (b8 (d7 D0)) g9) (a9 (l9 (M5 (a1h (C9 (v0 hr) (b7 3) b3) (a0r (A5 (A4 (f7 o5 hr (i9 (b7 4)))))))) (b8 (d7 D0)) g9) (b8 (l9 (M5 (a1h (C9 (v0 hr) (b7 3) b3) (a0r (M5 (O3 (A5 (A4 (d6 o7 rfl T.m5 c6 (l8 (b7 4) (y8 rfl T.a4Q D2 rfl))))) (P1 (A5 (A4 (f7 o5 hr (i9 (b7 4))))))))))) (b8 (d7 D0)) g9)))))) (b8 (d7 D0)))))
variable(O5:w6 P w K mg base 4 b6b S6 (M6 K))
abbrev a1E:List Str:=[b5W]
theorem a6X:n9 [b5W,"kind","rest"] a1E (d8 a1z):=by walk_at "sc"
include T F3 z9 M4 in
theorem a7i(F:Fun K "is_row" "is_row" a1z f fd):D8 P w K mg base CX0 5 f fd a1E (V9 K c):=fk F a6X fun _ _ _ _ _ _ hr nd=>a9 (l9 (M5 (O3 (A5 (A4 (d6 o7 rfl T.m5 c6 (l8 (b7 0) (y8 rfl T.a1f F8 rfl))))) (P1 (C9 (v0 hr) (d6 k9 rfl T.L6 i8 (i9 (b7 0))) a7)))) (b8 (d7 D0)) g9) (a9 (l6 1 nd (j9 (b7 0) a7)) (a9 (l6 2 nd (E7 b1V (b7 0) (J0 a7) J1)) (a9 (l9 (I0 (V7 hr) (b7 1) b3 (a0G _)) (b8 (d7 (w4 (U7 (v0 hr) (d6 k9 rfl T.L6 i8 (i9 (b7 2))) a7) (w4 (f7 F3 hr (i9 (j9 (b7 2) a7))) (z4 (f7 M4 hr (i9 (j9 (b7 2) a7)))))))) g9) (a9 (l9 (I0 (V7 hr) (b7 1) b3 (a0G _)) (b8 (d7 (w4 (U7 (v0 hr) (d6 k9 rfl T.L6 i8 (i9 (b7 2))) a7) (w4 (f7 F3 hr (i9 (j9 (b7 2) a7))) (z4 (f7 z9 hr (i9 (j9 (b7 2) a7)))))))) g9) (a9 (l9 (I0 (V7 hr) (b7 1) b3 (a0G _)) (b8 (d7 (w4 (U7 (v0 hr) (d6 k9 rfl T.L6 i8 (i9 (b7 2))) a7) (z4 (f7 F3 hr (i9 (j9 (b7 2) a7))))))) g9) (a9 (l9 (I0 (a2j hr) (b7 1) (y7 (l8 b3 b3)) rfl) (b8 (d7 (w4 (U7 (v0 hr) (d6 k9 rfl T.L6 i8 (i9 (b7 2))) a7) (z4 (f7 z9 hr (i9 (j9 (b7 2) a7))))))) g9) (b8 (d7 (w4 (O7 (V7 hr) (b7 1) b3 (a0G _)) (z4 (U7 (v0 hr) (d6 k9 rfl T.L6 i8 (i9 (b7 2))) a7)))))))))))
variable(a0i:w6 P w K mg base 5 "is_row" a1E (V9 K c))
abbrev b1O:List Str:=[b5D]
theorem a8v:n9 [b5D,b5F,"_law_things_here","_law_before",b5Q] b1O (d8 a6l):=by walk_at "sc"
include T a6D a0h C0 M4 a1L O5 a0i in
theorem b3e(ck:a9F K c)(F:Fun K "law" "law" a6l f fd):D8 P w K mg base CX0 7 f fd b1O (a1t K):=by
 refine a3X F a8v (fun vs H Q E h=>h.1) (fun cdv A outer s H vs Q E hr h=>⟨a8n K c,?_,h.2 c ck⟩)
 have nd:=a8v.nd
 exact a9 (l6 1 nd (f7 a6D hr (i9 (b7 0)))) (a9 (l6 2 nd (f7 a0h hr (i9 (b7 1)))) (a9 (l6 3 nd (d6 (Z0 hr) rfl T.a9H a1R (i9 (b7 2)))) (a9 (Y8 PassesOwn.never rfl (a2h (g6 u7 (b7 2) (a8b (b7 2)))) (a1l 4 nd) (a9 (l9 (A5 (A4 (f7 a1L hr (l8 (f7 M4 hr (i9 (b7 4))) (f7 C0 hr (i9 (b7 4))))))) (b8 (d7 D0)) g9) (b8 (l9 (A5 (A4 (f7 a1L hr (l8 (f7 a0i hr (i9 (b7 4))) (f7 O5 hr (i9 (b7 4))))))) (b8 (d7 D0)) g9)))) (b8 (d7 (U7 (v0 hr) (d6 (Z0 hr) rfl T.a9H a1R (i9 (b7 2))) (b7 3)))))))
end
end
structure ClF(K:Fg)(y:Str)(C:Addr):Prop where
 y:j6 K e8 y=some (some (.ref C))
 pg:a0V K C Str.empty=true
 hd:a7N K C=true
 po:a7K K C=true
 sa:C7 K (.ref C) "__setattr__" = some (some (.builtin "object.__setattr__"))
 mm:a9J K C=true
 kc:C6 K (.ref C)=true
abbrev pm0:Value:=(.str "law_oncedone_k12_deeds_and_rows_known" 246)
abbrev pm1:Value:=(.str "oncedone.words" 187)
theorem b3A{l:PySem.W.OpenLaw}{w:World}{K:Fg}{h:Heap}{mg:Str->Option Value}{fa:Addr}(X:K.In h)(G:h.Ns e8 mg)(hfa:mg "law" = some (.ref fa))
  (y_DEED_KINDS:j6 K e8 "DEED_KINDS" = some (some (.ref 15))) (l_DEED_KINDS:K.lookup 15=some ⟨.type "tuple",none,.seq (([(.str "plus" 197),(.str "minus" 198),(.str "times" 199),(.str "less" 200),(.str "same" 201)]:List Value).toArray) 0,#[]⟩)
  (x0:FnG K b5E a6n 60 pm0 (.ref 59))
  (x1:FnG K b5G a5n 67 pm0 (.ref 66))
  (x2:FnG K b5I a3h 79 pm0 (.ref 78))
  (x3:FnG K b5K a3g 86 pm0 (.ref 85))
  (x4:FnG K b5L a3f 93 pm0 (.ref 92))
  (x5:FnG K b5M a0x 100 pm0 (.ref 99))
  (x6:FnG K b5N a5q 107 pm0 (.ref 106))
  (x7:FnG K b5O a0z 147 pm0 (.ref 146))
  (x8:FnG K b5P a8w 133 pm0 (.ref 132))
  (x9:FnG K b5R a1y 140 pm0 (.ref 139))
  (x10:FnG K b5S a1x 154 pm0 (.ref 153))
  (x11:FnG K b5T a3e 74 pm0 (.ref 73))
  (x12:FnG K b5U F2 112 pm0 (.ref 111))
  (x13:FnG K b5V Q3 119 pm0 (.ref 118))
  (x14:FnG K "is_name" W0 34 pm1 (.ref 33))
  (x15:FnG K b5X X6 22 pm1 (.ref 21))
  (x16:FnG K b5Y X7 29 pm1 (.ref 28))
  (x17:FnG K b5Z S3 41 pm1 (.ref 40))
  (x18:FnG K "is_deed" a0y 48 pm1 (.ref 47))
  (x19:FnG K b6a a5o 161 pm0 (.ref 160))
  (x20:FnG K b6b S2 126 pm0 (.ref 125))
  (x21:FnG K "is_row" a1z 55 pm1 (.ref 54))
  (x22:FnG K "law" a6l 168 pm0 (.ref 167))
  (z_abs:j6 K e8 "abs" = some none)
  (z_all:j6 K e8 "all" = some none)
  (z_bool:j6 K e8 "bool" = some none)
  (z_enumerate:j6 K e8 "enumerate" = some none)
  (z_int:j6 K e8 "int" = some none)
  (z_isinstance:j6 K e8 "isinstance" = some none)
  (z_len:j6 K e8 "len" = some none)
  (z_list:j6 K e8 "list" = some none)
  (z_range:j6 K e8 "range" = some none)
  (z_repr:j6 K e8 "repr" = some none)
  (z_str:j6 K e8 "str" = some none)
  (z_tuple:j6 K e8 "tuple" = some none)
  (y_BOUND:j6 K e8 "BOUND" = some (some (.int (1000000000000) 189)))
  (y_FIGURES:j6 K e8 "FIGURES" = some (some (.str "0123456789" 193)))
  (y_LETTERS:j6 K e8 "LETTERS" = some (some (.str "abcdefghijklmnopqrstuvwxyz" 191)))
  (y_LONGEST_NAME:j6 K e8 "LONGEST_NAME" = some (some (.int (8) 195)))
  : ∃fd:E4,(∀(s:b5) (v:Value),a7X s fd ⟨[v],[]⟩ [(b5D,v)])/\∀base:Heap,K.In base->base.Ns e8 mg->D8 l.prog w K mg base CX0 7 fa fd [b5D] (a1t K):=by
 have e:=hfa.symm.trans (G0 X G x22.a)
 cases e
 let c:Cn:=⟨15⟩
 have ck:a9F K c:=⟨fun H=>.inr ⟨_,([(.str "plus" 197),(.str "minus" 198),(.str "times" 199),(.str "less" 200),(.str "same" 201)]:List Value).toArray,0,l_DEED_KINDS,rfl,rfl,by decide,.cons ⟨_,rfl⟩ ( .cons ⟨_,rfl⟩ ( .cons ⟨_,rfl⟩ ( .cons ⟨_,rfl⟩ ( .cons ⟨_,rfl⟩ ( .nil)))))⟩⟩
 have T:Txt K mg c:=⟨j8 X G z_abs,j8 X G z_all,j8 X G z_bool,j8 X G z_enumerate,j8 X G z_int,j8 X G z_isinstance,j8 X G z_len,j8 X G z_list,j8 X G z_range,j8 X G z_repr,j8 X G z_str,j8 X G z_tuple,⟨_,G0 X G y_BOUND,⟨_,rfl⟩⟩,⟨_,G0 X G y_DEED_KINDS,rfl⟩,⟨_,G0 X G y_FIGURES,⟨_,rfl⟩⟩,⟨_,G0 X G y_LETTERS,⟨_,rfl⟩⟩,⟨_,G0 X G y_LONGEST_NAME,⟨_,rfl⟩⟩⟩
 refine⟨fdM "law" "law" a6l pm0 (.ref 167),fun s v=>.of_eq rfl,fun base _ _=>?_⟩
 have a6D:=mkC X G x0 (b3f (P:=l.prog) (w:=w) (base:=base) T x0.i.F) fun _ _ _ _ _ _ _=>rfl
 have m9:=mkC X G x1 (b0U (P:=l.prog) (w:=w) (base:=base) T x1.i.F) fun _ _ _ _ _ _ _ _=>rfl
 have a3D:=mkC X G x2 (b0W T m9 x2.i.F) fun _ _ _ _ _ _ _=>rfl
 have a1d:=mkC X G x3 (a9e T m9 a3D x3.i.F) fun _ _ _ _ _ _ _=>rfl
 have a1c:=mkC X G x4 (a9d T m9 x4.i.F) fun _ _ _ _ _ _ _=>rfl
 have J3:=mkC X G x5 (a5A T m9 a1c x5.i.F) fun _ _ _ _ _ _ _ _=>rfl
 have Y2:=mkC X G x6 (b0X T m9 J3 x6.i.F) fun _ _ _ _ _ _ _ _=>rfl
 have W5:=mkC X G x7 (a5D T m9 J3 Y2 x7.i.F) fun _ _ _ _ _ _ _ _=>rfl
 have a0Q:=mkC X G x8 (b3d T m9 x8.i.F) fun _ _ _ _ _ _ _=>rfl
 have V5:=mkC X G x9 (a7h T m9 a0Q x9.i.F) fun _ _ _ _ _ _ _ _=>rfl
 have a0h:=mkC X G x10 (a7g T a1d Y2 W5 a0Q V5 x10.i.F) fun _ _ _ _ _ _ _=>rfl
 have a1b:=mkC X G x11 (a9c (P:=l.prog) (w:=w) (base:=base) T x11.i.F) fun _ _ _ _ _ _ _=>rfl
 have o5:=mkC X G x12 (a0d T a1b x12.i.F) fun _ _ _ _ _ _ _=>rfl
 have C0:=mkC X G x13 (a1F T o5 x13.i.F) fun _ _ _ _ _ _ _=>rfl
 have F3:=mkC X G x14 (a5B (P:=l.prog) (w:=w) (base:=base) T x14.i.F) fun _ _ _ _ _ _ _=>rfl
 have T2:=mkC X G x15 (a4v (P:=l.prog) (w:=w) (base:=base) T x15.i.F) fun _ _ _ _ _ _ _=>rfl
 have T3:=mkC X G x16 (a4w T T2 x16.i.F) fun _ _ _ _ _ _ _=>rfl
 have z9:=mkC X G x17 (a1Y T F3 T3 x17.i.F) fun _ _ _ _ _ _ _=>rfl
 have M4:=mkC X G x18 (a5C T z9 x18.i.F) fun _ _ _ _ _ _ _=>rfl
 have a1L:=mkC X G x19 (b0V (P:=l.prog) (w:=w) (base:=base) T x19.i.F) fun _ _ _ _ _ _ _ _=>rfl
 have O5:=mkC X G x20 (a1X T o5 C0 x20.i.F) fun _ _ _ _ _ _ _=>rfl
 have a0i:=mkC X G x21 (a7i T F3 z9 M4 x21.i.F) fun _ _ _ _ _ _ _=>rfl
 exact b3e T a6D a0h C0 M4 a1L O5 a0i ck x22.i.F
theorem walk{l:PySem.W.OpenLaw}{q:g7}{loose:List Str}{XP:(Str->Option Value)->Heap->Prop}{YP:World->Heap->Prop}{d:DefRec}{K:Params->Fg}(hn:l.most=some 63)(hdf:d.params.defaults=[])
  (hY:∀(w:World) (h:Heap),YP w h->(K w.params).In h)
  (F:∀(w:World) (mg:Str->Option Value) (fa:Addr) (h:Heap),(K w.params).In h->h.Ns e8 mg->mg d.name=some (.ref fa) ->
   ∃fd:E4,(∀(s:b5) (u:Value),a7X s fd ⟨[u],[]⟩ [(b5D,u)])/\∀base:Heap,(K w.params).In base->base.Ns e8 mg->D8 l.prog w (K w.params) mg base CX0 7 fa fd [b5D] (a1t (K w.params))) :
  PySem.W.WalkO q loose XP YP l.row.toRowW d [] (fun f vs=>a3G f vs):=
 L2.a9S (n:=63) (k:=7) (x := b5D) (CX:=fun _=>CX0) (sp:=fun w=>a1t (K w.params)) hn (by decide) hdf ⟨rfl,by decide,by decide,rfl⟩ hY F (fun _ _ a ns hl hO hS=>RD.law_reading _ hl hO hS) fun _ _ _ _ _ z=>z
end PR
open PySem PySem.W PyProof.Rows
set_option maxRecDepth 100000 in
set_option maxHeartbeats 0 in
theorem PySem.Challenge.cw_oncedone_k12_deeds_and_rows_known_holds : PySem.Challenge.rw_oncedone_k12_deeds_and_rows_known.Holds := by
 refine HD.fin fun d hd hdf=>PR.walk (l:=HD.row) (K:=HD.K) rfl hdf (fun w h Y=>PySem.W.kIn_of Y) ?F
 intro w mg fa h KX G hmg
 rw[hd]at hmg
 apply PR.b3A KX G hmg <;> first | kernel_rfl | exact⟨⟨by kernel_rfl,by kernel_rfl,by kernel_rfl⟩,by kernel_rfl⟩ | exact⟨⟨by kernel_rfl,by kernel_rfl,by kernel_rfl⟩,by kernel_rfl,by kernel_rfl⟩ | exact⟨by kernel_rfl,by kernel_rfl,by kernel_rfl,by kernel_rfl,by kernel_rfl,by kernel_rfl,by kernel_rfl⟩
