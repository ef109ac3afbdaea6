import PyProof.Rows.All
import KE.KEqDict
import KE.KDictList
import KE.KIsAll
import KE.KDictOf
import KE.KItem
import KE.KIntText
import PyProof.Draws
import PyProof.EnumMake
import PyProof.ReprReads
import PyProof.CallFns
import PyProof.StationsW
import PyProof.RulesTry
import PyProof.InstStoreFacts
import OpenK.KOwn
import PyProof.ExcClass3
import PyProof.ExcInit
import PyProof.ExcBaseAll.ValueError
import PyProof.RulesDel
import PyProof.RulesAs
import PyProof.ExcAttrAll.ValueError
import Lean
import PySem.Challenge.RW_oncedone_k21_plans_refused
open Array renaming getElem?_eq_some_iff->a0M,length_toList->a1i,getElem?_toList->a2w
open Bool renaming false_ne_true->u0,and_eq_true->F5,true_and->Y4,eq_iff_iff->a3i,not_eq_true'->a4D,or_eq_true->a5Z,eq_false_iff->a9z,false_or->b5u,or_eq_false_iff->b9J,and_eq_true_iff->b9K,not_eq_false'->c2D,false_and->c7L,and_false->c7M,and_true->c8X,or_true->c9e
open Int renaming toNat_natCast->z8,eq_ofNat_of_zero_le->K8,zero_add->V4,emod_lt_of_pos->W7,emod_nonneg->X8,toNat->b7Z
open List renaming length_map->b5,getElem?_map->c8,mem_singleton->g6,replicate->g7,getElem?_eq_getElem->j6,mem_cons->o0,size_toArray->o5,mem_append_right->u5,range->u7,length_append->u9,length_set->v8,mem_append->y8,getElem?_eq_some_iff->z4,length_cons->z9,mem_append_left->A4,getElem_mem->C8,getElem?_set_ne->C9,getElem?_replicate->D0,getElem?_set_self->D5,mem_iff_getElem?->E4,mem_cons_of_mem->E8,not_mem_nil->E9,length_replicate->G0,mem_map->G5,mem_range->G8,lookup_cons->G9,length_take->J0,all_eq_true->J1,mem_cons_self->J3,take_add_one->K0,map_cons->L6,append_nil->L7,take_of_length_le->M0,getD->M3,length_singleton->O3,getElem?_append_right->P6,map_append->Q3,getElem?_append_left->Q4,mem_filter->U0,replicate_succ->U4,lookup->V2,take_length->V6,nodup_cons->X5,map_map->a0h,length_filter_le->a0w,mem_of_getElem?->a0N,any_cons->a1u,range_succ->a1M,find?_cons->a1N,filter_append->a1P,length_range->a2e,flatten_cons->a2f,length_nil->a3h,getElem?_range->a3k,mem_or_eq_of_mem_set->a3Y,append_assoc->a4C,length_eq_zero_iff->a4U,length_drop->a4V,of_mem_zip->a5Y,replicate_succ'->a6R,length_pos_iff->a7T,filterMap_cons->a7U,foldl_append->a9y,any_eq_true->b0P,length_erase_of_mem->b5q,idxOf_lt_length_iff->b5r,eq_of_mem_replicate->b5s,all_cons->b5t,getElem?_cons_zero->b7a,map_nil->b7X,length_pos_of_mem->b7Y,map_congr_left->c2r,pairwise_cons->c2y,mem_filterMap->c2z,map_inj_right->c2A,foldl->c2B,contains_cons->c2C,nodup_append->c4N,idxOf_cons->c7H,forIn_cons->c7I,drop_zero->c7K,map_set->c9b,all_nil->c9c,all_map->c9d
open Nat renaming le_refl->j9,lt_of_lt_of_le->v0,ne_of_lt->v5,lt_irrefl->D4,le_trans->F3,zero_le->L5,ne_of_gt->a3I,le_succ->a4O,le_add_right->a5B,le_of_lt->a5X,le_of_eq->b0L,succ_mul->b9A,min_self->b9B,lt_of_le_of_lt->c4M,lt_succ_of_lt->c5s,lt_succ_self->c7G
open Option renaming isSome_iff_exists->X7,getD_some->a2v,map_eq_some_iff->a4T,map_some->a5A,isSome_map->a8W,bind_some->a9x,getD_none->c2x
open PyProof.Rows renaming boot_isinstance->o6,boot_list->G7,callWith_type1->Z8,boot_tuple->a0S,slot_tuple_getitem->a1t,boot_int->a3X,envOfC->a4Z,AllBare->a9B,boot_bool->b0O,boot_any->b1m,boot_all->b1n,IntsAre->b9P,subscriptTail_builtinR->c7J
open PySem renaming wpAny_bind->c7,Shared->c9,boot_len->j4,starEach->j5,sizeLine->t6,mainGlobals->u8,Program->w4,wpAny_pure->y9,compareOp->z6,mem_of_lookup->D6,Around->D8,wpAny_truthy_bool->M8,wpAny_mono->O8,wpAny_newObj_type->P9,foldedSetIterable->Q0,FuncData->Q1,behindInMarks->Q5,binaryOp->U1,wpAny_holding->W9,attributeBase->X0,backTo->X9,wpAny_Call_Name_kw->Z3,lookup_relabel_local->a0i,bootBuiltins->a0G,wpAny_passesOwn->a1v,swapsWith->a1w,assignEach->a1Q,codeAny->a1U,wpAny_field->a2x,wpAny_comprehension_free->a2E,codeAny_mono->a2F,letOwnedTupleGo->a2P,importedModules->a2Q,sysModules->a3w,strIterType->a3x,sizeLine_eq->a3W,holding->a3Z,wpAny_execs_nil->a4W,sliceBounds->a4X,keywordEach->a4Y,NameKind->a6a,relabel->a6o,wpAny_pyIter_list->a6T,wpAny_assign_Name->a6U,call_meets->a6V,wpAny_standAt->a7V,wpAny_pyNext_list_item->a8X,codeAny_compStart_list->a8Y,compEnvC->b0N,wpAny_newFunctionEnv->b0R,assign->b1o,Result->b1p,Keyword->b2i,call->b3u,tupleKind_room_in1->b3A,backToKw->b3B,BindsTo->b5v,Operator->b9G,tupleKind->b9L,standAt->b9M,getMethod->b9N,callerA->b9O,PlainAttrs->c4R,IsPart->c4S,wpAny_callSpecial?_slot->c5w,valueAt->c5x,setItem->c5y,getItem->c5z,wpAny_isTrue_Compare1->c7N,seqIndex_neg->c7O,pyNext->c7P,lastMarks->c7Q,PassesOwn->c7R,seqIndex_of->c9f
open PySem.F renaming plainAttrs_list->F9,type_list_append->a1g,slot_list_append->a1h,slot_list_index->a1r,attr_ValueError->a1s,args_list_index_2->b2g,type_list_extend->b3v,slot_list_extend->b3w,entry_list_index->b3x,type_list_index->b3z,entry_bexc_ga->b5p,args_bexc_ga->b6Z
open PySem.Heap renaming get?_push_of_some->d4,lt_size->h9,get?_push_size->C3,get?_update_other->M4,get?_update_self->W8,size_push->a6S,size_update->b0Q,get?_update_ne->c2s
open PySem.Heap.Ns1 renaming of_empty->b9C
open PySem.SeqAt renaming list_indexAt->b0K
open PySem.W renaming findIn->A0,nsIn->A6,mg_none_of->C6,mg_of->E1,emptyDict->M6,kia_one->O2,keepIn->Q7,instObj->S9,callWith_K->Z7,kitOne->a0F,fnOf->a0L,hasDictIn->a1R,plainGet->a2s,mroIn->a2u,specialIn->a3J,cellsFrom_some->a4R,makesIn->a4S,lookIn->a5V,codeIn->a5W,plainGet_of->a6Q,plainOver->a8C,methodObj->a8D,isFn->a8E,takesIn->b0I,takerIn->b0J,codeRec_of->b9z,kitx_list->b9H,kitx_dict->b9I,handedIn->c2q,typeIn->c4L
set_option Elab.async false
set_option linter.all false
set_option maxRecDepth 100000
set_option maxHeartbeats 0
abbrev Fg:=PySem.W.Frag
abbrev Nt:=List (List Nat)
theorem gI{α:Type}{l:List α}{i:Nat}{a:α}(h:l[i]?=some a):i<l.length:=(z4.mp h).1
theorem mI{α:Type}{l:List α}{i:Nat}{a:α}(h:l[i]?=some a):a∈l:=a0N h
theorem d0J{p:Prop}[Decidable p](h:¬p):decide p=false:=decide_eq_false h
theorem d0K{p:Prop}[Decidable p](h:p):decide p=true:=decide_eq_true h
namespace L2
open PySem
def W5(s:Stmt)(j:Nat):Stmt:=match s with
 | .ClassDef _ _ _ body _ _ _ _ _ _ _=>body.getD j (.Pass ⟨0,0,0,0⟩)
 | _=>.Pass ⟨0,0,0,0⟩
def a4s(s:Stmt):Arguments:=match s with
 | .FunctionDef _ a _ _ _ _ _ _ _ _=>a
 | _=>{ posonlyargs:=[],args:=[],vararg:=none,kwonlyargs:=[],kw_defaults:=[],kwarg:=none,defaults:=[] }
def a0f(s:Stmt):List Stmt:=match s with
 | .FunctionDef _ _ b _ _ _ _ _ _ _=>b
 | _=>[]
def i8(s:Stmt):Scope:=match s with
 | .FunctionDef _ _ _ _ _ _ sc _ _ _=>sc
 | _=>{ kind:=.function,names:=[],isGenerator:=false,isCoroutine:=false }
end L2
namespace HD
open PySem PySem.W L2
abbrev P:w4:=PySem.Challenge.pw_oncedone_k21_plans_refused
def top(i:Nat):Stmt:=P.main.body.getD i (.Pass ⟨0,0,0,0⟩)
def kE(Q:Params)(n:Str)(t:Nat)(v:Value):DictEntry:=⟨PyData.keyHash Q n,.str n t,v⟩
def kD(es:List DictEntry)(n:Nat):Obj:=⟨.type "dict",none,.dict es.toArray n,#[]⟩
def kF(x qual:Str)(st:Stmt)(pm cd:Value):Obj:=⟨.type "function",none,.func (fnOf x qual (a4s st) (a0f st) (i8 st) .none .none .none pm none cd .none),#[]⟩
def kC(n q:Str)(a b c:Nat)(i3 i4 i5 i6 i7:Int)(r8:Nat)(i10:Int)(r11 r13 r14 r15:Nat)(i16 i17:Int)(d:Nat):Obj:=⟨.type "code",none,.fields ([.str n a,.str q b,.str "/claim/cut.py" c,.int i3 0,.int i4 0,.int i5 0,.int i6 0,.int i7 0,.ref r8,.bool true,.int i10 0,.ref r11,.none,.ref r13,.ref r14,.ref r15,.int i16 0,.int i17 0,.str "/claim/cut.py" d]:List Value).toArray,([]:List (Option Value)).toArray⟩
def kN(n q:Str)(a b c:Nat)(i3 i4 i5 i6 i7:Int)(r8:Nat)(i10:Int)(r11 r15:Nat)(i16 i17:Int)(d:Nat):Obj:=⟨.type "code",none,.fields ([.str n a,.str q b,.str "/claim/cut.py" c,.int i3 0,.int i4 0,.int i5 0,.int i6 0,.int i7 0,.ref r8,.bool true,.int i10 0,.ref r11,.none,.none,.none,.ref r15,.int i16 0,.int i17 0,.str "/claim/cut.py" d]:List Value).toArray,([]:List (Option Value)).toArray⟩
abbrev m0:Value:=(.str "__main__" 164)
abbrev m1:Value:=(.str "oncedone.errors" 194)
abbrev m2:Value:=(.str "oncedone.words" 330)
abbrev m3:Value:=(.str "oncedone.checks" 389)
abbrev m4:Value:=(.str "oncedone.plans" 419)
abbrev m5:Value:=(.str "law_oncedone_k21_plans_refused" 549)
def K1(Q:Params):Frag:=[
 (3,kD [kE Q "__name__" 165 (.str "law_oncedone_k21_plans_refused" 549),kE Q "__doc__" 166 .none,kE Q "__package__" 167 .none,kE Q "__loader__" 168 (.builtin "__main__.__loader__#opaque"),kE Q "__spec__" 169 .none,kE Q "__annotations__" 170 (.ref 6),kE Q "__builtins__" 171 (.ref 4),kE Q "__file__" 173 (.str "/claim/cut.py" 172),kE Q "__cached__" 174 .none,kE Q "_wall" 193 (.ref 21),kE Q "OnceError" 213 (.ref 31),kE Q "Wrong" 238 (.ref 51),kE Q "NoThing" 263 (.ref 70),kE Q "TooMany" 288 (.ref 89),kE Q "NoWay" 313 (.ref 108),kE Q "NoText" 329 (.ref 120),kE Q "BOUND" 333 (.int (1000000000000) 332),kE Q "LETTERS" 335 (.str "abcdefghijklmnopqrstuvwxyz" 334),kE Q "FIGURES" 337 (.str "0123456789" 336),kE Q "LONGEST_NAME" 339 (.int (8) 338),kE Q "DEED_KINDS" 345 (.ref 123),kE Q "is_whole" 352 (.ref 130),kE Q "is_value" 359 (.ref 137),kE Q "is_name" 365 (.ref 142),kE Q "is_operand" 372 (.ref 149),kE Q "is_deed" 379 (.ref 156),kE Q "is_row" 388 (.ref 163),kE Q "MOST" 392 (.int (400) 391),kE Q "is_below" 400 (.ref 170),kE Q "check_length" 409 (.ref 177),kE Q "check_each" 418 (.ref 184),kE Q "FIRST_STEP" 424 (.ref 185),kE Q "are_nexts" 430 (.ref 190),kE Q "check_nexts" 436 (.ref 195),kE Q "stops_of" 442 (.ref 200),kE Q "turned" 448 (.ref 205),kE Q "reached" 459 (.ref 212),kE Q "check_ways" 469 (.ref 219),kE Q "steps_of" 475 (.ref 224),kE Q "Plan" 548 (.ref 281),kE Q "_law_bag" 556 (.ref 290),kE Q "_law_take" 569 (.ref 297),kE Q "_law_whole" 576 (.ref 304),kE Q "_law_name" 582 (.ref 309),kE Q "_law_names" 595 (.ref 316),kE Q "_law_value" 602 (.ref 323),kE Q "_law_operand" 610 (.ref 330),kE Q "_law_deed" 621 (.ref 337),kE Q "_law_row" 633 (.ref 344),kE Q "_law_net" 646 (.ref 351),kE Q "_law_mended" 652 (.ref 356),kE Q "_law_drawn" 658 (.ref 361),kE Q "_law_amiss" 664 (.ref 366),kE Q "_law_refusal" 670 (.ref 371),kE Q "_law_no_row" 678 (.ref 378),kE Q "_law_rows_spoilt" 689 (.ref 385),kE Q "_law_no_after" 699 (.ref 392),kE Q "_law_nexts_spoilt" 711 (.ref 399),kE Q "_law_raw" 717 (.ref 404),kE Q "_law_good" 723 (.ref 409),kE Q "_law_late" 729 (.ref 414),kE Q "law" 745 (.ref 421)] 62),
 (20,kC "_wall" "_wall" 187 188 189 1 1 0 0 3 15 181 16 17 18 19 191 1 192),
 (21,kF "_wall" "_wall" (top 0) m0 (.ref 20)),
 (30,kD [kE Q "__module__" 203 (.str "oncedone.errors" 194),kE Q "__firstlineno__" 207 (.int (5) 206),kE Q "__static_attributes__" 208 (.ref 29),kE Q "__weakref__" 210 (.ref 32),kE Q "__doc__" 211 .none] 3),
 (31,⟨(.type "type"),none,.cls { name := "OnceError",bases:=[(.type "ValueError")],mro:=[(.ref 31),(.type "ValueError"),(.type "Exception"),(.type "BaseException"),(.type "object")],ns:=30,qualname := "OnceError",hasDict:=true,subclasses:=[(.ref 51),(.ref 70),(.ref 89),(.ref 108),(.ref 120)] },([some (.ref 22),none,some (.str "OnceError" 196),some (.str "OnceError" 204),some (.builtin "ValueError.__new__"),some (.bool true)]:List (Option Value)).toArray⟩),
 (47,kC "__init__" "Wrong.__init__" 226 227 228 9 2 0 0 3 42 181 43 44 45 46 231 9 232),
 (48,kF "__init__" "Wrong.__init__" (W5 (top 3) 0) m1 (.ref 47)),
 (50,kD [kE Q "__module__" 221 (.str "oncedone.errors" 194),kE Q "__firstlineno__" 225 (.int (7) 224),kE Q "__init__" 233 (.ref 48),kE Q "__static_attributes__" 235 (.ref 49),kE Q "__doc__" 236 .none] 2),
 (51,⟨(.type "type"),none,.cls { name := "Wrong",bases:=[(.ref 31)],mro:=[(.ref 51),(.ref 31),(.type "ValueError"),(.type "Exception"),(.type "BaseException"),(.type "object")],ns:=50,qualname := "Wrong",hasDict:=true,subclasses:=[] },([some (.ref 35),none,some (.str "Wrong" 214),some (.str "Wrong" 222),some (.builtin "ValueError.__new__"),some (.bool true)]:List (Option Value)).toArray⟩),
 (66,kC "__init__" "NoThing.__init__" 251 252 253 13 2 0 0 3 61 181 62 63 64 65 256 13 257),
 (67,kF "__init__" "NoThing.__init__" (W5 (top 4) 0) m1 (.ref 66)),
 (69,kD [kE Q "__module__" 246 (.str "oncedone.errors" 194),kE Q "__firstlineno__" 250 (.int (11) 249),kE Q "__init__" 258 (.ref 67),kE Q "__static_attributes__" 260 (.ref 68),kE Q "__doc__" 261 .none] 2),
 (70,⟨(.type "type"),none,.cls { name := "NoThing",bases:=[(.ref 31)],mro:=[(.ref 70),(.ref 31),(.type "ValueError"),(.type "Exception"),(.type "BaseException"),(.type "object")],ns:=69,qualname := "NoThing",hasDict:=true,subclasses:=[] },([some (.ref 54),none,some (.str "NoThing" 239),some (.str "NoThing" 247),some (.builtin "ValueError.__new__"),some (.bool true)]:List (Option Value)).toArray⟩),
 (85,kC "__init__" "TooMany.__init__" 276 277 278 17 2 0 0 3 80 181 81 82 83 84 281 17 282),
 (86,kF "__init__" "TooMany.__init__" (W5 (top 5) 0) m1 (.ref 85)),
 (88,kD [kE Q "__module__" 271 (.str "oncedone.errors" 194),kE Q "__firstlineno__" 275 (.int (15) 274),kE Q "__init__" 283 (.ref 86),kE Q "__static_attributes__" 285 (.ref 87),kE Q "__doc__" 286 .none] 2),
 (89,⟨(.type "type"),none,.cls { name := "TooMany",bases:=[(.ref 31)],mro:=[(.ref 89),(.ref 31),(.type "ValueError"),(.type "Exception"),(.type "BaseException"),(.type "object")],ns:=88,qualname := "TooMany",hasDict:=true,subclasses:=[] },([some (.ref 73),none,some (.str "TooMany" 264),some (.str "TooMany" 272),some (.builtin "ValueError.__new__"),some (.bool true)]:List (Option Value)).toArray⟩),
 (104,kC "__init__" "NoWay.__init__" 301 302 303 21 2 0 0 3 99 181 100 101 102 103 306 21 307),
 (105,kF "__init__" "NoWay.__init__" (W5 (top 6) 0) m1 (.ref 104)),
 (107,kD [kE Q "__module__" 296 (.str "oncedone.errors" 194),kE Q "__firstlineno__" 300 (.int (19) 299),kE Q "__init__" 308 (.ref 105),kE Q "__static_attributes__" 310 (.ref 106),kE Q "__doc__" 311 .none] 2),
 (108,⟨(.type "type"),none,.cls { name := "NoWay",bases:=[(.ref 31)],mro:=[(.ref 108),(.ref 31),(.type "ValueError"),(.type "Exception"),(.type "BaseException"),(.type "object")],ns:=107,qualname := "NoWay",hasDict:=true,subclasses:=[] },([some (.ref 92),none,some (.str "NoWay" 289),some (.str "NoWay" 297),some (.builtin "ValueError.__new__"),some (.bool true)]:List (Option Value)).toArray⟩),
 (119,kD [kE Q "__module__" 321 (.str "oncedone.errors" 194),kE Q "__firstlineno__" 325 (.int (23) 324),kE Q "__static_attributes__" 326 (.ref 118),kE Q "__doc__" 327 .none] 2),
 (120,⟨(.type "type"),none,.cls { name := "NoText",bases:=[(.ref 31)],mro:=[(.ref 120),(.ref 31),(.type "ValueError"),(.type "Exception"),(.type "BaseException"),(.type "object")],ns:=119,qualname := "NoText",hasDict:=true,subclasses:=[] },([some (.ref 111),none,some (.str "NoText" 314),some (.str "NoText" 322),some (.builtin "ValueError.__new__"),some (.bool true)]:List (Option Value)).toArray⟩),
 (123,⟨(.type "tuple"),none,.seq ([(.str "plus" 340),(.str "minus" 341),(.str "times" 342),(.str "less" 343),(.str "same" 344)]:List Value).toArray 0,([]:List (Option Value)).toArray⟩),
 (129,kC "is_whole" "is_whole" 346 347 348 31 1 0 0 3 124 181 125 126 127 128 350 31 351),
 (130,kF "is_whole" "is_whole" (top 14) m2 (.ref 129)),
 (136,kC "is_value" "is_value" 353 354 355 33 1 0 0 3 131 181 132 133 134 135 357 33 358),
 (137,kF "is_value" "is_value" (top 15) m2 (.ref 136)),
 (141,kN "is_name" "is_name" 360 361 362 35 1 0 0 3 138 181 139 140 363 35 364),
 (142,kF "is_name" "is_name" (top 16) m2 (.ref 141))]
def c7z:List Addr:=[3,20,21,30,31,47,48,50,51,66,67,69,70,85,86,88,89,104,105,107,108,119,120,123,129,130,136,137,141,142]
def K2(Q:Params):Frag:=[
 (148,kC "is_operand" "is_operand" 366 367 368 39 1 0 0 3 143 181 144 145 146 147 370 39 371),
 (149,kF "is_operand" "is_operand" (top 17) m2 (.ref 148)),
 (155,kC "is_deed" "is_deed" 373 374 375 41 1 0 0 3 150 181 151 152 153 154 377 41 378),
 (156,kF "is_deed" "is_deed" (top 18) m2 (.ref 155)),
 (162,kC "is_row" "is_row" 380 381 382 45 1 0 0 3 157 181 158 159 160 161 386 45 387),
 (163,kF "is_row" "is_row" (top 19) m2 (.ref 162)),
 (169,kC "is_below" "is_below" 393 394 395 61 2 0 0 3 164 181 165 166 167 168 398 61 399),
 (170,kF "is_below" "is_below" (top 22) m3 (.ref 169)),
 (176,kC "check_length" "check_length" 401 402 403 63 3 0 0 3 171 181 172 173 174 175 407 63 408),
 (177,kF "check_length" "check_length" (top 23) m3 (.ref 176)),
 (183,kC "check_each" "check_each" 410 411 412 68 1 0 0 3 178 181 179 180 181 182 416 68 417),
 (184,kF "check_each" "check_each" (top 24) m3 (.ref 183)),
 (185,⟨(.type "tuple"),none,.seq ([(.int (-1) 422),(.int (0) 423)]:List Value).toArray 0,([]:List (Option Value)).toArray⟩),
 (189,kN "are_nexts" "are_nexts" 425 426 427 74 3 0 0 3 186 181 187 188 428 74 429),
 (190,kF "are_nexts" "are_nexts" (top 27) m4 (.ref 189)),
 (194,kN "check_nexts" "check_nexts" 431 432 433 79 2 0 0 3 191 181 192 193 434 79 435),
 (195,kF "check_nexts" "check_nexts" (top 28) m4 (.ref 194)),
 (199,kN "stops_of" "stops_of" 437 438 439 83 1 0 0 3 196 181 197 198 440 83 441),
 (200,kF "stops_of" "stops_of" (top 29) m4 (.ref 199)),
 (204,kN "turned" "turned" 443 444 445 85 1 0 0 3 201 181 202 203 446 85 447),
 (205,kF "turned" "turned" (top 30) m4 (.ref 204)),
 (211,kC "reached" "reached" 449 450 451 91 2 0 0 3 206 181 207 208 209 210 457 91 458),
 (212,kF "reached" "reached" (top 31) m4 (.ref 211)),
 (218,kC "check_ways" "check_ways" 460 461 462 100 1 0 0 3 213 181 214 215 216 217 467 100 468),
 (219,kF "check_ways" "check_ways" (top 32) m4 (.ref 218)),
 (223,kN "steps_of" "steps_of" 470 471 472 106 1 0 0 3 220 181 221 222 473 106 474),
 (224,kF "steps_of" "steps_of" (top 33) m4 (.ref 223)),
 (235,kN "__init__" "Plan.__init__" 488 489 490 113 3 0 0 3 232 181 233 234 491 113 492),
 (236,kF "__init__" "Plan.__init__" (W5 (top 34) 0) m4 (.ref 235)),
 (242,kC "steps" "Plan.steps" 494 495 496 124 1 0 0 3 237 181 238 239 240 241 498 124 499)]
def c4G:List Addr:=[148,149,155,156,162,163,169,170,176,177,183,184,185,189,190,194,195,199,200,204,205,211,212,218,219,223,224,235,236,242]
def K3(Q:Params):Frag:=[
 (243,kF "steps" "Plan.steps" (W5 (top 34) 1) m4 (.ref 242)),
 (249,kC "leads_to" "Plan.leads_to" 501 502 503 127 2 0 0 3 244 181 245 246 247 248 506 127 507),
 (250,kF "leads_to" "Plan.leads_to" (W5 (top 34) 2) m4 (.ref 249)),
 (256,kC "steps_into" "Plan.steps_into" 509 510 511 132 2 0 0 3 251 181 252 253 254 255 514 132 515),
 (257,kF "steps_into" "Plan.steps_into" (W5 (top 34) 3) m4 (.ref 256)),
 (263,kC "stops" "Plan.stops" 517 518 519 135 1 0 0 3 258 181 259 260 261 262 521 135 522),
 (264,kF "stops" "Plan.stops" (W5 (top 34) 4) m4 (.ref 263)),
 (270,kC "deeds" "Plan.deeds" 524 525 526 138 1 0 0 3 265 181 266 267 268 269 528 138 529),
 (271,kF "deeds" "Plan.deeds" (W5 (top 34) 5) m4 (.ref 270)),
 (277,kC "names" "Plan.names" 531 532 533 141 1 0 0 3 272 181 273 274 275 276 535 141 536),
 (278,kF "names" "Plan.names" (W5 (top 34) 6) m4 (.ref 277)),
 (280,kD [kE Q "__module__" 483 (.str "oncedone.plans" 419),kE Q "__firstlineno__" 487 (.int (111) 486),kE Q "__init__" 493 (.ref 236),kE Q "steps" 500 (.ref 243),kE Q "leads_to" 508 (.ref 250),kE Q "steps_into" 516 (.ref 257),kE Q "stops" 523 (.ref 264),kE Q "deeds" 530 (.ref 271),kE Q "names" 537 (.ref 278),kE Q "__static_attributes__" 541 (.ref 279),kE Q "__dict__" 543 (.ref 282),kE Q "__weakref__" 545 (.ref 283),kE Q "__doc__" 546 .none] 4),
 (281,⟨(.type "type"),none,.cls { name := "Plan",bases:=[(.type "object")],mro:=[(.ref 281),(.type "object")],ns:=280,qualname := "Plan",hasDict:=true,subclasses:=[] },([none,none,some (.str "Plan" 476),some (.str "Plan" 484),some (.builtin "object.__new__"),some (.bool true)]:List (Option Value)).toArray⟩),
 (289,kN "_law_bag" "_law_bag" 551 552 553 144 1 0 0 3 286 181 287 288 554 144 555),
 (290,kF "_law_bag" "_law_bag" (top 36) m5 (.ref 289)),
 (296,kC "_law_take" "_law_take" 557 558 559 146 2 0 0 3 291 181 292 293 294 295 567 146 568),
 (297,kF "_law_take" "_law_take" (top 37) m5 (.ref 296)),
 (303,kC "_law_whole" "_law_whole" 570 571 572 165 1 0 0 3 298 181 299 300 301 302 574 165 575),
 (304,kF "_law_whole" "_law_whole" (top 38) m5 (.ref 303)),
 (308,kN "_law_name" "_law_name" 577 578 579 167 1 0 0 3 305 181 306 307 580 167 581),
 (309,kF "_law_name" "_law_name" (top 39) m5 (.ref 308)),
 (315,kC "_law_names" "_law_names" 583 584 585 171 1 0 0 3 310 181 311 312 313 314 593 171 594),
 (316,kF "_law_names" "_law_names" (top 40) m5 (.ref 315)),
 (322,kC "_law_value" "_law_value" 596 597 598 184 1 0 0 3 317 181 318 319 320 321 600 184 601),
 (323,kF "_law_value" "_law_value" (top 41) m5 (.ref 322)),
 (329,kC "_law_operand" "_law_operand" 603 604 605 186 2 0 0 3 324 181 325 326 327 328 608 186 609),
 (330,kF "_law_operand" "_law_operand" (top 42) m5 (.ref 329)),
 (336,kC "_law_deed" "_law_deed" 611 612 613 190 2 0 0 3 331 181 332 333 334 335 619 190 620),
 (337,kF "_law_deed" "_law_deed" (top 43) m5 (.ref 336)),
 (343,kC "_law_row" "_law_row" 622 623 624 197 4 0 0 3 338 181 339 340 341 342 631 197 632)]
def c4F:List Addr:=[243,249,250,256,257,263,264,270,271,277,278,280,281,289,290,296,297,303,304,308,309,315,316,322,323,329,330,336,337,343]
def K4(Q:Params):Frag:=[
 (344,kF "_law_row" "_law_row" (top 44) m5 (.ref 343)),
 (350,kC "_law_net" "_law_net" 634 635 636 209 2 0 0 3 345 181 346 347 348 349 644 209 645),
 (351,kF "_law_net" "_law_net" (top 45) m5 (.ref 350)),
 (355,kN "_law_mended" "_law_mended" 647 648 649 227 1 0 0 3 352 181 353 354 650 227 651),
 (356,kF "_law_mended" "_law_mended" (top 46) m5 (.ref 355)),
 (360,kN "_law_drawn" "_law_drawn" 653 654 655 242 1 0 0 3 357 181 358 359 656 242 657),
 (361,kF "_law_drawn" "_law_drawn" (top 47) m5 (.ref 360)),
 (365,kN "_law_amiss" "_law_amiss" 659 660 661 250 1 0 0 3 362 181 363 364 662 250 663),
 (366,kF "_law_amiss" "_law_amiss" (top 48) m5 (.ref 365)),
 (370,kN "_law_refusal" "_law_refusal" 665 666 667 264 2 0 0 3 367 181 368 369 668 264 669),
 (371,kF "_law_refusal" "_law_refusal" (top 49) m5 (.ref 370)),
 (377,kC "_law_no_row" "_law_no_row" 671 672 673 279 1 0 0 3 372 181 373 374 375 376 676 279 677),
 (378,kF "_law_no_row" "_law_no_row" (top 50) m5 (.ref 377)),
 (384,kC "_law_rows_spoilt" "_law_rows_spoilt" 679 680 681 285 2 0 0 3 379 181 380 381 382 383 687 285 688),
 (385,kF "_law_rows_spoilt" "_law_rows_spoilt" (top 51) m5 (.ref 384)),
 (391,kC "_law_no_after" "_law_no_after" 690 691 692 296 3 0 0 3 386 181 387 388 389 390 697 296 698),
 (392,kF "_law_no_after" "_law_no_after" (top 52) m5 (.ref 391)),
 (398,kC "_law_nexts_spoilt" "_law_nexts_spoilt" 700 701 702 302 3 0 0 3 393 181 394 395 396 397 709 302 710),
 (399,kF "_law_nexts_spoilt" "_law_nexts_spoilt" (top 53) m5 (.ref 398)),
 (403,kN "_law_raw" "_law_raw" 712 713 714 313 1 0 0 3 400 181 401 402 715 313 716),
 (404,kF "_law_raw" "_law_raw" (top 54) m5 (.ref 403)),
 (408,kN "_law_good" "_law_good" 718 719 720 323 1 0 0 3 405 181 406 407 721 323 722),
 (409,kF "_law_good" "_law_good" (top 55) m5 (.ref 408)),
 (413,kN "_law_late" "_law_late" 724 725 726 327 1 0 0 3 410 181 411 412 727 327 728),
 (414,kF "_law_late" "_law_late" (top 56) m5 (.ref 413)),
 (420,kC "law" "law" 730 731 732 332 1 0 0 3 415 181 416 417 418 419 743 332 744),
 (421,kF "law" "law" (top 57) m5 (.ref 420))]
def c4E:List Addr:=[344,350,351,355,356,360,361,365,366,370,371,377,378,384,385,391,392,398,399,403,404,408,409,413,414,420,421]
def K(Q:Params):Frag:=K1 Q++(K2 Q++(K3 Q++K4 Q))
def adr:List Addr:=c7z++(c4G++(c4F++c4E))
def q:w4:=view P [57]
def loose:List Str:=(["_wall","OnceError","Wrong","NoThing","TooMany","NoWay","NoText","BOUND","LETTERS","FIGURES","LONGEST_NAME","DEED_KINDS","is_whole","is_value","is_name","is_operand","is_deed","is_row","MOST","is_below","check_length","check_each","FIRST_STEP","are_nexts","check_nexts","stops_of","turned","reached","check_ways","steps_of","Plan","_law_bag","_law_take","_law_whole","_law_name","_law_names","_law_value","_law_operand","_law_deed","_law_row","_law_net","_law_mended","_law_drawn","_law_amiss","_law_refusal","_law_no_row","_law_rows_spoilt","_law_no_after","_law_nexts_spoilt","_law_raw","_law_good","_law_late"]:List String).map Str.ofString
theorem c1C{p q:w4}{loose:List Str}{Xt:c9->Bool}{α:Type}{Yf:c9->α}{Ya:World->α}{N m₀:Nat}{ann:Option Value}(e:opening p=plainProg p.main.scope.names)(hN:Nat.ble 600 N=true)(f:∀s,fenceModules? p s=some s)
  (size:∀w:World,((boot_heap w.params).isNs u8,(boot_heap w.params).objs.size,(boot_heap w.params).nsMap u8 "__annotations__")=(true,m₀,ann))
  {r:World->OsState->Option c9} (hr:∀w os,topRun treeTable p w m₀ ann N ⟨boot_heap w.params,Array.mk [],boot_drawn,boot_toks,os⟩ (topStub p)=r w os)
  (ra:∀w os,(r w os).map (fun s₁=>staticsOk (a2Q p.main.body) (boot_heap w.params) s₁.heap&&namesBound p s₁.heap&&gensDone s₁&&laidKept (boot_heap w.params) s₁.heap)=some true)
  (rb:∀w os,(r w os).map (openSeen q loose (a2Q p.main.body) Xt true)=some (openGood q loose))
  (rc:∀w os,(r w os).map Yf=some (Ya w)) :
  LeftO p q loose Xt Yf Ya N:=fun w=>by
 obtain⟨⟨h,gs,d,k,os⟩,e1,e2⟩:=a4T.mp (boot_open e hN f w)
 obtain⟨rfl,rfl,rfl,rfl⟩:h=boot_heap w.params/\gs=Array.mk []/\d=boot_drawn/\k=boot_toks:=by simpa using e2
 obtain⟨z1,z2,z3⟩:_/\_/\_:=by simpa only[Prod.mk.injEq]using size w
 obtain⟨s₁,r1,r3⟩:=a4T.mp (ra w os)
 have rb:=rb w os
 have rc:=rc w os
 rw[r1]at rb rc
 have r4:(openSeen q loose (a2Q p.main.body) Xt true s₁,Yf s₁)=(openGood q loose,Ya w):=Prod.ext (Option.some.inj rb) (Option.some.inj rc)
 have t:topFrom treeTable p w N ⟨boot_heap w.params,Array.mk [],boot_drawn,boot_toks,os⟩=some s₁:=by
  unfold topFrom
  dsimp only
  rw[z1,z2,z3,hr,r1]
  show(match staticsOk (a2Q p.main.body) (boot_heap w.params) s₁.heap&&namesBound p s₁.heap&&gensDone s₁&&laidKept (boot_heap w.params) s₁.heap with | true=>some s₁ | false=>none)=_
  rw[r3]
 unfold openEnds
 rw[e1]
 show(topFrom treeTable p w N _).map _=_
 rw[t]
 exact congrArg some r4
abbrev b1b:Hook:=kHook K adr (fun _=>by kernel_rfl)
abbrev row:OpenLaw:=PySem.Challenge.rw_oncedone_k21_plans_refused
noncomputable section
abbrev rn(w:World)(os:OsState):Option c9:=PySem.W.Fast.tw14082659384304107361 PySem.W.Fast.tw14364793385576792824 P w 11 (some (.ref 6)) 6844 ⟨boot_heap w.params,Array.mk [],boot_drawn,boot_toks,os⟩ (topStub P)
end
theorem c7g(w:World)(os:OsState):(rn w os).map (fun s₁=>staticsOk (a2Q P.main.body) (boot_heap w.params) s₁.heap&&namesBound P s₁.heap&&gensDone s₁&&laidKept (boot_heap w.params) s₁.heap)=some true:=by kernel_rfl
theorem c7f(w:World)(os:OsState):(rn w os).map (PySem.W.Fast.tw4187177175401517315 q loose (a2Q P.main.body) (fun s=>xlAt q [] s&&recOk (RowW.records row.row.toRowW) s) true)=some (openGood q loose):=by kernel_rfl
theorem c4l(w:World)(os:OsState):(rn w os).map (fun s=>c7z.map s.heap.get?)=some ((K1 w.params).map fun p=>some p.2):=by kernel_rfl
theorem c4k(w:World)(os:OsState):(rn w os).map (fun s=>c4G.map s.heap.get?)=some ((K2 w.params).map fun p=>some p.2):=by kernel_rfl
theorem c4j(w:World)(os:OsState):(rn w os).map (fun s=>c4F.map s.heap.get?)=some ((K3 w.params).map fun p=>some p.2):=by kernel_rfl
theorem c4i(w:World)(os:OsState):(rn w os).map (fun s=>c4E.map s.heap.get?)=some ((K4 w.params).map fun p=>some p.2):=by kernel_rfl
theorem c7e(w:World)(os:OsState):(rn w os).map (Hook.obs b1b)=some (Hook.val b1b w):=by
 obtain⟨s,h1,h2⟩:=a4T.mp (c4l w os)
 have h3:=c4k w os
 have h4:=c4j w os
 have h5:=c4i w os
 rw[h1]at h3 h4 h5 ⊢
 have h3:c4G.map s.heap.get? = _:=Option.some.inj h3
 have h4:c4F.map s.heap.get? = _:=Option.some.inj h4
 have h5:c4E.map s.heap.get? = _:=Option.some.inj h5
 show some ((c7z++(c4G++(c4F++c4E))).map s.heap.get?)=some ((K1 w.params++(K2 w.params++(K3 w.params++K4 w.params))).map fun p=>some p.2)
 rw[Q3,Q3,Q3,Q3,Q3,Q3,h2,h3,h4,h5]
theorem left:LeftO P q loose (fun s=>xlAt q [] s&&recOk (RowW.records row.row.toRowW) s) (Hook.obs b1b) (Hook.val b1b) 6844:=
 c1C (m₀:=11) (ann:=(some (.ref 6))) (r:=rn) (by kernel_rfl) (by kernel_rfl) (fun s=>by kernel_rfl) (fun w=>by kernel_rfl) (by rw[PySem.W.Fast.te14082659384304107361,PySem.W.Fast.te14364793385576792824];exact fun _ _=>rfl) c7g (by rw[PySem.W.Fast.te4187177175401517315];exact c7f) c7e
theorem c7W:row.wellSaid=true:=by
 rw[PySem.W.Fast.te9446332074065402090]
 kernel_rfl
theorem fin(hc:∀d:DefRec,d.name = "law" -> d.params.defaults=[]->WalkO q loose (XL q []) (Hook.says b1b) row.row.toRowW d [] (fun f vs=>b3u f vs)):row.Holds:=by
 refine holds_law (l:=row) c7W fun said=>?_
 refine holds_open (q:=q) (loose:=loose) (Xt:=fun s=>xlAt q [] s&&recOk (RowW.records row.row.toRowW) s) (XP:=XL q []) (Yf:=Hook.obs b1b) (Ya:=Hook.val b1b) (YP:=Hook.says b1b) (N:=6844) left (Hook.of b1b) (Hook.keeps b1b) (fun s e=>xl_of s (b9K.mp e).1) XL.keeps (by rfl) (by rfl) (by rfl) (fun s e=>recFacts_of (b9K.mp e).2) (by rfl) said (by decide +kernel) ⟨rfl,rfl,rfl,rfl,rfl,by decide +kernel⟩ ?hw (hc _ rfl rfl)
 case hw=>w_witness2
end HD
set_option Elab.async false
set_option linter.all false
set_option maxRecDepth 100000
namespace L2
open PySem PySem.Spec PyProof.Rows
variable{us:List Value}{i t':Nat}{u:Value}{C a b dx f:Addr}{w:World}{h h':Heap}{pins:List (Addr×Obj)}{s:c9}{c e tg:Expr}{p pos:Pos}{Q:Value->c9->Prop}{es:List Expr}{kw:List (Str×Value)}{ps:List Str}{m:Str->Option Value}
abbrev Key:=Sum Int Str
def b0q:Key->Value->Bool
 | .inl k,v=>Value.isInt k v
 | .inr x,v=>Value.isStrOf x v
def c9s(w:World):Key->Int
 | .inl k=>hashInt k
 | .inr x=>hashStr w x
theorem T8:∀ {k:Key} {v:Value},b0q k v=true->(∃i t,k=Sum.inl i/\v=Value.int i t)\/(∃x t,k=Sum.inr x/\v=Value.str x t)
 | .inl i,v,h=>by
  obtain⟨t,e⟩:=Value.isInt_shape (k:=i) (v:=v) h
  exact .inl ⟨i,t,rfl,e⟩
 | .inr x,v,h=>by
  obtain⟨t,e⟩:=Value.isStrOf_shape (x:=x) (v:=v) h
  exact .inr ⟨x,t,rfl,e⟩
theorem b8Z(i:Int)(t:Tok):b0q (.inl i) (.int i t)=true:=by simp[b0q,Value.isInt]
theorem b8Y(x:Str)(t:Tok):b0q (.inr x) (.str x t)=true:=by simp[b0q,Value.isStrOf]
theorem c7l(a b:Int):decide ((Sum.inl a:Key)=Sum.inl b)=(a == b):=by
 by_cases e:a=b
 ·subst e;simp
 ·have h:¬(Sum.inl a:Key)=Sum.inl b:=fun q=>e (Sum.inl.inj q)
  rw[d0J h]
  exact(beq_eq_false_iff_ne.mpr e).symm
theorem c7i(a b:Str):decide ((Sum.inr a:Key)=Sum.inr b)=decide (a=b):=by
 by_cases e:a=b
 ·subst e;simp
 ·have h:¬(Sum.inr a:Key)=Sum.inr b:=fun q=>e (Sum.inr.inj q)
  rw[d0J h,d0J e]
theorem c7k(a:Int)(b:Str):decide ((Sum.inl a:Key)=Sum.inr b)=false:=d0J (fun q=>nomatch q)
theorem c7j(a:Str)(b:Int):decide ((Sum.inr a:Key)=Sum.inl b)=false:=d0J (fun q=>nomatch q)
def W4(prog:w4)(w:World):PySem.KeyKind prog w Key where
 is:=b0q
 hash:=c9s w
 inj:=fun v a b ha hb=>by
  rcases T8 ha with ⟨i,t,rfl,rfl⟩ | ⟨x,t,rfl,rfl⟩
  ·rcases T8 hb with ⟨j,u,rfl,e⟩ | ⟨y,u,rfl,e⟩
   ·injection e with e1 _;rw[e1]
   ·exact nomatch e
  ·rcases T8 hb with ⟨j,u,rfl,e⟩ | ⟨y,u,rfl,e⟩
   ·exact nomatch e
   ·injection e with e1 _;rw[e1]
 byValue:=fun k v h=>by
  rcases T8 h with ⟨i,t,rfl,rfl⟩ | ⟨x,t,rfl,rfl⟩ <;> rfl
 pyHash:=fun hv h=>by
  rcases T8 hv with ⟨i,t,rfl,rfl⟩ | ⟨x,t,rfl,rfl⟩
  ·exact wpAny_pyHash_int h
  ·exact wpAny_pyHash_str h
 eqBool:=fun hu hv h=>by
  rcases T8 hu with ⟨i,t,rfl,rfl⟩ | ⟨x,t,rfl,rfl⟩
  ·rcases T8 hv with ⟨j,u,rfl,rfl⟩ | ⟨y,u,rfl,rfl⟩
   ·rw[c7l]at h;exact wpAny_eqBool_int h
   ·rw[c7k]at h;exact SeqAt.EqAt.int_str i t y u _ _ _ _ h
  ·rcases T8 hv with ⟨j,u,rfl,rfl⟩ | ⟨y,u,rfl,rfl⟩
   ·rw[c7j]at h;exact SeqAt.EqAt.str_int x t j u _ _ _ _ h
   ·rw[c7i]at h;exact wpAny_eqBool_str h
 «strs» := fun k x t v h=>by
  rcases T8 h with ⟨i,u,rfl,e⟩ | ⟨y,u,rfl,e⟩
  ·exact nomatch e
  ·injection e with e1 _
   subst e1
   cases v <;> rfl
theorem b4F(prog:w4)(w:World)(i:Int)(t:Tok):(W4 prog w).is (.inl i) (.int i t)=true:=b8Z i t
theorem b4E(prog:w4)(w:World)(x:Str)(t:Tok):(W4 prog w).is (.inr x) (.str x t)=true:=b8Y x t
inductive V where
 | non | bl (b:Bool) | int (i:Int) | str (x:Str) | byt (b:Array UInt8) | flt (b:UInt64) | ref (a:Addr) | ty (n:String)
 deriving DecidableEq
variable{v y:V}{xs:List V}{kvs:List (Key×V)}
def F0:V->Value->Prop
 | .non,u=>u=Value.none
 | .bl b,u=>u=Value.bool b
 | .int i,u=>∃t,u=Value.int i t
 | .str x,u=>∃t,u=Value.str x t
 | .byt b,u=>∃t,u=Value.bytes b t
 | .flt b,u=>∃t,u=Value.float b t
 | .ref a,u=>u=Value.ref a
 | .ty n,u=>u=Value.type n
abbrev J2:List V->List Value->Prop:=Paired F0
theorem J2.length(r:J2 xs us):xs.length=us.length:=Paired.length r
theorem J2.get:∀ {xs:List V} {us:List Value} {i:Nat} {x:V},J2 xs us->xs[i]? = some x->∃u,us[i]? = some u/\F0 x u
 | _,_,_,_,.nil,e=>by simp at e
 | _,_,0,_,.cons r _,e=>by simp at e;subst e;exact⟨_,rfl,r⟩
 | _,_,i+1,x,.cons _ t,e=>by
  obtain⟨u,h1,h2⟩:=J2.get (i:=i) (x:=x) t (by simpa using e)
  exact⟨u,by simpa using h1,h2⟩
theorem J2.set{x:V}{u:Value}(r:F0 x u):∀ {xs:List V} {us:List Value} (i:Nat),J2 xs us->J2 (xs.set i x) (us.set i u)
 | _,_,_,.nil=>.nil
 | _,_,0,.cons _ t=>.cons r t
 | _,_,i+1,.cons q t=>.cons q (J2.set r i t)
theorem J2.append:∀ {xs ys:List V} {us ws:List Value},J2 xs us->J2 ys ws->J2 (xs++ys) (us++ws)
 | _,_,_,_,.nil,s=>s
 | _,_,_,_,.cons r t,s=>.cons r (J2.append t s)
theorem J2.take:∀ {xs:List V} {us:List Value} (n:Nat),J2 xs us->J2 (xs.take n) (us.take n)
 | _,_,0,_=>.nil
 | _,_,_+1,.nil=>.nil
 | _,_,n+1,.cons r t=>.cons r (J2.take n t)
theorem J2.drop:∀ {xs:List V} {us:List Value} (n:Nat),J2 xs us->J2 (xs.drop n) (us.drop n)
 | _,_,0,r=>r
 | _,_,_+1,.nil=>.nil
 | _,_,n+1,.cons _ t=>J2.drop n t
def a4Q:Option V->Option Value->Prop
 | some v,some u=>F0 v u
 | none,none=>True
 | _,_=>False
def KV{κ:Type}:List (κ×V)->List (κ×Value)->Prop:=Paired fun(p:κ×V) (q:κ×Value)=>p.1=q.1/\F0 p.2 q.2
def kV:Key->V
 | .inl i=>.int i
 | .inr x=>.str x
inductive HO where
 /-- a list -/
 | lst (xs:List V)
 /-- a tuple (never changes) -/
 | tup (xs:List V)
 /-- a dict whose keys are ints and texts;one whose keys are tuples of ints and texts (the empty one is both) -/
 | dK (kvs:List (Key×V)) | dT (kvs:List (List Key×V))
 /-- a set of ints: its members,its size -/
 | set (S:Int->Bool) (n:Nat)
 /-- an instance of the class at C,its dict at dx,its attributes -/
 | ins (C dx:Addr) (fs:List (Str×V))
 /-- the dict of the instance at x -/
 | own (x:Addr)
 /-- the dict of an exception -/
 | xd (fs:List (Str×V))
 /-- a bound method,f of x -/
 | met (f x:Addr)
 /-- a range object lo,lo+1,.. below hi -/
 | rng (lo hi:Int)
 /-- a thing that is known to the object (the script;a dict while a loop walks it): read,never written while it is so -/
 | frz (o:Obj) (u:HO)
 /-- a code object's table -/
 | tbl (ps:Array Value)
 /-- any other thing,by what is true of its one object (a def of one's own: SetO a S n:=HO.ext fun h=>..) -/
 | ext (φ:Heap->Prop)
variable{o:HO}
abbrev Hp:=Addr->Option HO
variable{H H':Hp}
def upd(H:Hp)(a:Addr)(o:HO):Hp:=fun b=>if b=a then some o else H b
theorem g9:upd H a o a=some o:=by unfold upd;rw[if_pos rfl]
theorem j7(h:b≠a):upd H a o b=H b:=by unfold upd;rw[if_neg h]
theorem a9i{u:HO}:upd (upd H a o) a u=upd H a u:=by
 funext b;unfold upd;split <;> rfl
theorem T7{u:HO}(h:H a=some o)(h':H b=some u)(d:o≠u):a≠b:=by
 intro e;subst e;rw[h]at h';exact d (Option.some.inj h')
theorem d5(h:H a=some o)(h':H b=none):a≠b:=by
 intro e;subst e;rw[h]at h';cases h'
section
variable (P:w4)(w:World)
def T9(H:Hp)(h:Heap)(a:Addr):HO->Prop
 | .lst xs=>xs.length<=t6/\∃(its:List Value) (n:Nat),J2 xs its/\h.get? a=some { cls:=.type "list",data:=.seq its.toArray n }
 | .tup xs=>xs.length<=t6/\∃its:List Value,J2 xs its/\IsTup h a its.toArray
 | .dK kvs=>kvs.length<=t6/\(a == a3w)=false/\∃vs,KV kvs vs/\h.DictOf (W4 P w) a vs
 | .dT kvs=>kvs.length<=t6/\(a == a3w)=false/\∃xs:List (List Key×Addr×Value),
   Paired (fun(p:List Key×V) (q:List Key×Addr×Value)=>p.1=q.1/\H q.2.1=some (.tup (p.1.map kV))/\F0 p.2 q.2.2) kvs xs /\
   ∃o es ep,h.get? a=some o/\o.ExactDict/\o.data=.dict es ep/\es.toList=xs.map (entryOfKey (b9L (W4 P w)))/\(xs.map (·.1)).Nodup
 | .set S n=>h.SetOf (intKind P w) a S n
 | .ins C dx fs=>H dx=some (.own a)/\fs.length<=1000/\dx≠a/\h.get? a=some (S9 C dx) /\
   ∃mA,h.Ns1 dx mA/\(∀f,a4Q (fs.lookup f) (mA f))/\PySem.Within mA (fs.map (·.1))
 | .own _=>∃o,h.get? a=some o
 | .xd fs=>∃mA,h.Ns1 a mA/\∀f,a4Q (fs.lookup f) (mA f)
 | .rng lo hi=>∃t u v,h.get? a=some { cls:=.type "range",data:=.fields #[.int lo t,.int hi u,.int 1 v] }
 | .frz o u=>h.get? a=some o/\T9 H h a u
 | .tbl ps=>h.get? a=some { cls:=.none,data:=.fields ps }
 | .met f x=>h.get? a=some (a8D (.ref f) (.ref x))
 | .ext φ=>φ h/\(∃o,h.get? a=some o)/\∀h1 h2:Heap,φ h1->(∀o,h1.get? a=some o->h2.get? a=some o)->φ h2
def HOk(H:Hp)(h:Heap):Prop:=∀a o,H a=some o->T9 P w H h a o
end
section
variable {P:w4}
theorem T9.lt(x:T9 P w H h a o):a<h.objs.size:=by
 cases o with
 | lst xs=>obtain⟨_,_,_,_,e⟩:=x;exact h9 e
 | tup xs=>obtain⟨_,_,_,p⟩:=x;exact p.lt
 | dK kvs=>obtain⟨_,_,_,_,o,_,_,e,_⟩:=x;exact h9 e
 | dT kvs=>obtain⟨_,_,_,_,o,_,_,e,_⟩:=x;exact h9 e
 | set S n=>obtain⟨o,_,_,_,e,_⟩:=x;exact h9 e
 | ins C dx fs=>obtain⟨_,_,_,e,_⟩:=x;exact h9 e
 | own y=>obtain⟨_,e⟩:=x;exact h9 e
 | xd fs=>obtain⟨_,⟨_,_,_,e,_⟩,_⟩:=x;exact h9 e
 | rng lo hi=>obtain⟨_,_,_,e⟩:=x;exact h9 e
 | frz ob u=>obtain⟨e,_⟩:=x;exact h9 e
 | tbl ps=>exact h9 (show h.get? a=some _ from x)
 | met f y=>exact h9 (show h.get? a=some _ from x)
 | ext φ=>obtain⟨_,⟨_,e⟩,_⟩:=x;exact h9 e
theorem Paired.mapP{α β:Type}{F G:α->β->Prop}:∀ {l₁:List α} {l₂:List β},Paired F l₁ l₂->(∀a b,F a b->G a b)->Paired G l₁ l₂
 | _,_,.nil,_=>.nil
 | _,_,.cons r t,f=>.cons (f _ _ r) (Paired.mapP t f)
theorem T9.stay(x:T9 P w H h a o)(k:∀b u,(b=a\/H b=some (.own a))->h.get? b=some u->h'.get? b=some u)
  (ho:∀b,H b=some (.own a)->H' b=some (.own a)) (ht:∀b xs,H b=some (.tup xs)->H' b=some (.tup xs)):T9 P w H' h' a o:=by
 induction o with
 | lst xs=>obtain⟨z,its,n,r,e⟩:=x;exact⟨z,its,n,r,k _ _ (.inl rfl) e⟩
 | tup xs=>obtain⟨z,its,r,ob,e,c⟩:=x;exact⟨z,its,r,ob,k _ _ (.inl rfl) e,c⟩
 | dK kvs=>obtain⟨z,y,vs,r,ob,es,ep,e,c⟩:=x;exact⟨z,y,vs,r,ob,es,ep,k _ _ (.inl rfl) e,c⟩
 | dT kvs=>
  obtain⟨z,y,xs,r,ob,es,ep,e,c⟩:=x
  exact⟨z,y,xs,Paired.mapP r fun p q z=>⟨z.1,ht _ _ z.2.1,z.2.2⟩,ob,es,ep,k _ _ (.inl rfl) e,c⟩
 | set S n=>obtain⟨ob,es,ep,t,e,c⟩:=x;exact⟨ob,es,ep,t,k _ _ (.inl rfl) e,c⟩
 | ins C dx fs=>
  obtain⟨d,z,ne,e,mA,⟨od,es,ep,e2,c⟩,r⟩:=x
  exact⟨ho _ d,z,ne,k _ _ (.inl rfl) e,mA,⟨od,es,ep,k _ _ (.inr d) e2,c⟩,r⟩
 | own y=>obtain⟨ob,e⟩:=x;exact⟨ob,k _ _ (.inl rfl) e⟩
 | xd fs=>obtain⟨mA,⟨od,es,ep,e,c⟩,r⟩:=x;exact⟨mA,⟨od,es,ep,k _ _ (.inl rfl) e,c⟩,r⟩
 | rng lo hi=>obtain⟨t,u,v,e⟩:=x;exact⟨t,u,v,k _ _ (.inl rfl) e⟩
 | frz ob u ih=>obtain⟨e,q⟩:=x;exact⟨k _ _ (.inl rfl) e,ih q⟩
 | tbl ps=>
  have e:h.get? a=some { cls:=.none,data:=.fields ps }:=x
  show h'.get? a=some { cls:=.none,data:=.fields ps }
  exact k a _ (.inl rfl) e
 | met f y=>
  have e:h.get? a=some (a8D (.ref f) (.ref y)):=x
  show h'.get? a=some (a8D (.ref f) (.ref y))
  exact k a _ (.inl rfl) e
 | ext φ=>obtain⟨p,⟨o,e⟩,st⟩:=x;exact⟨st _ _ p fun o q=>k _ _ (.inl rfl) q,⟨o,k _ _ (.inl rfl) e⟩,st⟩
theorem HOk.lt(x:HOk P w H h)(e:H a=some o):a<h.objs.size:=(x a o e).lt
theorem HOk.fresh(x:HOk P w H h)(e:h.objs.size<=a):H a=none:=by
 cases q:H a with
 | none=>rfl
 | some u=>exact absurd (v0 (x.lt q) e) (D4 _)
theorem HOk.kept(x:HOk P w H h)(k:∀b u,h.get? b=some u->h'.get? b=some u):HOk P w H h':=fun a o e=>
 (x a o e).stay (fun b u _ q=>k b u q) (fun _ q=>q) fun _ _ q=>q
theorem HOk.laid(x:HOk P w H h)(k:∀b u,h.get? b=some u->h'.get? b=some u)(hp:h.objs.size<=a)(new:T9 P w (upd H a o) h' a o):HOk P w (upd H a o) h':=fun b u e=>by
 have hn:=x.fresh hp
 by_cases hb:b=a
 ·subst hb;rw[g9]at e;cases e;exact new
 ·rw[j7 hb]at e
  exact(x b u e).stay (fun c v _ q=>k c v q) (fun c q=>by rw[j7 (d5 q hn)];exact q) fun c xs q=>by rw[j7 (d5 q hn)];exact q
end
def Rd(H:Hp)(a:Addr)(u:HO):Prop:=H a=some u\/∃o,H a=some (.frz o u)
theorem Rd.ok{P:w4}{u:HO}(r:Rd H a u)(x:HOk P w H h):T9 P w H h a u:=by
 rcases r with r | ⟨o,r⟩
 ·exact x a u r
 ·obtain⟨_,q⟩:=x a _ r
  exact q
def Mut:Option HO->Prop
 | some (.lst _)=>True
 | some (.dK _)=>True
 | some (.dT _)=>True
 | some (.set _ _)=>True
 | some (.ins _ _ _)=>True
 | some (.ext _)=>True
 | _=>False
section
variable {P:w4}{x e:Addr}{o':HO}
theorem HOk.write(ok:HOk P w H h)(mu:Mut (H x))(he:e=x\/H e=some (.own x))(k:∀b u,b≠e->h.get? b=some u->h'.get? b=some u)(heo:∃u,h'.get? e=some u)
  (new:T9 P w (upd H x o') h' x o'):HOk P w (upd H x o') h':=fun b u q=>by
 have nown:∀c y,H c=some (.own y)->c≠x:=fun c y r z=>by subst z;rw[r]at mu;exact mu
 have ntup:∀c xs,H c=some (.tup xs)->c≠x:=fun c xs r z=>by subst z;rw[r]at mu;exact mu
 by_cases hb:b=x
 ·subst hb;rw[g9]at q;cases q;exact new
 ·rw[j7 hb]at q
  by_cases hbe:b=e
  ·have q':H b=some (.own x):=by
    rcases he with z | z
    ·exact absurd (hbe.trans z) hb
    ·rw[hbe];exact z
   rw[q]at q';cases q'
   obtain⟨v,hv⟩:=heo
   exact⟨v,by rw[hbe];exact hv⟩
  ·refine(ok b u q).stay (fun c v hc r=>k c v ?_ r) (fun c r=>by rw[j7 (nown c b r)];exact r) fun c xs r=>by rw[j7 (ntup c xs r)];exact r
   rcases hc with rfl | hc
   ·exact hbe
   ·rintro rfl
    rcases he with z | z
    ·exact nown c b hc z
    ·rw[hc]at z;cases z;exact hb rfl
end
structure Un(fs ex:List Addr)(H H':Hp)(h h':Heap):Prop where
 keep:∀b o,h.get? b=some o->H b=none->b∉fs->b∉ex->h'.get? b=some o
 slot:∀b o,h.get? b=some o->H b=none->b∈fs->b∉ex->∃sl,h'.get? b=some { o with slots:=sl }
 free:∀b o,h.get? b=some o->H b=none->b∉ex->H' b=none
 there:∀b o,h.get? b=some o->b∉ex->∃o',h'.get? b=some o'
 tups:∀b xs,H b=some (.tup xs)->H' b=some (.tup xs)
 frzs:∀b o u,H b=some (.frz o u)->H' b=some (.frz o u)
 tbls:∀b ps,H b=some (.tbl ps)->∃more,H' b=some (.tbl (ps++more))
section
variable {fs fs' ex ex':List Addr}{H1 H2:Hp}{h1 h2:Heap}{x e:Addr}
theorem Un.any(u:Un fs ex H H1 h h1){ob:Obj}(q:h.get? b=some ob)(n:H b=none)(hx:b∉ex):∃sl,h1.get? b=some { ob with slots:=sl }:=by
 by_cases hb:b∈fs
 ·exact u.slot b ob q n hb hx
 ·exact⟨ob.slots,u.keep b ob q n hb hx⟩
theorem Un.kept(k:∀b u,h.get? b=some u->h'.get? b=some u):Un fs ex H H h h':=
 ⟨fun b ob q _ _ _=>k b ob q,fun b ob q _ _ _=>⟨ob.slots,k b ob q⟩,fun _ _ _ n _=>n,fun b ob q _=>⟨ob,k b ob q⟩,fun _ _ q=>q,fun _ _ _ q=>q,fun _ ps q=>⟨#[],by rw[q];simp⟩⟩
theorem Un.refl:Un fs ex H H h h:=Un.kept fun _ _ q=>q
theorem Un.laid(k:∀b u,h.get? b=some u->h'.get? b=some u)(hp:h.objs.size<=a)(hn:H a=none):Un fs ex H (upd H a o) h h' where
 keep:=fun b u q _ _ _=>k b u q
 slot:=fun b u q _ _ _=>⟨u.slots,k b u q⟩
 free:=fun b u q n _=>by rw[j7 (v5 (v0 (h9 q) hp))];exact n
 there:=fun b u q _=>⟨u,k b u q⟩
 tups:=fun b xs q=>by rw[j7 (d5 q hn)];exact q
 frzs:=fun b u xs q=>by rw[j7 (d5 q hn)];exact q
 tbls:=fun b ps q=>⟨#[],by rw[j7 (d5 q hn),q];simp⟩
theorem Un.write(mu:Mut (H x))(he:e=x\/H e=some (.own x))(k:∀b u,b≠e->h.get? b=some u->h'.get? b=some u)(heo:∃u,h'.get? e=some u):Un fs ex H (upd H x o) h h':=by
 have hx:∀b,H b=none->b≠x:=fun b n z=>by subst z;rw[n]at mu;exact mu
 have hb:∀b,H b=none->b≠e:=fun b n z=>by
  subst z
  rcases he with r | r
  ·exact hx b n r
  ·rw[n]at r;cases r
 have hm:∀b u,H b=some u->¬Mut (some u)->b≠x:=fun b u q nm z=>by subst z;rw[q]at mu;exact nm mu
 refine⟨fun b u q n _ _=>k b u (hb b n) q,fun b u q n _ _=>⟨u.slots,k b u (hb b n) q⟩,fun b u q n _=>by rw[j7 (hx b n)];exact n,fun b u q _=>?_,
  fun b xs q=>by rw[j7 (hm b _ q fun z=>z)];exact q,fun b u xs q=>by rw[j7 (hm b _ q fun z=>z)];exact q,fun b ps q=>⟨#[],by rw[j7 (hm b _ q fun z=>z),q];simp⟩⟩
 by_cases hbe:b=e
 ·subst hbe;exact heo
 ·exact⟨u,k b u hbe q⟩
end
def trk(h:Heap)(H:Hp):List Addr:=(u7 h.objs.size).filter fun a=>(H a).isSome
def b2Y(h:Heap)(H:Hp):Heap:=PySem.W.hideAll h (trk h H)
theorem b9e(h:Heap)(H:Hp):(b2Y h H).objs.size=h.objs.size:=PySem.W.hideAll_size _ _
theorem c1N{o:Obj}(e:h.get? b=some o)(n:H b=none):(b2Y h H).get? b=some o:=
 PySem.W.hideAll_get _ e fun hm=>by
  have q:(H b).isSome=true:=(U0.mp hm).2
  rw[n]at q;simp at q
theorem c3U{o:Obj}(e:(b2Y h H).get? b=some o):h.get? b=some o/\H b=none:=by
 have e':h.get? b=some o:=PySem.W.of_hideAll (trk h H) e
 refine⟨e',?_⟩
 cases q:H b with
 | none=>rfl
 | some x=>
  have hm:b∈trk h H:=U0.mpr ⟨G8.mpr (h9 e'),by simp[q]⟩
  have z:(b2Y h H).get? b=none:=PySem.W.hideAll_none (trk h H) hm
  rw[z]at e;cases e
def c4D(g h:Heap)(L:Addr):List (Addr×Obj):=(u7 h.objs.size).filterMap fun a=>if a=L\/(g.get? a).isSome=true then none else (h.get? a).map fun o=>(a,o)
def rest(g h:Heap)(L d:Addr):List (Addr×Obj):=(c4D g h L).filter fun p=>decide (p.1≠d)
structure Mod(K:Fg)(mg:Str->Option Value)(base:Heap):Prop where
 kin:K.In base
 glob:base.Ns u8 mg
 blt:∃mb,base.Ns builtinsNs mb/\∀x:Str,x ≠ "__name__" -> mb x=a0G x
 nolimit:base.NoLimit
structure Cx where
 prog:w4
 w:World
 K:Fg
 mg:Str->Option Value
 base:Heap
 A:D8
 N:List Str
 s₀:c9
 H₀:Hp
 env:Env
 outer:List Env
 stack:List Env
 ex:List Addr
 fn:Str->Bool
 calm:Bool
 pn:List (Addr×Obj)
 xe:Value->c9->Prop
variable{X:Cx}
def frs(l:List Env):List Addr:=l.filterMap (·.frame)
abbrev Cx.fs(X:Cx):List Addr:=frs X.outer
def Vis(sc:Scope)(x:Str):Prop:=sc.names.lookup x=some .local\/sc.names.lookup x=some .cell\/sc.names.lookup x=some .free
def Loc(sc:Scope)(x:Str):Prop:=sc.names.lookup x=some .local\/sc.names.lookup x=some .cell
def c9y(env:Env)(h:Heap)(m:Str->Option Value)(x:Str)(u:Value):Prop:=
 (env.kindOf x=some .local/\m x=some u)\/((env.kindOf x=some .cell\/env.kindOf x=some .free)/\∃c,env.cells.lookup x=some c/\h.IsCell c (some u))
structure Cx.Ok(X:Cx):Prop where
 mod:Mod X.K X.mg X.base
 kind:X.env.scope.kind=.function
 glob:X.env.globals=u8
 blt:X.env.builtins=builtinsNs
 above:X.s₀.heap.objs.size<=X.env.locals
 inj:∀x y c,X.env.cells.lookup x=some c->X.env.cells.lookup y=some c->x=y
 has:∀x,(X.env.kindOf x=some .cell\/X.env.kindOf x=some .free)->∃c,X.env.cells.lookup x=some c
 cab:∀x c,X.fn x=true->X.env.cells.lookup x=some c->X.s₀.heap.objs.size<=c
 hd:X.calm=true->X.A.handled=none
 frames:X.A.frames=some X.stack
 stk:X.stack=X.outer\/(X.stack=X.env::X.outer/\X.env.frame=some X.env.locals)
 exf:∀b∈X.ex,b≠X.env.locals/\∀x c,X.env.cells.lookup x=some c->c≠b
 bs:∀b o,X.base.get? b=some o->X.s₀.heap.get? b=some o/\X.H₀ b=none
 bsz:X.base.objs.size<=X.s₀.heap.objs.size
 noex:∀b o,X.base.get? b=some o->b∉X.ex
 exfs:∀b∈X.ex,b∉X.fs
 funs:X.s₀.heap.FunFrames X.base X.outer
 frf:∀b∈X.fs,X.H₀ b=none
structure Inv(X:Cx)(pins:List (Addr×Obj))(σ:List (Option V))(H:Hp)(s:c9):Prop where
 ok:X.Ok
 os:s.os=X.s₀.os
 bare:a9B s.gens
 base:Un X.fs X.ex X.H₀ H X.s₀.heap s.heap
 loc:∃m,s.heap.Ns X.env.locals m/\∀(i:Nat) (x:Str) (v:V),X.N[i]? = some x->σ[i]? = some (some v)->Vis X.env.scope x->∃u,F0 v u/\c9y X.env s.heap m x u
 cell:∀x c,X.env.cells.lookup x=some c->∃v,s.heap.IsCell c v
 free:H X.env.locals=none
 freeC:∀x c,X.env.cells.lookup x=some c->H c=none
 pin:∀p∈X.pn++pins,s.heap.get? p.1=some p.2/\H p.1=none/\p.1≠X.env.locals/\p.1∉X.fs/\∀v,p.2.data≠.cell v
 hok:HOk X.prog X.w H s.heap
 len:σ.length=X.N.length
section
variable {σ:List (Option V)}
theorem Cx.Ok.nofr(ok:X.Ok){o:Obj}(e:X.base.get? b=some o):b∉X.fs:=fun hb=>by
 have:=(ok.funs.mem hb).1
 rw[e]at this;cases this
theorem Inv.bs(I:Inv X pins σ H s):∀b o,X.base.get? b=some o->s.heap.get? b=some o/\H b=none:=fun b o e=>
 ⟨I.base.keep b o (I.ok.bs b o e).1 (I.ok.bs b o e).2 (I.ok.nofr e) (I.ok.noex b o e),I.base.free b o (I.ok.bs b o e).1 (I.ok.bs b o e).2 (I.ok.noex b o e)⟩
theorem Inv.bk(I:Inv X pins σ H s):∀b o,X.base.get? b=some o->s.heap.get? b=some o:=fun b o e=>(I.bs b o e).1
theorem Inv.mod(I:Inv X pins σ H s):Mod X.K X.mg X.base:=I.ok.mod
theorem Inv.kIn(I:Inv X pins σ H s):X.K.In s.heap:=I.ok.mod.kin.keeps I.bk
theorem Inv.lt(I:Inv X pins σ H s):X.env.locals<s.heap.objs.size:=let⟨_,hn,_⟩:=I.loc;hn.lt
theorem Inv.sz(I:Inv X pins σ H s):X.s₀.heap.objs.size<=s.heap.objs.size:=F3 I.ok.above (a5X I.lt)
theorem Inv.nofs(I:Inv X pins σ H s)(h:s.heap.objs.size<=a):a∉X.fs:=fun hb=>by
 obtain⟨_,o,ho,_⟩:=I.ok.funs.mem hb
 exact absurd (v0 (h9 ho) (F3 I.sz h)) (D4 _)
theorem Inv.cne(I:Inv X pins σ H s):∀x c,X.env.cells.lookup x=some c->c≠X.env.locals:=fun x c e z=>by
 obtain⟨v,o,ho,hd⟩:=I.cell x c e
 obtain⟨m,⟨o',es,ep,ho',hd',_⟩,_⟩:=I.loc
 rw[z,ho']at ho;cases ho;rw[hd']at hd;cases hd
theorem Inv.funs(I:Inv X pins σ H s):s.heap.FunFrames X.base X.outer:=by
 have all:∀(l:List Env),(∀b∈frs l,b∈X.fs)->X.s₀.heap.FunFrames X.base l->s.heap.FunFrames X.base l:=by
  intro l
  induction l with
  | nil=>intro _ _;trivial
  | cons env r ih=>
   intro hs hl
   obtain⟨hk,⟨L,o,hf,hn,ho,hd⟩,hr⟩:=hl
   have hL:L∈X.fs:=hs L (by unfold frs;rw[a7U,hf];exact J3)
   obtain⟨sl,e⟩:=I.base.slot L o ho (I.ok.frf L hL) hL fun z=>I.ok.exfs L z hL
   exact⟨hk,⟨L,_,hf,hn,e,hd⟩,ih (fun b hb=>hs b (by unfold frs;rw[a7U,hf];exact E8 _ hb)) hr⟩
 exact all X.outer (fun _ hb=>hb) I.ok.funs
theorem Inv.stack(I:Inv X pins σ H s):s.heap.FunFrames X.base X.stack:=by
 rcases I.ok.stk with e | ⟨e,hf⟩
 ·rw[e];exact I.funs
 ·rw[e]
  obtain⟨m,hn,_⟩:=I.loc
  refine .cons (by rw[I.ok.kind];decide) hf hn ?_ I.funs
  exact Heap.get?_none_of_le (F3 I.ok.bsz I.ok.above)
theorem Inv.stkSub(I:Inv X pins σ H s):∀b∈frs X.stack,b∈X.env.locals::X.fs:=fun b hb=>by
 rcases I.ok.stk with e | ⟨e,hf⟩
 ·rw[e]at hb;exact E8 _ hb
 ·rw[e]at hb
  unfold frs at hb
  rw[a7U,hf]at hb
  exact hb
theorem Inv.stkFree(I:Inv X pins σ H s):∀b∈frs X.stack,H b=none:=fun b hb=>by
 rcases o0.mp (I.stkSub b hb)with e | hb
 ·rw[e];exact I.free
 ·obtain⟨_,o,ho,_⟩:=I.ok.funs.mem hb
  exact I.base.free b o ho (I.ok.frf b hb) fun z=>I.ok.exfs b z hb
theorem Inv.step{g':Array GenState}{t':Nat}{d':Drawn}{ch:List Addr}(I:Inv X pins σ H s)
  (hch:∀b∈ch,(b∈X.ex\/X.s₀.heap.objs.size<=b)/\b≠X.env.locals/\(∀x c,X.env.cells.lookup x=some c->c≠b)/\∀p∈X.pn++pins,p.1≠b)
  (keep:∀b o,b≠X.env.locals->b∉X.fs->b∉ch->s.heap.get? b=some o->H b=none->h'.get? b=some o)
  (slot:∀b o,b≠X.env.locals->b∈X.fs->b∉ch->s.heap.get? b=some o->H b=none->∃sl,h'.get? b=some { o with slots:=sl }) (free:∀b o,b∉ch->s.heap.get? b=some o->H b=none->H' b=none)
  (there:∀b o,b∉ch->s.heap.get? b=some o->∃o',h'.get? b=some o')
  (tups:∀b xs,H b=some (.tup xs)->H' b=some (.tup xs)) (frzs:∀b o u,H b=some (.frz o u)->H' b=some (.frz o u)) (tbls:∀b ps,H b=some (.tbl ps)->∃more,H' b=some (.tbl (ps++more)))
  (ns:∀m,s.heap.Ns X.env.locals m->h'.Ns X.env.locals m) (hok:HOk X.prog X.w H' h') (hg:a9B g') :
  Inv X pins σ H' { s with heap:=h',gens:=g',drawn:=d',toks:=t' }:=by
 have neL:∀b o,X.s₀.heap.get? b=some o->b≠X.env.locals:=fun b o e=>v5 (v0 (h9 e) I.ok.above)
 have neC:∀b o,X.s₀.heap.get? b=some o->b∉X.ex->b∉ch:=fun b o e hx hb=>by
  rcases(hch b hb).1 with z | z
  ·exact hx z
  ·exact absurd (v0 (h9 e) z) (D4 _)
 have cellK:∀x c,X.env.cells.lookup x=some c->∀v,s.heap.IsCell c v->h'.IsCell c v:=fun x c e v ⟨o,ho,hd⟩=>by
  have nch:c∉ch:=fun z=>(hch c z).2.2.1 x c e rfl
  by_cases hc:c∈X.fs
  ·obtain⟨sl,q⟩:=slot c o (I.cne x c e) hc nch ho (I.freeC x c e)
   exact⟨_,q,hd⟩
  ·exact⟨o,keep c o (I.cne x c e) hc nch ho (I.freeC x c e),hd⟩
 refine⟨I.ok,I.os,hg,⟨fun b o e n hb hx=>?_,fun b o e n hb hx=>?_,fun b o e n hx=>?_,fun b o e hx=>?_,fun b xs e=>tups b xs (I.base.tups b xs e),fun b o xs e=>frzs b o xs (I.base.frzs b o xs e),fun b ps e=>?_⟩,?_,fun x c e=>?_,?_,fun x c e=>?_,fun p hp=>?_,hok,I.len⟩
 ·exact keep b o (neL b o e) hb (neC b o e hx) (I.base.keep b o e n hb hx) (I.base.free b o e n hx)
 ·obtain⟨sl,e1⟩:=I.base.slot b o e n hb hx
  obtain⟨sl',e2⟩:=slot b _ (neL b o e) hb (neC b o e hx) e1 (I.base.free b o e n hx)
  exact⟨sl',e2⟩
 ·obtain⟨o',e1⟩:=I.base.there b o e hx
  exact free b o' (neC b o e hx) e1 (I.base.free b o e n hx)
 ·obtain⟨o',e1⟩:=I.base.there b o e hx
  exact there b o' (neC b o e hx) e1
 ·obtain⟨m1,e1⟩:=I.base.tbls b ps e
  obtain⟨m2,e2⟩:=tbls b _ e1
  exact⟨m1++m2,by rw[e2,Array.append_assoc]⟩
 ·obtain⟨m,hn,hl⟩:=I.loc
  refine⟨m,ns m hn,fun i x v e1 e2 e3=>?_⟩
  obtain⟨u,r,l⟩:=hl i x v e1 e2 e3
  refine⟨u,r,?_⟩
  rcases l with l | ⟨k,c,e,z⟩
  ·exact .inl l
  ·exact .inr ⟨k,c,e,cellK x c e _ z⟩
 ·obtain⟨v,z⟩:=I.cell x c e
  exact⟨v,cellK x c e v z⟩
 ·obtain⟨m,⟨o,_,_,ho,_⟩,_⟩:=I.loc
  exact free _ o (fun z=>(hch _ z).2.1 rfl) ho I.free
 ·obtain⟨v,o,ho,hd⟩:=I.cell x c e
  exact free c o (fun z=>(hch c z).2.2.1 x c e rfl) ho (I.freeC x c e)
 ·obtain⟨e,n,ne,nf,d⟩:=I.pin p hp
  have nch:p.1∉ch:=fun z=>(hch p.1 z).2.2.2 p hp rfl
  exact⟨keep p.1 p.2 ne nf nch e n,free p.1 p.2 nch e n,ne,nf,d⟩
theorem Inv.un(I:Inv X pins σ H s)(u:Un X.fs [] H H' s.heap h')(hok:HOk X.prog X.w H' h'):Inv X pins σ H' { s with heap:=h',toks:=t' }:=by
 obtain⟨m,⟨o,es,ep,ho,r⟩,_⟩:=id I.loc
 obtain⟨sl,hL⟩:=u.any ho I.free (by simp)
 exact I.step (g':=s.gens) (d':=s.drawn) (ch:=[]) (fun _ z=>nomatch z) (fun b o _ hb _ e n=>u.keep b o e n hb (by simp)) (fun b o _ hb _ e n=>u.slot b o e n hb (by simp)) (fun b o _ e n=>u.free b o e n (by simp)) (fun b o _ e=>u.there b o e (by simp)) u.tups u.frzs u.tbls (fun m' hm=>by
  obtain⟨o',es',ep',ho',r'⟩:=hm
  rw[ho]at ho';cases ho'
  exact⟨_,es',ep',hL,r'⟩) hok I.bare
theorem Inv.call{g':Array GenState}{d':Drawn}{ch:List Addr}(I:Inv X pins σ H s)(u:Un (frs X.stack) ch H H' s.heap h')(hok:HOk X.prog X.w H' h')(hg:a9B g')
  (hch:∀b∈ch,(b∈X.ex\/X.s₀.heap.objs.size<=b)/\b≠X.env.locals/\(∀x c,X.env.cells.lookup x=some c->c≠b)/\∀p∈X.pn++pins,p.1≠b) :
  Inv X pins σ H' { s with heap:=h',gens:=g',drawn:=d',toks:=t' }:=by
 obtain⟨m,⟨o,es,ep,ho,r⟩,_⟩:=id I.loc
 obtain⟨sl,hL⟩:=u.any ho I.free fun z=>(hch _ z).2.1 rfl
 exact I.step (ch:=ch) hch (fun b o hL hb hc e n=>u.keep b o e n (fun z=>(o0.mp (I.stkSub b z)).elim hL hb) hc) (fun b o _ _ hc e n=>u.any e n hc) (fun b o hc e n=>u.free b o e n hc) (fun b o hc e=>u.there b o e hc) u.tups u.frzs u.tbls (fun m' hm=>by
  obtain⟨o',es',ep',ho',r'⟩:=hm
  rw[ho]at ho';cases ho'
  exact⟨_,es',ep',hL,r'⟩) hok hg
theorem Inv.turned{it:Addr}(I:Inv X pins σ H s)(k:∀b o,b≠it->s.heap.get? b=some o->h'.get? b=some o)(hn:H it=none)(hL:it≠X.env.locals)
  (h1:it∈X.ex\/X.s₀.heap.objs.size<=it) (h2:∀x c,X.env.cells.lookup x=some c->c≠it) (h3:∀p∈X.pn++pins,p.1≠it):Inv X pins σ H { s with heap:=h',toks:=t' }:=by
 have nit:∀b u,H b=some u->b≠it:=fun b u e z=>by rw[z,hn]at e;cases e
 refine I.step (g':=s.gens) (d':=s.drawn) (ch:=[it]) (fun b hb=>?_) (fun b o _ _ hc e _=>k b o (fun z=>hc (by simp[z])) e) (fun b o _ _ hc e _=>⟨o.slots,k b o (fun z=>hc (by simp[z])) e⟩) (fun _ _ _ _ n=>n)
  (fun b o hc e=>⟨o,k b o (fun z=>hc (by simp[z])) e⟩) (fun _ _ e=>e) (fun _ _ _ e=>e) (fun b ps e=>⟨#[],by rw[e];simp⟩) (fun m hm=>?_) (fun b u e=>?_) I.bare
 ·have e:b=it:=by simpa using hb
  subst e
  exact⟨h1,hL,h2,h3⟩
 ·obtain⟨o,es,ep,ho,r⟩:=hm
  exact⟨o,es,ep,k _ o (Ne.symm hL) ho,r⟩
 ·refine(I.hok b u e).stay (fun c v hc q=>k c v ?_ q) (fun _ q=>q) fun _ _ q=>q
  rcases hc with z | z
  ·rw[z];exact nit b u e
  ·exact nit c _ z
theorem Inv.tok(I:Inv X pins σ H s)(t:Nat):Inv X pins σ H { s with toks:=t }:=I.un (h':=s.heap) (t':=t) Un.refl I.hok
theorem Inv.kept(I:Inv X pins σ H s)(k:∀b u,s.heap.get? b=some u->h'.get? b=some u):Inv X pins σ H { s with heap:=h',toks:=t' }:=I.un (Un.kept k) (I.hok.kept k)
theorem Inv.laid(I:Inv X pins σ H s)(k:∀b u,s.heap.get? b=some u->h'.get? b=some u)(hp:s.heap.objs.size<=a)(new:T9 X.prog X.w (upd H a o) h' a o) :
  Inv X pins σ (upd H a o) { s with heap:=h',toks:=t' }:=I.un (Un.laid k hp (I.hok.fresh hp)) (I.hok.laid k hp new)
theorem Inv.write{x e:Addr}(I:Inv X pins σ H s)(mu:Mut (H x))(he:e=x\/H e=some (.own x))(k:∀b u,b≠e->s.heap.get? b=some u->h'.get? b=some u)(heo:∃u,h'.get? e=some u)
  (new:T9 X.prog X.w (upd H x o) h' x o):Inv X pins σ (upd H x o) { s with heap:=h',toks:=t' }:=I.un (Un.write mu he k heo) (I.hok.write mu he k heo new)
theorem Inv.weak{σ':List (Option V)}(I:Inv X pins σ H s)(hl:σ'.length=σ.length)(w:∀(i:Nat) v,σ'[i]? = some (some v)->σ[i]? = some (some v)):Inv X pins σ' H s:=
 ⟨I.ok,I.os,I.bare,I.base,let⟨m,hn,hl'⟩:=I.loc; ⟨m,hn,fun i x v e1 e2 e3=>hl' i x v e1 (w i v e2) e3⟩,I.cell,I.free,I.freeC,I.pin,I.hok,hl.trans I.len⟩
theorem Inv.pins_of{pins':List (Addr×Obj)}(I:Inv X pins σ H s)(h:∀p∈pins',s.heap.get? p.1=some p.2/\H p.1=none/\p.1≠X.env.locals/\p.1∉X.fs/\∀v,p.2.data≠.cell v):Inv X pins' σ H s:=
 ⟨I.ok,I.os,I.bare,I.base,I.loc,I.cell,I.free,I.freeC,fun p hp=>(y8.mp hp).elim (fun z=>I.pin p (A4 _ z)) (h p),I.hok,I.len⟩
theorem b0l{N:List Str}(hN:N.Nodup){j:Nat}{x:Str}(a:N[i]? = some x)(b:N[j]? = some x):i=j:=by
 obtain⟨h1,e1⟩:=z4.mp a
 obtain⟨h2,e2⟩:=z4.mp b
 exact(List.getElem_inj hN).mp (e1.trans e2.symm)
theorem b1B{M:Model}{A:D8}{E:Value->c9->Prop}{x:Str}{Q:Unit->c9->Prop}(I:Inv X pins σ H s)(hN:X.N.Nodup)(hi:X.N[i]? = some x)(hx:Loc X.env.scope x)(r:F0 v u)
  (h:∀s',Inv X pins (σ.set i (some v)) H s'->(∃a,Heap.SameBut a s.heap s'.heap/\(a=X.env.locals\/X.env.cells.lookup x=some a))->Q () s') (hf:X.fn x=true\/X.env.scope.names.lookup x=some .local:=by first | exact .inl rfl | exact .inr rfl | assumption):wpAny M A (storeName X.env x u) Q E s:=by
 obtain⟨m,hn,hl⟩:=id I.loc
 have hcls:(X.env.scope.kind == .class||(X.env.scope.kind == .module&&X.env.locals != X.env.globals))=false:=by rw[I.ok.kind];rfl
 have hiσ:i<σ.length:=by rw[I.len];exact(z4.mp hi).1
 have cne:=I.cne
 have tracked:∀ {a:Addr} {h':Heap},(∃o,s.heap.get? a=some o/\H a=none)->Heap.SameBut a s.heap h'->HOk X.prog X.w H h':=fun {a h'} ha hs b ob e=>by
  obtain⟨_,_,hfree⟩:=ha
  refine(I.hok b ob e).stay (fun c w' hc q=>(hs.2 c ?_).trans q) (fun _ q=>q) fun _ _ q=>q
  rintro rfl
  rcases hc with rfl | hc
  ·rw[hfree]at e;cases e
  ·rw[hfree]at hc;cases hc
 rcases hx with hk | hk
 ·refine wpAny_storeName_local hk hn (fun h' hn' hs=>?_) hcls
  obtain⟨oL,_,_,hoL,_⟩:=id hn
  refine h _ ⟨I.ok,I.os,I.bare,⟨fun b o e n hb hx=>?_,fun b o e n hb hx=>?_,I.base.free,fun b o e hx=>?_,I.base.tups,I.base.frzs,I.base.tbls⟩,⟨_,hn',fun j y v' e1 e2 e3=>?_⟩,fun y c e=>?_,I.free,I.freeC,fun p hp=>?_,tracked ⟨oL,hoL,I.free⟩ hs,by simpa using I.len⟩ ⟨_,hs,.inl rfl⟩
  ·exact(hs.2 b (v5 (v0 (h9 e) I.ok.above))).trans (I.base.keep b o e n hb hx)
  ·obtain⟨sl,e1⟩:=I.base.slot b o e n hb hx
   exact⟨sl,(hs.2 b (v5 (v0 (h9 e) I.ok.above))).trans e1⟩
  ·obtain⟨o',e1⟩:=I.base.there b o e hx
   exact⟨o',(hs.2 b (v5 (v0 (h9 e) I.ok.above))).trans e1⟩
  ·by_cases hj:j=i
   ·subst hj
    rw[hi]at e1;cases e1
    rw[D5 hiσ]at e2
    cases e2
    exact⟨u,r,.inl ⟨hk,by simp⟩⟩
   ·rw[C9 (Ne.symm hj)]at e2
    obtain⟨u',r',q⟩:=hl j y v' e1 e2 e3
    refine⟨u',r',?_⟩
    rcases q with ⟨k,e⟩ | ⟨k,c,e,z⟩
    ·refine .inl ⟨k,?_⟩
     have:y≠x:=fun e=>hj (b0l hN e1 (e ▸ hi))
     simp[this,e]
    ·exact .inr ⟨k,c,e,z.sameBut hs (cne y c e)⟩
  ·obtain⟨w',z⟩:=I.cell y c e
   exact⟨w',z.sameBut hs (cne y c e)⟩
  ·obtain⟨e,n,ne,nf,d⟩:=I.pin p hp
   exact⟨(hs.2 p.1 ne).trans e,n,ne,nf,d⟩
 ·have hfn:X.fn x=true:=by
   rcases hf with z | z
   ·exact z
   ·rw[z]at hk;cases hk
  obtain⟨c,hc⟩:=I.ok.has x (.inl hk)
  obtain⟨w',z⟩:=I.cell x c hc
  refine wpAny_storeName_cell I.ok.kind hk hc z (fun h' hc' hs=>?_)
  obtain⟨oc,hoc,hocd⟩:=id z
  refine h { s with heap:=h' } ⟨I.ok,I.os,I.bare,⟨fun b o e n hb hx=>?_,fun b o e n hb hx=>?_,I.base.free,fun b o e hx=>?_,I.base.tups,I.base.frzs,I.base.tbls⟩,⟨m,hn.sameBut hs (Ne.symm (cne x c hc)),fun j y v' e1 e2 e3=>?_⟩,fun y c' e=>?_,I.free,I.freeC,fun p hp=>?_,tracked ⟨oc,hoc,I.freeC x c hc⟩ hs,by simpa using I.len⟩ ⟨c,hs,.inr hc⟩
  ·exact(hs.2 b (v5 (v0 (h9 e) (I.ok.cab x c hfn hc)))).trans (I.base.keep b o e n hb hx)
  ·obtain⟨sl,e1⟩:=I.base.slot b o e n hb hx
   exact⟨sl,(hs.2 b (v5 (v0 (h9 e) (I.ok.cab x c hfn hc)))).trans e1⟩
  ·obtain⟨o',e1⟩:=I.base.there b o e hx
   exact⟨o',(hs.2 b (v5 (v0 (h9 e) (I.ok.cab x c hfn hc)))).trans e1⟩
  ·by_cases hj:j=i
   ·subst hj
    rw[hi]at e1;cases e1
    rw[D5 hiσ]at e2
    cases e2
    exact⟨u,r,.inr ⟨.inl hk,c,hc,hc'⟩⟩
   ·rw[C9 (Ne.symm hj)]at e2
    obtain⟨u',r',q⟩:=hl j y v' e1 e2 e3
    refine⟨u',r',?_⟩
    rcases q with q | ⟨k,c',e,z'⟩
    ·exact .inl q
    ·refine .inr ⟨k,c',e,z'.sameBut hs ?_⟩
     rintro rfl
     exact hj (b0l hN e1 (I.ok.inj _ _ _ e hc ▸ hi))
  ·by_cases hcc:c'=c
   ·subst hcc;exact⟨_,hc'⟩
   ·obtain⟨w2,z2⟩:=I.cell y c' e
    exact⟨w2,z2.sameBut hs hcc⟩
  ·obtain⟨e,n,ne,nf,d⟩:=I.pin p hp
   refine⟨(hs.2 p.1 ?_).trans e,n,ne,nf,d⟩
   intro q
   rw[q,hoc]at e
   have q':oc=p.2:=Option.some.inj e
   exact d w' (by rw[<-q'];exact hocd)
theorem a3P{M:Model}{A:D8}{E:Value->c9->Prop}{x:Str}{Q:Unit->c9->Prop}(I:Inv X pins σ H s)(hN:X.N.Nodup)(hi:X.N[i]? = some x)(hx:Loc X.env.scope x)(r:F0 v u)
  (h:∀s',Inv X pins (σ.set i (some v)) H s'->Q () s') (hf:X.fn x=true\/X.env.scope.names.lookup x=some .local:=by first | exact .inl rfl | exact .inr rfl | assumption):wpAny M A (storeName X.env x u) Q E s:=
 b1B I hN hi hx r (fun s' I' _=>h s' I') hf
theorem Inv.call'{s':c9}{ch:List Addr}(I:Inv X pins σ H s)(ho:s'.os=s.os)(u:Un (frs X.stack) ch H H' s.heap s'.heap)(hok:HOk X.prog X.w H' s'.heap)(hg:a9B s'.gens)
  (hch:∀b∈ch,(b∈X.ex\/X.s₀.heap.objs.size<=b)/\b≠X.env.locals/\(∀x c,X.env.cells.lookup x=some c->c≠b)/\∀p∈X.pn++pins,p.1≠b):Inv X pins σ H' s':=by
 obtain⟨h',g',d',t',o'⟩:=s'
 have e:o'=s.os:=ho
 subst e
 exact I.call (g':=g') (t':=t') (d':=d') u hok hg hch
end
abbrev XK:=Value->Option Addr->Hp->Prop
abbrev St:=List (Option V)
variable{σ:St}
abbrev VK:=V->Hp->Prop
abbrev TE:=St->Hp->VK->Prop
variable{t ta te:TE}
abbrev TT:=St->Hp->(Bool->Hp->Prop)->Prop
abbrev TA:=St->Hp->(List V->Hp->Prop)->Prop
structure a8B where
 nx:St->Hp->Prop
 rt:VK
 bk:St->Hp->Prop:=fun _ _=>False
 ct:St->Hp->Prop:=fun _ _=>False
abbrev TS:=a8B->St->Hp->Prop
variable{tb:TS}
def EP(X:Cx)(pins:List (Addr×Obj))(σ:St)(Q:VK)(u:Value)(s':c9):Prop:=∃v H',Inv X pins σ H' s'/\F0 v u/\Q v H'
def TP(X:Cx)(pins:List (Addr×Obj))(σ:St)(Q:Bool->Hp->Prop)(b:Bool)(s':c9):Prop:=∃H',Inv X pins σ H' s'/\Q b H'
def AP(X:Cx)(pins:List (Addr×Obj))(σ:St)(Q:List V->Hp->Prop)(us:List Value)(s':c9):Prop:=∃vs H',Inv X pins σ H' s'/\J2 vs us/\Q vs H'
def SP(X:Cx)(pins:List (Addr×Obj))(D:a8B)(f:Flow)(s':c9):Prop:=
 match f with
 | .next=>∃σ' H',Inv X pins σ' H' s'/\D.nx σ' H'
 | .brk=>∃σ' H',Inv X pins σ' H' s'/\D.bk σ' H'
 | .cont=>∃σ' H',Inv X pins σ' H' s'/\D.ct σ' H'
 | .ret u=>∃v σ' H',Inv X pins σ' H' s'/\F0 v u/\D.rt v H'
def PE(X:Cx)(e:Expr)(t:TE):Prop:=
 ∀(pins:List (Addr×Obj)) (s:c9) (σ:St) (H:Hp) (Q:VK),Inv X pins σ H s->t σ H Q->wpAny (model X.prog X.w) X.A (eval e X.env) (EP X pins σ Q) X.xe s
def PT(X:Cx)(e:Expr)(t:TT):Prop:=
 ∀(pins:List (Addr×Obj)) (s:c9) (σ:St) (H:Hp) (Q:Bool->Hp->Prop),Inv X pins σ H s->t σ H Q->wpAny (model X.prog X.w) X.A (isTrue e X.env (eval e X.env)) (TP X pins σ Q) X.xe s
def PW(X:Cx)(e:Expr)(t:TT):Prop:=
 ∀(whole:Sem Value) (pins:List (Addr×Obj)) (s:c9) (σ:St) (H:Hp) (Q:Bool->Hp->Prop),Inv X pins σ H s->t σ H Q->wpAny (model X.prog X.w) X.A (isTrue e X.env whole) (TP X pins σ Q) X.xe s
theorem PW.pt{t:TT}(h:PW X e t):PT X e t:=h _
def PA(X:Cx)(es:List Expr)(t:TA):Prop:=
 ∀(pos:Pos) (pins:List (Addr×Obj)) (s:c9) (σ:St) (H:Hp) (Q:List V->Hp->Prop),Inv X pins σ H s->t σ H Q->wpAny (model X.prog X.w) X.A (spliced (X9 pos (j5 es X.env))) (AP X pins σ Q) X.xe s
def PS(X:Cx)(st:Stmt)(t:TS):Prop:=
 ∀(pins:List (Addr×Obj)) (s:c9) (σ:St) (H:Hp) (D:a8B),Inv X pins σ H s->t D σ H->wpAny (model X.prog X.w) X.A (exec st X.env) (SP X pins D) X.xe s
def PSs(X:Cx)(st:List Stmt)(t:TS):Prop:=
 ∀(pins:List (Addr×Obj)) (s:c9) (σ:St) (H:Hp) (D:a8B),Inv X pins σ H s->t D σ H->wpAny (model X.prog X.w) X.A (execs st X.env) (SP X pins D) X.xe s
theorem thn{α:Type}{t:Sem α}{Q Q':α->c9->Prop}{M:Model}{A:D8}{E:Value->c9->Prop}(h:wpAny M A t Q E s)(hQ:∀a s,Q a s->Q' a s):wpAny M A t Q' E s:=O8 h hQ fun _ _ x=>x
section
def b8(i:Nat):TE:=fun σ H Q=>∃v,σ[i]? = some (some v)/\Q v H
def tC(v:V):TE:=fun _ H Q=>Q v H
theorem c6p{x:Str}(hN:X.N[i]? = some x)(hv:Vis X.env.scope x)(hd:(x == ("__debug__" : Str))=false:=by decide)(hcd:(x == ("__classdict__" : Str))=false:=by decide):PE X (.Name x pos) (b8 i):=by
 intro pins s σ H Q I h
 obtain⟨v,e,h⟩:=h
 obtain⟨m,hn,hl⟩:=I.loc
 obtain⟨u,r,l⟩:=hl i x v hN e hv
 have fin:EP X pins σ Q u s:=⟨v,H,I,r,h⟩
 rcases l with ⟨hk,hm⟩ | ⟨hk,c,hc,hcell⟩
 ·exact wpAny_Name (wpAny_loadName_local I.ok.kind hk hn hm fin) hd
 ·rcases hk with hk | hk
  ·exact wpAny_Name (wpAny_loadName_cell I.ok.kind hk hc hcell fin) hd
  ·exact wpAny_Name (wpAny_loadName_free I.ok.kind hk hc hcell fin hcd) hd
theorem c6y{i j pos}:PE X (.Constant (.int i) j pos) (tC (.int i)):=fun _ _ _ H _ I h=>wpAny_Constant_int ⟨.int i,H,I.tok _,⟨_,rfl⟩,h⟩
theorem c8v{b j pos}:PE X (.Constant (.bool b) j pos) (tC (.bl b)):=fun _ _ _ H _ I h=>Constant_bool ⟨.bl b,H,I,rfl,h⟩
theorem c6v{j pos}:PE X (.Constant .none j pos) (tC .non):=fun _ _ _ H _ I h=>Constant_none ⟨.non,H,I,rfl,h⟩
theorem c6r{x j pos}:PE X (.Constant (.str x) j pos) (tC (.str x)):=fun _ _ _ H _ I h=>Calls.Constant_str ⟨.str x,H,I.tok _,⟨_,rfl⟩,h⟩
def Gl(X:Cx)(x:Str):Prop:=X.env.kindOf x=some .globalImplicit
theorem a4m{E:Value->c9->Prop}{x:Str}(I:Inv X pins σ H s)(hg:Gl X x)(hm:X.mg x=some u)(h:Q u s)
  (hd:(x == ("__debug__" : Str))=false:=by decide):wpAny (model X.prog X.w) X.A (eval (.Name x pos) X.env) Q E s:=
 Calls.Name_function_global I.ok.kind hg (Calls.loadGlobal_global (by rw[I.ok.glob];exact I.mod.glob.keeps I.bk) hm h) hd
theorem a8q{E:Value->c9->Prop}{x:Str}(I:Inv X pins σ H s)(hg:Gl X x)(hm:X.mg x=none)(hv:a0G x=some u)(h:Q u s)
  (hn:x ≠ "__name__" := by decide) (hd:(x == ("__debug__" : Str))=false:=by decide):wpAny (model X.prog X.w) X.A (eval (.Name x pos) X.env) Q E s:=by
 obtain⟨mb,h1,h2⟩:=I.mod.blt
 exact Calls.Name_function_global I.ok.kind hg (Calls.loadGlobal_builtin (by rw[I.ok.glob];exact I.mod.glob.keeps I.bk) hm (by rw[I.ok.blt];exact h1.keeps I.bk) ((h2 x hn).trans hv) h) hd
theorem c3x{x:Str}(hg:Gl X x)(hm:X.mg x=some u)(r:F0 v u)(hd:(x == ("__debug__" : Str))=false:=by decide):PE X (.Name x pos) (tC v):=
 fun _ _ _ H _ I h=>a4m I hg hm ⟨v,H,I,r,h⟩ hd
theorem c3C{x:Str}(hg:Gl X x)(hm:X.mg x=none)(hv:a0G x=some u)(r:F0 v u)(hn:x ≠ "__name__" := by decide)(hd:(x == ("__debug__" : Str))=false:=by decide):PE X (.Name x pos) (tC v):=
 fun _ _ _ H _ I h=>a8q I hg hm hv ⟨v,H,I,r,h⟩ hn hd
variable {a b:Expr}{tb:TE}
def PC(X:Cx)(op:CmpOp)(a b:Expr)(t:TE):Prop:=
 ∀(pins:List (Addr×Obj)) (s:c9) (σ:St) (H:Hp) (Q:VK),Inv X pins σ H s->t σ H Q ->
  wpAny (model X.prog X.w) X.A (eval a X.env) (fun v s₁=>wpAny (model X.prog X.w) X.A (eval b X.env) (fun u s₂=>wpAny (model X.prog X.w) X.A (z6 op v u) (EP X pins σ Q) X.xe s₂) X.xe s₁) X.xe s
def tB(t:TE):TT:=fun σ H Q=>t σ H fun x H1=>∃c,x=.bl c/\Q c H1
theorem c6A{op:CmpOp}(h:PC X op a b t)(h1:Q5 op b=false:=by first | exact nobehind _ (by decide) (by decide) | rfl):PE X (.Compare a [op] [b] pos) t:=fun pins s σ H Q I hw=>wpAny_Compare1 (h pins s σ H Q I hw) h1
theorem c0Q{op:CmpOp}(h:PC X op a b t)(h1:Q5 op b=false:=by first | exact nobehind _ (by decide) (by decide) | rfl):PT X (.Compare a [op] [b] pos) (tB t):=by
 intro pins s σ H Q I hw
 refine c7N (thn (h pins s σ H _ I hw) fun v s1 h1=>thn h1 fun u s2 h2=>thn h2 fun c s3 ⟨x,H1,I1,r1,q1⟩=>?_) h1
 obtain⟨d,rfl,q⟩:=q1
 cases r1
 exact M8 ⟨H1,I1,q⟩
theorem c6f(h:PE X e t)(he:∀whole,isTrue e X.env whole=(do let v <-whole;b9M e.pos;a3Z [v] (truthy v)):=by intro _;rfl):PT X e (tB t):=by
 intro pins s σ H Q I hw
 refine isTrue_plain (thn (h pins s σ H _ I hw) fun v s1 ⟨x,H1,I1,r1,q1⟩=>?_) (he _)
 obtain⟨d,rfl,q⟩:=q1
 cases r1
 exact M8 ⟨H1,I1,q⟩
variable {tA tB':TT}{rest:List Expr}
def a9R(t u:TT):TT:=fun σ H Q=>t σ H fun c H1=>if c=true then u σ H1 Q else Q false H1
def tOr(t u:TT):TT:=fun σ H Q=>t σ H fun c H1=>if c=true then Q true H1 else u σ H1 Q
def a5g(t:TT):TT:=fun σ H Q=>t σ H fun c H1=>Q (!c) H1
theorem c3f(ha:PT X a tA):PW X (.BoolOp .And [a] pos) tA:=by
 intro wh pins s σ H Q I h
 refine isTrue_and (thn (ha pins s σ H Q I h) fun c s1 e=>?_)
 cases c with
 | true=>exact isTrue_and_nil e
 | false=>exact e
theorem c6d(ha:PT X a tA):PW X (.BoolOp .Or [a] pos) tA:=by
 intro wh pins s σ H Q I h
 refine isTrue_or (thn (ha pins s σ H Q I h) fun c s1 e=>?_)
 cases c with
 | false=>exact isTrue_or_nil e
 | true=>exact e
theorem c6e(ha:PT X a tA)(hb:PW X (.BoolOp .And (b::rest) pos) tB'):PW X (.BoolOp .And (a::b::rest) pos) (a9R tA tB'):=by
 intro wh pins s σ H Q I h
 refine isTrue_and (thn (ha pins s σ H _ I h) fun c s1 ⟨H1,I1,q1⟩=>?_)
 cases c with
 | true=>exact hb wh pins s1 σ H1 Q I1 q1
 | false=>exact⟨H1,I1,q1⟩
theorem c8o(ha:PT X a tA)(hb:PW X (.BoolOp .Or (b::rest) pos) tB'):PW X (.BoolOp .Or (a::b::rest) pos) (tOr tA tB'):=by
 intro wh pins s σ H Q I h
 refine isTrue_or (thn (ha pins s σ H _ I h) fun c s1 ⟨H1,I1,q1⟩=>?_)
 cases c with
 | true=>exact⟨H1,I1,q1⟩
 | false=>exact hb wh pins s1 σ H1 Q I1 q1
theorem c6g(ha:PT X a tA):PT X (.UnaryOp .Not a pos) (a5g tA):=by
 intro pins s σ H Q I h
 exact isTrue_not (ha pins s σ H (fun c H1=>Q (!c) H1) I h)
def a1n(ta tb:TE):TE:=fun σ H Q=>ta σ H fun x H1=>∃c,x=.bl c/\if c=true then tb σ H1 Q else Q (.bl false) H1
def c2N(ta tb:TE):TE:=fun σ H Q=>ta σ H fun x H1=>∃c,x=.bl c/\if c=true then Q (.bl true) H1 else tb σ H1 Q
def b1A(ta:TE):TE:=fun σ H Q=>ta σ H fun x H1=>∃c,x=.bl c/\Q (.bl (!c)) H1
theorem c6t{op}(h:PE X a t):PE X (.BoolOp op [a] pos) t:=fun pins s σ H Q I hw=>BoolOp_one (h pins s σ H Q I hw)
theorem c6C(ha:PE X a ta)(hb:PE X (.BoolOp .And (b::rest) pos) tb):PE X (.BoolOp .And (a::b::rest) pos) (a1n ta tb):=by
 intro pins s σ H Q I h
 refine BoolOp_and (thn (ha pins s σ H _ I h) fun v s1 ⟨x,H1,I1,r1,q1⟩=>?_)
 obtain⟨c,rfl,q1⟩:=q1
 cases r1
 refine M8 ?_
 cases c with
 | true=>exact hb pins s1 σ H1 Q I1 q1
 | false=>exact⟨.bl false,H1,I1,rfl,q1⟩
theorem c8r(ha:PE X a ta)(hb:PE X (.BoolOp .Or (b::rest) pos) tb):PE X (.BoolOp .Or (a::b::rest) pos) (c2N ta tb):=by
 intro pins s σ H Q I h
 refine BoolOp_or (thn (ha pins s σ H _ I h) fun v s1 ⟨x,H1,I1,r1,q1⟩=>?_)
 obtain⟨c,rfl,q1⟩:=q1
 cases r1
 refine M8 ?_
 cases c with
 | false=>exact hb pins s1 σ H1 Q I1 q1
 | true=>exact⟨.bl true,H1,I1,rfl,q1⟩
theorem c6u(ha:PE X a ta):PE X (.UnaryOp .Not a pos) (b1A ta):=by
 intro pins s σ H Q I h
 refine UnaryOp_ (thn (ha pins s σ H _ I h) fun v s1 ⟨x,H1,I1,r1,q1⟩=>?_)
 obtain⟨c,rfl,q1⟩:=q1
 cases r1
 exact not_of (M8 ⟨.bl (!c),H1,I1,rfl,q1⟩)
def tIf(t:TT)(ta tb:TE):TE:=fun σ H Q=>t σ H fun c H1=>if c=true then ta σ H1 Q else tb σ H1 Q
theorem c1a(hc:PT X c tA)(ha:PE X a ta)(hb:PE X b tb):PE X (.IfExp c a b pos) (tIf tA ta tb):=by
 intro pins s σ H Q I h
 refine wpAny_IfExp (thn (hc pins s σ H _ I h) fun d s1 ⟨H1,I1,q1⟩=>?_)
 cases d with
 | true=>exact ha pins s1 σ H1 Q I1 q1
 | false=>exact hb pins s1 σ H1 Q I1 q1
end
def SqL(K:Fg)(H:Hp)(a:Addr)(xs:List V):Prop:=
 Rd H a (.lst xs) \/
  ∃(o:Obj) (its:Array Value) (n:Nat),K.lookup a=some o/\o.cls=.type "list" /\ o.dict=none/\o.data=.seq its n/\its.size<=t6/\J2 xs its.toList
def SqT(K:Fg)(H:Hp)(a:Addr)(xs:List V):Prop:=
 Rd H a (.tup xs) \/
  ∃(o:Obj) (its:Array Value) (n:Nat),K.lookup a=some o/\o.cls=.type "tuple" /\ o.data=.seq its n/\its.size<=t6/\J2 xs its.toList
def c9v:Value->Option V
 | .none=>some .non
 | .bool b=>some (.bl b)
 | .int i _=>some (.int i)
 | .str x _=>some (.str x)
 | .bytes b _=>some (.byt b)
 | .float b _=>some (.flt b)
 | .ref a=>some (.ref a)
 | .type n=>some (.ty n)
 | _=>none
theorem F0.abs{x:V}(r:F0 x u):c9v u=some x:=by
 cases x with
 | non=>cases r;rfl
 | bl _=>cases r;rfl
 | int _=>obtain⟨t,rfl⟩:=r;rfl
 | str _=>obtain⟨t,rfl⟩:=r;rfl
 | byt _=>obtain⟨t,rfl⟩:=r;rfl
 | flt _=>obtain⟨t,rfl⟩:=r;rfl
 | ref _=>cases r;rfl
 | ty _=>cases r;rfl
theorem F0.inj{x:V}(r:F0 x u)(q:F0 y u):x=y:=Option.some.inj (r.abs.symm.trans q.abs)
theorem J2.inj:∀ {xs ys:List V} {us:List Value},J2 xs us->J2 ys us->xs=ys
 | _,_,_,.nil,.nil=>rfl
 | _,_,_,.cons r t,.cons r' t'=>by rw[r.inj r',J2.inj t t']
section
variable {ys:List V}
theorem SqL.of{K:Fg}(h:H a=some (.lst xs)):SqL K H a xs:=.inl (.inl h)
theorem SqT.of{K:Fg}(h:H a=some (.tup xs)):SqT K H a xs:=.inl (.inl h)
theorem Inv.list(I:Inv X pins σ H s)(h:SqL X.K H a xs):∃its:List Value,J2 xs its/\PlainL s.heap a its.toArray/\xs.length<=t6:=by
 rcases h with h | ⟨o,its,n,hk,hc,hd,hs,hz,r⟩
 ·obtain⟨z,its,n,r,e⟩:=h.ok I.hok
  exact⟨its,r,⟨_,n,e,rfl,rfl,rfl⟩,z⟩
 ·refine⟨its.toList,r,⟨o,n,I.kIn a o hk,hc,hd,by simpa using hs⟩,?_⟩
  have e:=r.length
  simp only[a1i]at e
  omega
theorem Inv.tuple(I:Inv X pins σ H s)(h:SqT X.K H a xs):∃its:List Value,J2 xs its/\IsTup s.heap a its.toArray/\xs.length<=t6:=by
 rcases h with h | ⟨o,its,n,hk,hc,hs,hz,r⟩
 ·obtain⟨z,its,r,p⟩:=h.ok I.hok
  exact⟨its,r,p,z⟩
 ·refine⟨its.toList,r,⟨o,I.kIn a o hk,hc,n,by simpa using hs⟩,?_⟩
  have e:=r.length
  simp only[a1i]at e
  omega
theorem Inv.list_inj(I:Inv X pins σ H s)(h:SqL X.K H a xs)(h':SqL X.K H a ys):xs=ys:=by
 obtain⟨its,r,⟨o,n,e,_,_,d⟩,_⟩:=I.list h
 obtain⟨its',r',⟨o',n',e',_,_,d'⟩,_⟩:=I.list h'
 rw[e]at e';cases e'
 rw[d]at d'
 injection d' with d1 _
 have:its=its':=by simpa using congrArg Array.toList d1
 subst this
 exact r.inj r'
end
abbrev Cx.wish(X:Cx)(E:Value->c9->Prop):Cx:={ X with xe:=E }
abbrev Cx.nox(X:Cx):Cx:=X.wish fun _ _=>False
theorem Cx.Ok.wish(ok:X.Ok)(E:Value->c9->Prop):(X.wish E).Ok:=
 ⟨ok.mod,ok.kind,ok.glob,ok.blt,ok.above,ok.inj,ok.has,ok.cab,ok.hd,ok.frames,ok.stk,ok.exf,ok.bs,ok.bsz,ok.noex,ok.exfs,ok.funs,ok.frf⟩
theorem Cx.Ok.unwish{E:Value->c9->Prop}(ok:(X.wish E).Ok):X.Ok:=
 ⟨ok.mod,ok.kind,ok.glob,ok.blt,ok.above,ok.inj,ok.has,ok.cab,ok.hd,ok.frames,ok.stk,ok.exf,ok.bs,ok.bsz,ok.noex,ok.exfs,ok.funs,ok.frf⟩
section
variable {E:Value->c9->Prop}
theorem Inv.wish(I:Inv X pins σ H s)(E:Value->c9->Prop):Inv (X.wish E) pins σ H s:=⟨I.ok.wish E,I.os,I.bare,I.base,I.loc,I.cell,I.free,I.freeC,I.pin,I.hok,I.len⟩
theorem Inv.unwish(I:Inv (X.wish E) pins σ H s):Inv X pins σ H s:=⟨I.ok.unwish,I.os,I.bare,I.base,I.loc,I.cell,I.free,I.freeC,I.pin,I.hok,I.len⟩
theorem SP.unwish{D:a8B}{f:Flow}{s':c9}(h:SP (X.wish E) pins D f s'):SP X pins D f s':=by
 cases f with
 | next=>obtain⟨σ',H',I,q⟩:=h;exact⟨σ',H',I.unwish,q⟩
 | brk=>obtain⟨σ',H',I,q⟩:=h;exact⟨σ',H',I.unwish,q⟩
 | cont=>obtain⟨σ',H',I,q⟩:=h;exact⟨σ',H',I.unwish,q⟩
 | ret u=>obtain⟨v,σ',H',I,r,q⟩:=h;exact⟨v,σ',H',I.unwish,r,q⟩
theorem PSs.nox{st:List Stmt}{t:TS}(h:PSs X.nox st t):PSs X st t:=fun pins s σ H D I hw=>
 O8 (h pins s σ H D (I.wish _) hw) (fun _ _ q=>q.unwish) fun _ _ z=>False.elim z
end
section
variable {st:Stmt}{rest:List Stmt}{t u:TS}
def E3:TS:=fun D σ H=>D.nx σ H
def z7(t u:TS):TS:=fun D σ H=>t { D with nx:=u D } σ H
theorem c3k:PSs X [] E3:=fun _ _ σ H _ I h=>a4W ⟨σ,H,I,h⟩
theorem c0S(h1:PS X st t)(h2:PSs X rest u):PSs X (st::rest) (z7 t u):=by
 intro pins s σ H D I h
 refine wpAny_execs_cons (thn (h1 pins s σ H { D with nx:=u D } I h) fun f s1 q=>?_)
 cases f with
 | next=>
  obtain⟨σ',H',I',q⟩:=q
  exact h2 pins s1 σ' H' D I' q
 | ret v=>exact q
 | brk=>exact q
 | cont=>exact q
theorem c3j(h1:PS X st t):PSs X [st] t:=by
 intro pins s σ H D I h
 refine wpAny_execs_cons (thn (h1 pins s σ H D I h) fun f s1 q=>?_)
 cases f with
 | next=>exact a4W q
 | ret v=>exact q
 | brk=>exact q
 | cont=>exact q
theorem Inv.quiet(I:Inv X pins σ H s):interactive X.env=false:=by simp[interactive,I.ok.kind]
def a0H(te:TE):TS:=fun D σ H=>te σ H fun _ H1=>D.nx σ H1
theorem c3n(he:PE X e te)(hs:a1w e none pos.line X.env=pure false:=by rfl):PS X (.Expr e pos) (a0H te):=by
 intro pins s σ H D I h
 exact wpAny_Expr_any (thn (he pins s σ H _ I h) fun v s1 ⟨x,H1,I1,r1,q1⟩=>⟨σ,H1,I1,q1⟩) I.quiet hs
def M5(te:TE):TS:=fun D σ H=>te σ H D.rt
theorem c6i(he:PE X e te):PS X (.Return (some e) pos) (M5 te):=by
 intro pins s σ H D I h
 exact wpAny_Return_some (thn (he pins s σ H _ I h) fun v s1 ⟨x,H1,I1,r1,q1⟩=>⟨x,σ,H1,I1,r1,q1⟩)
def K7(c:TT)(t u:TS):TS:=fun D σ H=>c σ H fun b H1=>if b=true then t D σ H1 else u D σ H1
theorem c8p{a b:List Stmt}{tc:TT}(hc:PT X c tc)(ha:PSs X a t)(hb:PSs X b u):PS X (.If c a b pos) (K7 tc t u):=by
 intro pins s σ H D I h
 refine wpAny_If (thn (hc pins s σ H _ I h) fun d s1 ⟨H1,I1,q1⟩=>?_)
 cases d with
 | true=>exact ha pins s1 σ H1 D I1 q1
 | false=>exact hb pins s1 σ H1 D I1 q1
def b5F:TS:=fun _ _ _=>False
theorem b8D{sts:List Stmt}:PSs X sts b5F:=fun _ _ _ _ _ _ h=>h.elim
end
abbrev TG:=V->St->Hp->(St->Hp->Prop)->Prop
variable{g:TG}
abbrev TGs:=List V->St->Hp->(St->Hp->Prop)->Prop
def PG(X:Cx)(target:Expr)(t:TG):Prop:=
 ∀(pins:List (Addr×Obj)) (s:c9) (σ:St) (H:Hp) (v:V) (u:Value) (Q:St->Hp->Prop),Inv X pins σ H s->F0 v u->t v σ H Q ->
  wpAny (model X.prog X.w) X.A (b1o target X.env u) (fun _ s'=>∃σ' H',Inv X pins σ' H' s'/\Q σ' H') X.xe s
def PGs(X:Cx)(ts:List Expr)(t:TGs):Prop:=
 ∀(pins:List (Addr×Obj)) (s:c9) (σ:St) (H:Hp) (vs:List V) (us:List Value) (Q:St->Hp->Prop),Inv X pins σ H s->J2 vs us->t vs σ H Q ->
  wpAny (model X.prog X.w) X.A (assignInOrder ((a1Q ts X.env).map (·.2)) us) (fun _ s'=>∃σ' H',Inv X pins σ' H' s'/\Q σ' H') X.xe s
abbrev b1h:=V->V->V->Hp->(Hp->Prop)->Prop
def c2m(X:Cx)(t:b1h):Prop:=
 ∀(pins:List (Addr×Obj)) (s:c9) (σ:St) (H:Hp) (o i v:V) (ov iv u:Value) (Q:Hp->Prop),Inv X pins σ H s->F0 o ov->F0 i iv->F0 v u->t o i v H Q ->
  wpAny (model X.prog X.w) X.A (c5y ov iv u) (fun _ s'=>∃H',Inv X pins σ H' s'/\Q H') X.xe s
abbrev TIp:=V->V->Hp->VK->Prop
def PIp(X:Cx)(op:b9G)(t:TIp):Prop:=
 ∀(pins:List (Addr×Obj)) (s:c9) (σ:St) (H:Hp) (x y:V) (v u:Value) (Q:VK),Inv X pins σ H s->F0 x v->F0 y u->t x y H Q ->
  wpAny (model X.prog X.w) X.A (inplaceOp op v u) (EP X pins σ Q) X.xe s
section
def u4(i:Nat):TG:=fun v σ H Q=>Q (σ.set i (some v)) H
theorem b2J{x:Str}(hN:X.N.Nodup)(hi:X.N[i]? = some x)(hx:Loc X.env.scope x)(hf:X.fn x=true\/X.env.scope.names.lookup x=some .local:=by first | exact .inl rfl | exact .inr rfl | assumption):PG X (.Name x pos) (u4 i):=by
 intro pins s σ H v u Q I r h
 exact a6U (a3P I hN hi hx r (fun s' I'=>⟨_,H,I',h⟩) hf)
def a9h:TGs:=fun vs σ H Q=>vs=[]/\Q σ H
def a0I(t:TG)(u:TGs):TGs:=fun vs σ H Q=>∃v r,vs=v::r/\t v σ H fun σ' H'=>u r σ' H' Q
theorem b7B:PGs X [] a9h:=by
 intro pins s σ H vs us Q I r h
 obtain⟨e,h⟩:=h
 subst e
 cases r
 exact assignInOrder_nil ⟨σ,H,I,h⟩
theorem b0d{t:TG}{u:TGs}(h1:PG X e t)(h2:PGs X es u)
  (hs:(a1Q (e::es) X.env).map (·.2)=b1o e X.env::(a1Q es X.env).map (·.2):=by rfl):PGs X (e::es) (a0I t u):=by
 intro pins s σ H vs us Q I r h
 obtain⟨v,vr,e1,h⟩:=h
 subst e1
 cases r with
 | cons r rr=>
  rw[hs]
  refine assignInOrder_cons (thn (h1 pins s σ H _ _ _ I r h) fun _ s1 ⟨σ1,H1,I1,q1⟩=>?_)
  exact h2 pins s1 σ1 H1 _ _ Q I1 rr q1
def a9f(K:Fg)(n:Nat)(t:TGs):TG:=fun v σ H Q=>∃a xs,v=.ref a/\SqT K H a xs/\xs.length=n/\t xs σ H Q
theorem c0X{k:Nat}{t:TGs}{n:Nat}(hc:X.calm=true)(h:PGs X es t)
  (hn:(a1Q es X.env).length=n:=by rfl) (hst:(a1Q es X.env).findIdx? (·.1)=none:=by rfl):PG X (.Tuple es k pos) (a9f X.K n t):=by
 intro pins s σ H v u Q I r hw
 obtain⟨a,xs,e1,hq,hl,hw⟩:=hw
 subst e1
 cases r
 obtain⟨its,rv,ht,hz⟩:=I.tuple hq
 refine assign_Tuple_tuple (I.ok.hd hc) ht (by simp[hn,<-hl,rv.length]) hst fun h' hx=>?_
 have I1:Inv X pins σ H { s with heap:=h' }:=I.kept (t':=s.toks) fun b o e=>hx b o (v5 (h9 e)) e
 exact h pins _ σ H xs _ Q I1 (by simpa using rv) hw
def a9g(to ti:TE)(t:b1h):TG:=fun v σ H Q=>to σ H fun o H1=>ti σ H1 fun i H2=>t o i v H2 fun H3=>Q σ H3
theorem c6o{o i:Expr}{to ti:TE}{t:b1h}(ho:PE X o to)(hi:PE X i ti)(hs:c2m X t)
  (ha:∀v,b1o (.Subscript o i pos) X.env v=(do
   let ov <-a3Z [v] (eval o X.env)
   let iv <-a3Z [v,ov] (eval i X.env)
   b9M pos
   a3Z [v,ov,iv] (c5y ov iv v)
   release [v,ov,iv] []):=by intro _;rfl):PG X (.Subscript o i pos) (a9g to ti t):=by
 intro pins s σ H v u Q I r h
 rw[ha]
 refine c7 (W9 (thn (ho pins s σ H _ I h) fun ov s1 ⟨x,H1,I1,r1,q1⟩=>?_))
 refine c7 (W9 (thn (hi pins s1 σ H1 _ I1 q1) fun iv s2 ⟨y,H2,I2,r2,q2⟩=>?_))
 refine c7 (a7V (c7 (W9 (thn (hs pins s2 σ H2 x y v ov iv u _ I2 r1 r2 r q2) fun _ s3 ⟨H3,I3,q3⟩=>?_))))
 exact wpAny_release ⟨σ,H3,I3,q3⟩
def E5(te:TE)(g:TG):TS:=fun D σ H=>te σ H fun x H1=>g x σ H1 D.nx
theorem c6l(he:PE X e te)(hg:PG X tg g)(hs:swapsWithSole [tg] e pos.line X.env=pure false:=by rfl)(hw:swappedStores [tg] e X.env=pure none:=by rfl)
  (h1:(a1Q [tg] X.env).map (·.2)=[b1o tg X.env]:=by rfl):PS X (.Assign [tg] e pos) (E5 te g):=by
 intro pins s σ H D I h
 refine wpAny_Assign_stores (thn (he pins s σ H _ I h) fun v s1 ⟨x,H1,I1,r1,q1⟩=>?_) hs hw
 rw[h1]
 exact thn (hg pins s1 σ H1 x v _ I1 r1 q1) fun _ s2 q=>q
theorem c6h{x:Str}{pos':Pos}(hN:X.N.Nodup)(hi:X.N[i]? = some x)(hx:Loc X.env.scope x)(he:PE X e te)(hs:a1w e (some (.Name x pos')) pos.line X.env=pure false:=by rfl)(hf:X.fn x=true\/X.env.scope.names.lookup x=some .local:=by first | exact .inl rfl | exact .inr rfl | assumption) :
  PS X (.Assign [.Name x pos'] e pos) (E5 te (u4 i)):=by
 intro pins s σ H D I h
 refine wpAny_Assign_Name (thn (he pins s σ H _ I h) fun v s1 ⟨y,H1,I1,r1,q1⟩=>?_) hs
 exact a3P I1 hN hi hx r1 (fun s2 I2=>⟨_,H1,I2,q1⟩) hf
def b7n(to ti te:TE)(tget:V->V->Hp->VK->Prop)(tip:TIp)(tset:b1h):TS:=fun D σ H=>to σ H fun o H1=>ti σ H1 fun i H2=>tget o i H2 fun x H3=>te σ H3 fun y H4=>tip x y H4 fun z H5=>tset o i z H5 fun H6=>D.nx σ H6
def c7A(X:Cx)(t:V->V->Hp->VK->Prop):Prop:=
 ∀(pins:List (Addr×Obj)) (s:c9) (σ:St) (H:Hp) (o i:V) (ov iv:Value) (Q:VK),Inv X pins σ H s->F0 o ov->F0 i iv->t o i H Q ->
  wpAny (model X.prog X.w) X.A (c5z ov iv) (EP X pins σ Q) X.xe s
theorem c3p{o i:Expr}{to ti:TE}{tget:V->V->Hp->VK->Prop}{tip:TIp}{tset:b1h}{op:b9G}{tpos:Pos}(ho:PE X o to)(hi:PE X i ti)(hg:c7A X tget)(he:PE X e te)(hp:PIp X op tip)(hs:c2m X tset)
  (ha:∀ov iv new,augStore i ov iv new=(do a3Z [new,ov,iv] (c5y ov iv new);release [new,ov,iv] [];pure .next):=by intros;rfl):PS X (.AugAssign (.Subscript o i tpos) op e pos) (b7n to ti te tget tip tset):=by
 intro pins s σ H D I h
 refine wpAny_AugAssign_SubscriptAny (thn (ho pins s σ H _ I h) fun ov s1 ⟨x1,H1,I1,r1,q1⟩=>?_) ha
 refine thn (hi pins s1 σ H1 _ I1 q1) fun iv s2 ⟨x2,H2,I2,r2,q2⟩=>?_
 refine thn (hg pins s2 σ H2 x1 x2 ov iv _ I2 r1 r2 q2) fun old s3 ⟨x3,H3,I3,r3,q3⟩=>?_
 refine thn (he pins s3 σ H3 _ I3 q3) fun v s4 ⟨x4,H4,I4,r4,q4⟩=>?_
 refine thn (hp pins s4 σ H4 x3 x4 old v _ I4 r3 r4 q4) fun new s5 ⟨x5,H5,I5,r5,q5⟩=>?_
 exact thn (hs pins s5 σ H5 x1 x2 x5 ov iv new _ I5 r1 r2 r5 q5) fun _ s6 ⟨H6,I6,q6⟩=>⟨σ,H6,I6,q6⟩
def ipI(f:Int->Int->Int):TIp:=fun x y H Q=>∃i j,x=.int i/\y=.int j/\Q (.int (f i j)) H
theorem c7q:PIp X .Add (ipI fun i j=>i+j):=by
 intro pins s σ H x y v u Q I r1 r2 h
 obtain⟨i,j,e1,e2,q⟩:=h
 subst e1;subst e2
 obtain⟨t,rfl⟩:=r1
 obtain⟨t',rfl⟩:=r2
 exact iadd_int ⟨.int _,H,I.tok _,⟨_,rfl⟩,q⟩
end
section
def b2m(c:TT)(tb:TS):TS:=fun D σ H=>∃W:Nat->St->Hp->Prop,(∃m,W m σ H)/\∀m σ H,W m σ H ->
 c σ H fun b H1=>if b=true then ∃N:St->Hp->Prop,(∀σ' H',N σ' H'->∃m',m'<m/\W m' σ' H')/\tb { D with nx:=N,ct:=N,bk:=D.nx } σ H1 else D.nx σ H1
theorem c0T{body:List Stmt}{tc:TT}(hp:c7R (model X.prog X.w) X.A X.env X.xe)(hc:PT X c tc)(hb:PSs X body tb):PS X (.While c body [] pos) (b2m tc tb):=by
 intro pins s σ H D I h
 obtain⟨W,⟨m0,w0⟩,turn⟩:=h
 refine wpAny_While (codeAny_whileLoop (fun n s'=>∃σ' H',Inv X pins σ' H' s'/\W n σ' H') ?_ m0 ⟨σ,H,I,w0⟩)
 rintro n s1 ⟨σ1,H1,I1,w1⟩
 refine a1v hp (thn (hc pins s1 σ1 H1 _ I1 (turn n σ1 H1 w1)) fun b s2 ⟨H2,I2,q2⟩=>?_)
 cases b with
 | true=>
  obtain⟨N,hN,q2⟩:=q2
  rw[if_pos rfl]
  refine a1v hp (thn (hb pins s2 σ1 H2 _ I2 q2) fun f s3 q3=>?_)
  cases f with
  | next=>
   obtain⟨σ3,H3,I3,n3⟩:=q3
   obtain⟨m',hm,w3⟩:=hN σ3 H3 n3
   exact⟨m',hm,σ3,H3,I3,w3⟩
  | cont=>
   obtain⟨σ3,H3,I3,n3⟩:=q3
   obtain⟨m',hm,w3⟩:=hN σ3 H3 n3
   exact⟨m',hm,σ3,H3,I3,w3⟩
  | brk=>exact q3
  | ret v=>exact q3
 | false=>
  rw[if_neg u0]
  exact a4W ⟨σ1,H2,I2,q2⟩
end
structure It where
 go:Nat->Hp->Prop
 yld:Nat->Hp->V->Hp->Prop
 stop:Nat->Hp->Prop
def a0E(X:Cx)(pins:List (Addr×Obj))(H:Hp)(b:Addr):Prop:=
 H b=none/\b≠X.env.locals/\b∉X.fs/\(b∈X.ex\/X.s₀.heap.objs.size<=b)/\(∀x c,X.env.cells.lookup x=some c->c≠b)/\∀p∈X.pn++pins,p.1≠b
theorem Inv.fpOk(I:Inv X pins σ H s)(hb:s.heap.objs.size<=b)(hn:H' b=none):a0E X pins H' b:=by
 refine⟨hn,a3I (v0 I.lt hb),I.nofs hb,.inr (F3 I.sz hb),fun x c e z=>?_,fun p hp z=>?_⟩
 ·obtain⟨v,q⟩:=I.cell x c e
  exact absurd (v0 q.lt (by rw[z];exact hb)) (D4 _)
 ·exact absurd (v0 (h9 (I.pin p hp).1) (by rw[z];exact hb)) (D4 _)
structure b5m(P:w4)(w:World)(K:Fg)(tg:Expr)(J:It)(fp:List Addr)(it:Addr)(tn:Nat->Heap->Prop):Prop where
 mem:it∈fp
 obj:∀i h,tn i h->∀b∈fp,∃o,h.get? b=some o/\∀v,o.data≠.cell v
 keep:∀i h h',tn i h->(∀b∈fp,∀o,h.get? b=some o->h'.get? b=some o)->tn i h'
 item:∀(X:Cx),X.prog=P->X.w=w->X.K=K->X.calm=true->∀(i:Nat) (pins:List (Addr×Obj)) (s:c9) (σ:St) (H:Hp) (E:Value->c9->Prop),Inv X pins σ H s->(∀b∈fp,a0E X pins H b)->tn i s.heap->J.go i H ->
  wpAny (model P w) X.A (c7P (.ref it)) (fun r s1=>∃u,r=some u /\
   wpAny (model P w) X.A (a2P tg (.ref it) u) (fun _ s2=>∃x H',Inv X pins σ H' s2/\F0 x u/\J.yld i H x H'/\tn (i+1) s2.heap/\∀b∈fp,H' b=none) E s1) E s
 done:∀(X:Cx),X.prog=P->X.w=w->X.K=K->X.calm=true->∀(i:Nat) (pins:List (Addr×Obj)) (s:c9) (σ:St) (H:Hp) (E:Value->c9->Prop),Inv X pins σ H s->(∀b∈fp,a0E X pins H b)->tn i s.heap->J.stop i H ->
  wpAny (model P w) X.A (c7P (.ref it)) (fun r s1=>r=none/\Inv X pins σ H s1) E s
 self:∀(A:D8) (i:Nat) (s:c9) (Q:Value->c9->Prop) (E:Value->c9->Prop),tn i s.heap->Q (.ref it) s->wpAny (model P w) A (pyIter (.ref it)) Q E s
abbrev TI:=St->Hp->(It->Hp->Prop)->Prop
def PIE(X:Cx)(pins:List (Addr×Obj))(σ:St)(tg:Expr)(R:It->Hp->Prop)(itv:Value)(s2:c9):Prop:=
 ∃(it:Addr) (fp:List Addr) (tn:Nat->Heap->Prop) (J:It) (H':Hp),itv=.ref it/\Inv X pins σ H' s2/\b5m X.prog X.w X.K tg J fp it tn/\tn 0 s2.heap/\(∀b∈fp,a0E X pins H' b)/\R J H'
def PI(X:Cx)(tg iter:Expr)(wi:TI):Prop:=
 ∀(pins:List (Addr×Obj)) (s:c9) (σ:St) (H:Hp) (R:It->Hp->Prop),Inv X pins σ H s->wi σ H R ->
  wpAny (model X.prog X.w) X.A (eval iter X.env) (fun v s1=>wpAny (model X.prog X.w) X.A (pyIter v) (PIE X pins σ tg R) X.xe s1) X.xe s
theorem b7J{M:Model}{A:D8}{E:Value->c9->Prop}{it:Addr}{o:Obj}{n:String}{vs:Array Value}{Q:Unit->c9->Prop}(ho:s.heap.get? it=some o)(hc:o.cls=.type n)(hd:o.data=.fields vs)
  (hn:["enumerate","zip","dict_itemiterator","dict_reverseitemiterator","odict_iterator","itertools.zip_longest","itertools.pairwise"].contains n=false) (hQ:Q () s):wpAny M A (a2P tg (.ref it) u) Q E s:=by
 unfold a2P
 cases tg <;> first
  | exact y9 hQ
  | (cases u <;> first
    | exact y9 hQ
    | (refine c7 (wpAny_load ho ?_)
       rw[hc,hd]
       show wpAny M A (if(["enumerate","zip","dict_itemiterator","dict_reverseitemiterator","odict_iterator","itertools.zip_longest","itertools.pairwise"].contains n&&vs[0]? == some (rawInt _))=true then _ else _) Q E s
       rw[if_neg (by intro h;rw[hn,c7L]at h;cases h)]
       exact y9 hQ))
def Itl(K:Fg)(a:Addr):It:=
 ⟨fun i H=>∃xs x,SqL K H a xs/\xs[i]? = some x,fun i H x H'=>H'=H/\∀xs,SqL K H a xs->xs[i]? = some x,fun i H=>∃xs,SqL K H a xs/\xs.length<=i⟩
def Itr(lo:Int)(n:Nat):It:=⟨fun i _=>i<n,fun i H x H'=>H'=H/\x=.int (lo+i),fun i _=>n<=i⟩
theorem b1x{P:w4}{K:Fg}(a it:Addr):b5m P w K tg (Itl K a) [it] it (fun i h=>h.IsListIter it a i) where
 mem:=by simp
 obj:=fun i h st b hb=>by
  have e:b=it:=by simpa using hb
  subst e
  obtain⟨o,e,c,d⟩:=st
  exact⟨o,e,fun v z=>by rw[d]at z;cases z⟩
 keep:=fun i h h' st k=>st.at fun o e=>k it (by simp) o e
 item:=by
  intro X hP hw hK hc i pins s σ H E I hf st hg
  subst hP hw hK
  obtain⟨xs,x,hq,hx⟩:=hg
  obtain⟨its,rv,p,hz⟩:=I.list hq
  obtain⟨u,hu,ru⟩:=rv.get hx
  obtain⟨f0,f1,f2,f3,f4,f5⟩:=hf it (by simp)
  refine a8X st p.isList (x:=u) (by simpa using hu) fun h' st' sb=>?_
  have I1:Inv X pins σ H { s with heap:=h' }:=I.turned (t':=s.toks) (fun b o hb e=>(sb.2 b hb).trans e) f0 f1 f3 f4 f5
  obtain⟨o,e,c,d⟩:=id st'
  exact⟨u,rfl,b7J (s:={ s with heap:=h' }) e c d (by decide) ⟨x,H,I1,ru,⟨rfl,fun ys hy=>by rw[I.list_inj hy hq];exact hx⟩,st',fun b hb=>(hf b hb).1⟩⟩
 done:=by
  intro X hP hw hK hc i pins s σ H E I hf st hg
  subst hP hw hK
  obtain⟨xs,hq,hx⟩:=hg
  obtain⟨its,rv,p,hz⟩:=I.list hq
  obtain⟨f0,f1,f2,f3,f4,f5⟩:=hf it (by simp)
  have hl:=rv.length
  exact wpAny_pyNext_list_end (I.ok.hd hc) st p.isList (by simp;omega) fun h' eb=>⟨rfl,I.turned (t':=s.toks) (fun b o hb e=>eb b o hb e) f0 f1 f3 f4 f5⟩
 self:=fun _ _ _ _ _ st h=>wpAny_pyIter_listiter st h
theorem b5D{P:w4}{K:Fg}(it:Addr)(lo:Int)(n:Nat):b5m P w K tg (Itr lo n) [it] it (fun i h=>IsRangeIter h it (lo+(i:Nat) * 1) ((n:Int) - (i:Nat)) 1) where
 mem:=by simp
 obj:=fun i h st b hb=>by
  have e:b=it:=by simpa using hb
  subst e
  exact⟨_,st,fun v z=>by
   have z':Data.fields _=Data.cell v:=z
   cases z'⟩
 keep:=fun i h h' st k=>k it (by simp) _ st
 item:=by
  intro X hP hw hK hc i pins s σ H E I hf st hg
  subst hP hw hK
  obtain⟨f0,f1,f2,f3,f4,f5⟩:=hf it (by simp)
  have W:=Walks.range (prog:=X.prog) (w:=X.w) (I.ok.hd hc) it lo 1 n
  refine W.item i s _ _ hg st fun v h' tk hv st' kk=>?_
  obtain⟨t,rfl⟩:=hv
  have I1:Inv X pins σ H { s with heap:=h',toks:=tk }:=I.turned (fun b o hb e=>kk b o (by simpa using hb) e) f0 f1 f3 f4 f5
  refine⟨_,rfl,b7J (s:={ s with heap:=h',toks:=tk }) (n := "range_iterator") st' rfl rfl (by decide) ⟨.int (lo+i),H,I1,⟨t,?_⟩,⟨rfl,rfl⟩,st',fun b hb=>(hf b hb).1⟩⟩
  rw[Int.mul_one]
 done:=by
  intro X hP hw hK hc i pins s σ H E I hf st hg
  subst hP hw hK
  obtain⟨f0,f1,f2,f3,f4,f5⟩:=hf it (by simp)
  exact wpAny_pyNext_range_end (I.ok.hd hc) st (by have:n<=i:=hg;omega) fun h' eb=>⟨rfl,I.turned (t':=s.toks) (fun b o hb e=>eb b o hb e) f0 f1 f3 f4 f5⟩
 self:=fun _ _ _ _ _ st h=>wpAny_pyIter_rangeiter st h
section
def X4(K:Fg)(tl:TE):TI:=fun σ H R=>tl σ H fun x H1=>∃a,x=.ref a/\(∃xs,SqL K H1 a xs)/\R (Itl K a) H1
theorem c3t{l:Expr}{tl:TE}(hl:PE X l tl):PI X tg l (X4 X.K tl):=by
 intro pins s σ H R I h
 refine thn (hl pins s σ H _ I h) fun v s1 ⟨x,H1,I1,r1,q1⟩=>?_
 obtain⟨a,e,⟨xs,hq⟩,q⟩:=q1
 subst e
 cases r1
 obtain⟨its,rv,p,hz⟩:=I1.list hq
 refine a6T p.isList ?_
 refine⟨s1.heap.objs.size,[s1.heap.objs.size],_,_,H1,rfl,I1.kept (t':=s1.toks) fun b o e=>d4 _ e,b1x a _,⟨_,C3 _ rfl,rfl,rfl⟩,fun b hb=>?_,q⟩
 have e:b=s1.heap.objs.size:=by simpa using hb
 subst e
 exact I1.fpOk (j9 _) (I1.hok.fresh (j9 _))
theorem c0L{R:It->Hp->Prop}{E:Value->c9->Prop}{lo hi:Int}{t u v:Tok}{tk:Nat}(I:Inv X pins σ H s)(h1 : -(2 ^ 62)<=lo)(h2:lo<2 ^ 62)(h3 : -(2 ^ 62)<=hi)(h4:hi<2 ^ 62)
  (q:R (Itr lo (hi - lo).toNat) H):wpAny (model X.prog X.w) X.A (pyIter (.ref s.heap.objs.size)) (PIE X pins σ tg R) E { s with heap:=s.heap.push { cls:=.type "range",data:=.fields #[.int lo t,.int hi u,.int 1 v] },toks:=tk }:=by
 refine wpAny_pyIter_range (IsRange.new ..) (small_one h1 h2 h3 h4) ?_
 have I1:Inv X pins σ H { s with heap:=s.heap.push { cls:=.type "range",data:=.fields #[.int lo t,.int hi u,.int 1 v] },toks:=tk }:=I.kept fun b o e=>d4 _ e
 refine⟨(s.heap.push { cls:=.type "range",data:=.fields #[.int lo t,.int hi u,.int 1 v] }).objs.size,[(s.heap.push { cls:=.type "range",data:=.fields #[.int lo t,.int hi u,.int 1 v] }).objs.size],_,_,H,rfl,
  I1.kept (t':=tk) fun b o e=>d4 _ e,b5D _ lo (hi - lo).toNat,?_,fun b hb=>?_,q⟩
 ·have e1:lo+((0:Nat):Int) * 1=lo:=by simp
  have e2:(((hi - lo).toNat:Nat):Int) - ((0:Nat):Int)=Builtin.Range.rangeSize lo hi 1:=by rw[rangeSize_one];split <;> omega
  show IsRangeIter _ _ (lo+((0:Nat):Int) * 1) ((((hi - lo).toNat:Nat):Int) - ((0:Nat):Int)) 1
  rw[e1,e2]
  exact C3 _ rfl
 ·have e:b=(s.heap.push { cls:=.type "range",data:=.fields #[.int lo t,.int hi u,.int 1 v] }).objs.size:=by simpa using hb
  subst e
  exact I1.fpOk (j9 _) (I1.hok.fresh (j9 _))
def a0u(ta:TA):TI:=fun σ H R=>ta σ H fun vs H1=>∃j:Int,vs=[.int j] /\ -(2 ^ 62)<=j/\j<2 ^ 62/\R (Itr 0 j.toNat) H1
theorem b8F{a:Expr}{ta:TA}(hg:Gl X "range")(hm:X.mg "range" = none)(ha:PA X [a] ta)(hs:j5 [a] X.env=[(false,eval a X.env)]:=by rfl):PI X tg (.Call (.Name "range" p) [a] [] pos) (a0u ta):=by
 intro pins s σ H R I h
 refine Call_ (a8q I hg hm boot_range (Z8 (thn (ha pos pins s σ H _ I h) fun us s1 ⟨vs,H1,I1,r1,q1⟩=>?_) hs rfl))
 obtain⟨j,e,q1,q2,q⟩:=q1
 subst e
 cases r1 with
 | cons r rr=>
  cases rr
  obtain⟨t,rfl⟩:=r
  exact call_range_1 (c0L I1 (by omega) (by omega) q1 q2 (by simpa using q))
def a2y(wi:TI)(g:TG)(tb:TS):TS:=fun D σ H=>wi σ H fun J H1=>∃W:Nat->Nat->St->Hp->Prop,(∃m,W 0 m σ H1)/\∀i m σ H,W i m σ H ->
 (J.stop i H/\D.nx σ H)\/(J.go i H/\∃N:St->Hp->Prop,(∀σ' H',N σ' H'->∃m',m'<m/\W (i+1) m' σ' H')/\∀x H',J.yld i H x H'->g x σ H' fun σ2 H2=>tb { D with nx:=N,ct:=N,bk:=D.nx } σ2 H2)
def a4k(fp:List Addr)(h:Heap):List (Addr×Obj):=fp.filterMap fun b=>(h.get? b).map fun o=>(b,o)
theorem a0s{fp:List Addr}{o:Obj}(hb:b∈fp)(e:h.get? b=some o):(b,o)∈a4k fp h:=c2z.mpr ⟨b,hb,by rw[e];rfl⟩
theorem b8S{fp:List Addr}{p:Addr×Obj}(hp:p∈a4k fp h):p.1∈fp/\h.get? p.1=some p.2:=by
 obtain⟨b,hb,e⟩:=c2z.mp hp
 cases q:h.get? b with
 | none=>rw[q]at e;cases e
 | some o=>
  rw[q]at e
  have e':(b,o)=p:=Option.some.inj e
  subst e'
  exact⟨hb,q⟩
theorem Inv.pinned{fp:List Addr}(I:Inv X pins σ H s)(hf:∀b∈fp,a0E X pins H b)(ho:∀b∈fp,∃o,s.heap.get? b=some o/\∀v,o.data≠.cell v):Inv X (pins++a4k fp s.heap) σ H s:=
 I.pins_of fun p hp=>(y8.mp hp).elim (fun z=>I.pin p (u5 _ z)) fun z=>by
  obtain⟨hb,e⟩:=b8S z
  obtain⟨f0,f1,f2,_⟩:=hf p.1 hb
  obtain⟨o,e',d⟩:=ho p.1 hb
  rw[e]at e';cases e'
  exact⟨e,f0,f1,f2,d⟩
theorem Inv.unpinned{pl:List (Addr×Obj)}(I:Inv X (pins++pl) σ H s):Inv X pins σ H s:=I.pins_of fun p hp=>I.pin p (u5 _ (A4 _ hp))
theorem c6j{iter:Expr}{body:List Stmt}{wi:TI}(hp:c7R (model X.prog X.w) X.A X.env X.xe)(hc:X.calm=true)(hi:PI X tg iter wi)(hg:PG X tg g)(hb:PSs X body tb)
  (hs:∀x,Q0 iter X.env x=pure x:=by intro _;rfl):PS X (.For tg iter body [] pos) (a2y wi g tb):=by
 intro pins s σ H D I h
 refine wpAny_For (thn (hi pins s σ H _ I h) fun v s1 h1=>thn h1 fun itv s2 h2=>?_) hs
 obtain⟨it,fp,tn,J,H2,e,I2,T,st2,f2,W,⟨m0,w0⟩,turn⟩:=h2
 subst e
 have stat:∀ {H':Hp},(∀b∈fp,H' b=none)->∀b∈fp,a0E X pins H' b:=fun hn b hb=>⟨hn b hb,(f2 b hb).2⟩
 refine codeAny_forLoop_any (fun n s'=>∃i σ' H',Inv X pins σ' H' s'/\tn i s'.heap/\(∀b∈fp,H' b=none)/\W i n σ' H') ?_ m0 ⟨0,σ,H2,I2,st2,fun b hb=>(f2 b hb).1,w0⟩
 rintro n s3 ⟨i,σ3,H3,I3,st3,fr3,w3⟩
 rcases turn i n σ3 H3 w3 with ⟨stop,qn⟩ | ⟨go,N,hN,step⟩
 ·refine a1v hp (thn (T.done X rfl rfl rfl hc i pins s3 σ3 H3 X.xe I3 (stat fr3) st3 stop) fun r s4 ⟨hr,I4⟩=>?_)
  subst hr
  exact a4W ⟨σ3,H3,I4,qn⟩
 ·refine a1v hp (thn (T.item X rfl rfl rfl hc i pins s3 σ3 H3 X.xe I3 (stat fr3) st3 go) fun r s4 ⟨u,hr,h4⟩=>?_)
  subst hr
  refine a1v hp (thn h4 fun _ s5 ⟨x,H5,I5,r5,y5,st5,fr5⟩=>?_)
  have I5':=I5.pinned (stat fr5) (T.obj _ _ st5)
  refine a1v hp (thn (hg _ s5 σ3 H5 x u _ I5' r5 (step x H5 y5)) fun _ s6 ⟨σ6,H6,I6,q6⟩=>?_)
  refine a1v hp (thn (hb _ s6 σ6 H6 _ I6 q6) fun f s7 q7=>?_)
  have again:∀ {σ7:St} {H7:Hp},Inv X (pins++a4k fp s5.heap) σ7 H7 s7->N σ7 H7->∃m,m<n/\∃i σ' H',Inv X pins σ' H' s7/\tn i s7.heap/\(∀b∈fp,H' b=none)/\W i m σ' H':=fun {σ7 H7} I7 n7=>by
   obtain⟨m',hm,w7⟩:=hN σ7 H7 n7
   refine⟨m',hm,i+1,σ7,H7,I7.unpinned,T.keep _ _ _ st5 fun b hb o e=>(I7.pin (b,o) (u5 _ (u5 _ (a0s hb e)))).1,fun b hb=>?_,w7⟩
   obtain⟨o,e,d⟩:=T.obj _ _ st5 b hb
   exact(I7.pin (b,o) (u5 _ (u5 _ (a0s hb e)))).2.1
  cases f with
  | next=>obtain⟨σ7,H7,I7,n7⟩:=q7;exact again I7 n7
  | cont=>obtain⟨σ7,H7,I7,n7⟩:=q7;exact again I7 n7
  | brk=>obtain⟨σ7,H7,I7,q7⟩:=q7;exact⟨σ7,H7,I7.unpinned,q7⟩
  | ret v=>obtain⟨x7,σ7,H7,I7,r7,q7⟩:=q7;exact⟨x7,σ7,H7,I7.unpinned,r7,q7⟩
end
theorem a7G{K:Fg}{D:a8B}(Pv:Nat->St->Hp->Prop)(h0:Pv 0 σ H)(hl:∀i σ H,i<=xs.length->Pv i σ H->SqL K H a xs)
  (hs:∀i x σ H,xs[i]? = some x->Pv i σ H->g x σ H fun σ2 H2=>tb { D with nx:=Pv (i+1),ct:=Pv (i+1),bk:=D.nx } σ2 H2) (hd:∀σ H,Pv xs.length σ H->D.nx σ H) :
  ∃W:Nat->Nat->St->Hp->Prop,(∃m,W 0 m σ H)/\∀i m σ H,W i m σ H ->
   ((Itl K a).stop i H/\D.nx σ H)\/((Itl K a).go i H/\∃N:St->Hp->Prop,(∀σ' H',N σ' H'->∃m',m'<m/\W (i+1) m' σ' H')/\∀x H',(Itl K a).yld i H x H'->g x σ H' fun σ2 H2=>tb { D with nx:=N,ct:=N,bk:=D.nx } σ2 H2):=by
 refine⟨fun i m σ H=>m=xs.length - i/\i<=xs.length/\Pv i σ H,⟨xs.length,by simp,L5 _,h0⟩,?_⟩
 rintro i m σ H ⟨rfl,hi,p⟩
 have q:=hl i σ H hi p
 by_cases hlt:i<xs.length
 ·refine .inr ⟨⟨xs,xs[i],q,by simp[hlt]⟩,Pv (i+1),fun σ' H' p'=>⟨xs.length - (i+1),by omega,rfl,hlt,p'⟩,fun x H' y=>?_⟩
  obtain⟨e,y⟩:=y
  subst e
  exact hs i x σ _ (y xs q) p
 ·have e:i=xs.length:=by omega
  subst e
  exact .inl ⟨⟨xs,q,j9 _⟩,hd σ H p⟩
theorem V9{lo:Int}{n:Nat}{D:a8B}(Pv:Nat->St->Hp->Prop)(h0:Pv 0 σ H)
  (hs:∀i σ H,i<n->Pv i σ H->g (.int (lo+i)) σ H fun σ2 H2=>tb { D with nx:=Pv (i+1),ct:=Pv (i+1),bk:=D.nx } σ2 H2) (hd:∀σ H,Pv n σ H->D.nx σ H) :
  ∃W:Nat->Nat->St->Hp->Prop,(∃m,W 0 m σ H)/\∀i m σ H,W i m σ H ->
   ((Itr lo n).stop i H/\D.nx σ H)\/((Itr lo n).go i H/\∃N:St->Hp->Prop,(∀σ' H',N σ' H'->∃m',m'<m/\W (i+1) m' σ' H')/\∀x H',(Itr lo n).yld i H x H'->g x σ H' fun σ2 H2=>tb { D with nx:=N,ct:=N,bk:=D.nx } σ2 H2):=by
 refine⟨fun i m σ H=>m=n - i/\i<=n/\Pv i σ H,⟨n,by simp,L5 _,h0⟩,?_⟩
 rintro i m σ H ⟨rfl,hi,p⟩
 by_cases hlt:i<n
 ·refine .inr ⟨hlt,Pv (i+1),fun σ' H' p'=>⟨n - (i+1),by omega,rfl,hlt,p'⟩,fun x H' y=>?_⟩
  obtain⟨e,y⟩:=y
  subst e y
  exact hs i σ _ hlt p
 ·have e:i=n:=by omega
  subst e
  exact .inl ⟨j9 _,hd σ H p⟩
abbrev R2:=V->V->Hp->VK->Prop
variable{r:R2}
def OpR(X:Cx)(f:Value->Value->Sem Value)(r:R2):Prop:=
 ∀(pins:List (Addr×Obj)) (s:c9) (σ:St) (H:Hp) (x y:V) (v u:Value) (Q:VK),Inv X pins σ H s->F0 x v->F0 y u->r x y H Q ->
  wpAny (model X.prog X.w) X.A (f v u) (EP X pins σ Q) X.xe s
def UnR(X:Cx)(f:Value->Sem Value)(r:V->Hp->VK->Prop):Prop:=
 ∀(pins:List (Addr×Obj)) (s:c9) (σ:St) (H:Hp) (x:V) (v:Value) (Q:VK),Inv X pins σ H s->F0 x v->r x H Q ->
  wpAny (model X.prog X.w) X.A (f v) (EP X pins σ Q) X.xe s
def V5(X:Cx)(f:Value)(r:List V->Hp->VK->Prop):Prop:=
 ∀(pins:List (Addr×Obj)) (s:c9) (σ:St) (H:Hp) (xs:List V) (us:List Value) (Q:VK),Inv X pins σ H s->J2 xs us->r xs H Q ->
  wpAny (model X.prog X.w) X.A (call f us) (EP X pins σ Q) X.xe s
def tOp(r:R2)(ta tb:TE):TE:=fun σ H Q=>ta σ H fun x H1=>tb σ H1 fun y H2=>r x y H2 Q
def tUn(r:V->Hp->VK->Prop)(ta:TE):TE:=fun σ H Q=>ta σ H fun x H1=>r x H1 Q
def rI(C:Int->Int->Prop)(g:Int->Int->V):R2:=fun x y H Q=>∃i j,x=.int i/\y=.int j/\C i j/\Q (g i j) H
def rI0(g:Int->Int->V):R2:=fun x y H Q=>∃i j,x=.int i/\y=.int j/\Q (g i j) H
def rU(g:Int->V):V->Hp->VK->Prop:=fun x H Q=>∃i,x=.int i/\Q (g i) H
section
variable {a b:Expr}{tb tc:TE}
theorem c7v(ha:PE X a ta)(hb:PE X b tb){R:V->V->Hp->Prop}(I:Inv X pins σ H s)
  (h:ta σ H fun x H1=>tb σ H1 fun y H2=>R x y H2) {Q:Value->c9->Prop} {f:Value->Value->Sem Value}
  (hf:∀v u s2 x y H2,Inv X pins σ H2 s2->F0 x v->F0 y u->R x y H2->wpAny (model X.prog X.w) X.A (f v u) Q X.xe s2) :
  wpAny (model X.prog X.w) X.A (eval a X.env) (fun v s₁=>wpAny (model X.prog X.w) X.A (eval b X.env) (fun u s₂=>wpAny (model X.prog X.w) X.A (f v u) Q X.xe s₂) X.xe s₁) X.xe s:=by
 refine thn (ha pins s σ H _ I h) fun v s1 ⟨x,H1,I1,r1,q1⟩=>?_
 refine thn (hb pins s1 σ H1 _ I1 q1) fun u s2 ⟨y,H2,I2,r2,q2⟩=>?_
 exact hf v u s2 x y H2 I2 r1 r2 q2
theorem c8s{op:b9G}(ho:OpR X (U1 op) r)(ha:PE X a ta)(hb:PE X b tb):PE X (.BinOp a op b pos) (tOp r ta tb):=by
 intro pins s σ H Q I h
 exact wpAny_BinOp (c7v ha hb I h fun v u s2 x y H2 I2 rx ry q=>ho pins s2 σ H2 x y v u Q I2 rx ry q)
theorem c8q{op:UnaryOp}{r:V->Hp->VK->Prop}(ho:UnR X (unaryOp op) r)(ha:PE X a ta):PE X (.UnaryOp op a pos) (tUn r ta):=by
 intro pins s σ H Q I h
 exact UnaryOp_ (thn (ha pins s σ H _ I h) fun v s1 ⟨x,H1,I1,r1,q1⟩=>ho pins s1 σ H1 x v Q I1 r1 q1)
theorem opI{f:Value->Value->Sem Value}{C:Int->Int->Prop}{g:Int->Int->Int}
  (rule:∀(i j:Int) (t u:Tok) (s:c9) (Q:Value->c9->Prop) (E:Value->c9->Prop),C i j->Q (.int (g i j) s.toks) { s with toks:=s.toks+1 }->wpAny (model X.prog X.w) X.A (f (.int i t) (.int j u)) Q E s) :
  OpR X f (rI C fun i j=>.int (g i j)):=by
 intro pins s σ H x y v u Q I rx ry h
 obtain⟨i,j,rfl,rfl,hc,q⟩:=h
 obtain⟨t,rfl⟩:=rx
 obtain⟨t',rfl⟩:=ry
 exact rule i j t t' s _ _ hc ⟨.int (g i j),H,I.tok _,⟨_,rfl⟩,q⟩
theorem c8C{f:Value->Value->Sem Value}{g:Int->Int->Int}
  (rule:∀(i j:Int) (t u:Tok) (s:c9) (Q:Value->c9->Prop) (E:Value->c9->Prop),Q (.int (g i j) s.toks) { s with toks:=s.toks+1 }->wpAny (model X.prog X.w) X.A (f (.int i t) (.int j u)) Q E s) :
  OpR X f (rI0 fun i j=>.int (g i j)):=by
 intro pins s σ H x y v u Q I rx ry h
 obtain⟨i,j,rfl,rfl,q⟩:=h
 obtain⟨t,rfl⟩:=rx
 obtain⟨t',rfl⟩:=ry
 exact rule i j t t' s _ _ ⟨.int (g i j),H,I.tok _,⟨_,rfl⟩,q⟩
theorem c3O{f:Value->Value->Sem Value}{g:Int->Int->Bool}
  (rule:∀(i j:Int) (t u:Tok) (s:c9) (Q:Value->c9->Prop) (E:Value->c9->Prop),Q (.bool (g i j)) s->wpAny (model X.prog X.w) X.A (f (.int i t) (.int j u)) Q E s) :
  OpR X f (rI0 fun i j=>.bl (g i j)):=by
 intro pins s σ H x y v u Q I rx ry h
 obtain⟨i,j,rfl,rfl,q⟩:=h
 obtain⟨t,rfl⟩:=rx
 obtain⟨t',rfl⟩:=ry
 exact rule i j t t' s _ _ ⟨.bl (g i j),H,I,rfl,q⟩
def c8W(i j:Int):Prop:=0<=j/\j<=1000000/\i.natAbs<2 ^ 64
def c4K(i j:Int):Prop:=(-(2 ^ 64)<i/\i<2 ^ 64)\/(-(2 ^ 64)<j/\j<2 ^ 64)
theorem c4K.ok{i j:Int}(h:c4K i j):IntMulOk i j:=by
 rcases h with ⟨h1,h2⟩ | ⟨h1,h2⟩
 ·exact .of_left (intBits_le_64 h1 h2)
 ·exact .of_right (intBits_le_64 h1 h2)
theorem c6S:OpR X (U1 .Add) (rI0 fun i j=>.int (i+j)):=c8C fun _ _ _ _ _ _ _ q=>add_int q
theorem c6E:OpR X (U1 .Sub) (rI0 fun i j=>.int (i - j)):=c8C fun _ _ _ _ _ _ _ q=>sub_int q
theorem c6O:OpR X (U1 .Mult) (rI c4K fun i j=>.int (i * j)):=opI fun _ _ _ _ _ _ _ hc q=>mul_int q hc.ok
theorem c6P:OpR X (U1 .Mod) (rI (fun _ j=>0<j) fun i j=>.int (i % j)):=opI fun i j _ _ _ _ _ hc q=>by
 have h1:(0:Int)<j:=hc
 exact mod_int' (by omega) (by rw[Int.fmod_eq_emod_of_nonneg i (by omega)];exact q)
theorem c6N:OpR X (U1 .Pow) (rI c8W fun i j=>.int (i ^ j.toNat)):=opI fun _ _ _ _ _ _ _ hc q=>pow_int_small hc.1 hc.2.1 hc.2.2 q
theorem unI{f:Value->Sem Value}{g:Int->Int}
  (rule:∀(i:Int) (t:Tok) (s:c9) (Q:Value->c9->Prop) (E:Value->c9->Prop),Q (.int (g i) s.toks) { s with toks:=s.toks+1 }->wpAny (model X.prog X.w) X.A (f (.int i t)) Q E s) :
  UnR X f (rU fun i=>.int (g i)):=by
 intro pins s σ H x v Q I rx h
 obtain⟨i,rfl,q⟩:=h
 obtain⟨t,rfl⟩:=rx
 exact rule i t s _ _ ⟨.int (g i),H,I.tok _,⟨_,rfl⟩,q⟩
theorem c5B:UnR X (unaryOp .USub) (rU fun i=>.int (-i)):=unI fun _ _ _ _ _ q=>neg_int q
end
def b4a:V->V->Bool
 | .non,.non=>true | .non,.int _=>true | .int _,.non=>true | .non,.bl _=>true | .bl _,.non=>true | .non,.str _=>true | .str _,.non=>true
 | .int _,.int _=>true | .bl _,.bl _=>true | .str _,.str _=>true | .byt _,.byt _=>true
 | .int _,.str _=>true | .str _,.int _=>true | .bl _,.str _=>true | .str _,.bl _=>true
 | _,_=>false
def rEq:R2:=fun x y H Q=>b4a x y=true/\Q (.bl (decide (x=y))) H
def rNe:R2:=fun x y H Q=>b4a x y=true/\Q (.bl (!decide (x=y))) H
theorem b7O{i j:Int}:decide (V.int i=V.int j)=(i == j):=by
 rw[a3i]
 simp
theorem c2b{i j:Bool}:decide (V.bl i=V.bl j)=(i == j):=by
 rw[a3i]
 simp
theorem b7N{i j:Str}:decide (V.str i=V.str j)=(i == j):=by
 rw[a3i]
 simp
theorem b7P{i j:Array UInt8}:decide (V.byt i=V.byt j)=(i.toList == j.toList):=by
 rw[a3i]
 cases i
 cases j
 simp
section
variable {a b:Expr}{tb tc:TE}
theorem L9{Q:VK}{k k':Bool}(I:Inv X pins σ H s)(q:Q (.bl k) H)(e:k=k'):EP X pins σ Q (.bool k') s:=by
 subst e
 exact⟨.bl k,H,I,rfl,q⟩
theorem c8B:OpR X (z6 .Eq) rEq:=by
 intro pins s σ H x y v u Q I rx ry h
 obtain⟨hs,q⟩:=h
 cases x with
 | non=>
  cases rx
  cases y with
  | non=>cases ry;exact PySem.EqNone.eq_none_none (L9 I q (by simp))
  | bl j=>cases ry;exact PySem.EqNone.eq_none_bool (L9 I q (by simp))
  | int j=>obtain⟨t',rfl⟩:=ry;exact PySem.EqNone.eq_none_int (L9 I q (by simp))
  | str j=>obtain⟨t',rfl⟩:=ry;exact PySem.EqNone.eq_none_str (L9 I q (by simp))
  | _=>exact absurd (show false=true from hs) u0
 | bl i=>
  cases rx
  cases y with
  | non=>cases ry;exact PySem.EqNone.eq_bool_none (L9 I q (by simp))
  | bl j=>cases ry;exact eq_bool (L9 I q c2b)
  | str j=>obtain⟨t',rfl⟩:=ry;exact PySem.EqMixed.eq_bool_str (L9 I q (by simp))
  | _=>exact absurd (show false=true from hs) u0
 | int i=>
  obtain⟨t,rfl⟩:=rx
  cases y with
  | non=>cases ry;exact PySem.EqNone.eq_int_none (L9 I q (by simp))
  | int j=>obtain⟨t',rfl⟩:=ry;exact eq_int (L9 I q b7O)
  | str j=>obtain⟨t',rfl⟩:=ry;exact PySem.EqMixed.eq_int_str (L9 I q (by simp))
  | _=>exact absurd (show false=true from hs) u0
 | str i=>
  obtain⟨t,rfl⟩:=rx
  cases y with
  | non=>cases ry;exact PySem.EqNone.eq_str_none (L9 I q (by simp))
  | bl j=>cases ry;exact PySem.EqMixed.eq_str_bool (L9 I q (by simp))
  | int j=>obtain⟨t',rfl⟩:=ry;exact PySem.EqMixed.eq_str_int (L9 I q (by simp))
  | str j=>obtain⟨t',rfl⟩:=ry;exact eq_str (L9 I q b7N)
  | _=>exact absurd (show false=true from hs) u0
 | byt i=>
  obtain⟨t,rfl⟩:=rx
  cases y with
  | byt j=>obtain⟨t',rfl⟩:=ry;exact PySem.W.eq_bytes (L9 I q b7P)
  | _=>exact absurd (show false=true from hs) u0
 | _=>cases y <;> exact absurd (show false=true from hs) u0
theorem c8w:OpR X (z6 .NotEq) rNe:=by
 intro pins s σ H x y v u Q I rx ry h
 obtain⟨hs,q⟩:=h
 cases x with
 | non=>
  cases rx
  cases y with
  | non=>cases ry;exact PySem.EqNone.ne_none_none (L9 I q (by simp))
  | bl j=>cases ry;exact PySem.EqNone.ne_none_bool (L9 I q (by simp))
  | int j=>obtain⟨t',rfl⟩:=ry;exact PySem.EqNone.ne_none_int (L9 I q (by simp))
  | str j=>obtain⟨t',rfl⟩:=ry;exact PySem.EqNone.ne_none_str (L9 I q (by simp))
  | _=>exact absurd (show false=true from hs) u0
 | bl i=>
  cases rx
  cases y with
  | non=>cases ry;exact PySem.EqNone.ne_bool_none (L9 I q (by simp))
  | bl j=>cases ry;exact ne_bool (L9 I q (congrArg not c2b))
  | str j=>obtain⟨t',rfl⟩:=ry;exact PySem.EqMixed.ne_bool_str (L9 I q (by simp))
  | _=>exact absurd (show false=true from hs) u0
 | int i=>
  obtain⟨t,rfl⟩:=rx
  cases y with
  | non=>cases ry;exact PySem.EqNone.ne_int_none (L9 I q (by simp))
  | int j=>obtain⟨t',rfl⟩:=ry;exact ne_int (L9 I q (congrArg not b7O))
  | str j=>obtain⟨t',rfl⟩:=ry;exact PySem.EqMixed.ne_int_str (L9 I q (by simp))
  | _=>exact absurd (show false=true from hs) u0
 | str i=>
  obtain⟨t,rfl⟩:=rx
  cases y with
  | non=>cases ry;exact PySem.EqNone.ne_str_none (L9 I q (by simp))
  | bl j=>cases ry;exact PySem.EqMixed.ne_str_bool (L9 I q (by simp))
  | int j=>obtain⟨t',rfl⟩:=ry;exact PySem.EqMixed.ne_str_int (L9 I q (by simp))
  | str j=>obtain⟨t',rfl⟩:=ry;exact ne_str (L9 I q (congrArg not b7N))
  | _=>exact absurd (show false=true from hs) u0
 | byt i=>
  obtain⟨t,rfl⟩:=rx
  cases y with
  | byt j=>obtain⟨t',rfl⟩:=ry;exact PySem.W.ne_bytes (L9 I q (congrArg not b7P))
  | _=>exact absurd (show false=true from hs) u0
 | _=>cases y <;> exact absurd (show false=true from hs) u0
theorem c8x:OpR X (z6 .Lt) (rI0 fun i j=>.bl (decide (i<j))):=c3O fun _ _ _ _ _ _ _ q=>lt_int q
theorem c8y:OpR X (z6 .LtE) (rI0 fun i j=>.bl (decide (i<=j))):=c3O fun _ _ _ _ _ _ _ q=>le_int q
theorem c8z:OpR X (z6 .Gt) (rI0 fun i j=>.bl (decide (j<i))):=c3O fun _ _ _ _ _ _ _ q=>gt_int q
theorem c8A:OpR X (z6 .GtE) (rI0 fun i j=>.bl (decide (j<=i))):=c3O fun _ _ _ _ _ _ _ q=>ge_int q
theorem b8K:OpR X (z6 .In) (fun x y H Q=>∃i j,x=.str i/\y=.str j/\Q (.bl (!(Builtin.Str.occurrences j i 0 j.length 1).isEmpty)) H):=by
 intro pins s σ H x y v u Q I rx ry h
 obtain⟨i,j,rfl,rfl,q⟩:=h
 obtain⟨t,rfl⟩:=rx
 obtain⟨t',rfl⟩:=ry
 exact in_str (L9 I q rfl)
theorem c6Q:OpR X (z6 .Is) (fun x y H Q=>y=.non/\Q (.bl (decide (x=.non))) H):=by
 intro pins s σ H x y v u Q I rx ry h
 obtain⟨rfl,q⟩:=h
 cases ry
 refine is_none_gen (L9 I q ?_)
 cases x <;> first
  | (cases rx;rfl)
  | (obtain⟨t,rfl⟩:=rx;rfl)
theorem c3N:OpR X (z6 .IsNot) (fun x y H Q=>y=.non/\Q (.bl (!decide (x=.non))) H):=by
 intro pins s σ H x y v u Q I rx ry h
 obtain⟨rfl,q⟩:=h
 cases ry
 refine isnot_none_gen (L9 I q ?_)
 cases x <;> first
  | (cases rx;rfl)
  | (obtain⟨t,rfl⟩:=rx;rfl)
theorem OpR.or{f:Value->Value->Sem Value}{r':R2}(h:OpR X f r)(h':OpR X f r'):OpR X f (fun x y H Q=>r x y H Q\/r' x y H Q):=by
 intro pins s σ H x y v u Q I rx ry q
 rcases q with q | q
 ·exact h pins s σ H x y v u Q I rx ry q
 ·exact h' pins s σ H x y v u Q I rx ry q
theorem b6p(b:Expr){op:CmpOp}(h:op≠.In:=by decide)(h2:op≠.NotIn:=by decide):Q5 op b=false:=by
 have e1:(op == CmpOp.In)=false:=by cases op <;> first | rfl | exact absurd rfl h
 have e2:(op == CmpOp.NotIn)=false:=by cases op <;> first | rfl | exact absurd rfl h2
 cases b <;> simp[Q5,e1,e2]
theorem c3A{op:CmpOp}(ho:OpR X (z6 op) r)(ha:PE X a ta)(hb:PE X b tb)(hm:Q5 op b=false):PE X (.Compare a [op] [b] pos) (tOp r ta tb):=by
 intro pins s σ H Q I h
 exact wpAny_Compare1 (c7v ha hb I h fun v u s2 x y H2 I2 rx ry q=>ho pins s2 σ H2 x y v u Q I2 rx ry q) hm
def D7(t:TE):TT:=fun σ H Q=>t σ H fun x H'=>∃k,x=.bl k/\Q k H'
theorem c3i{op:CmpOp}(ho:OpR X (z6 op) r)(ha:PE X a ta)(hb:PE X b tb)(hm:Q5 op b=false):PT X (.Compare a [op] [b] pos) (D7 (tOp r ta tb)):=by
 intro pins s σ H Q I h
 refine c7N (thn (ha pins s σ H _ I h) fun v s1 ⟨x,H1,I1,r1,q1⟩=>thn (hb pins s1 σ H1 _ I1 q1) fun u s2 ⟨y,H2,I2,r2,q2⟩=>
  thn (ho pins s2 σ H2 x y v u _ I2 r1 r2 q2) fun c s3 ⟨z,H3,I3,r3,k,e,q3⟩=>?_) hm
 subst e
 cases r3
 exact M8 ⟨H3,I3,q3⟩
def a4d(r r':R2)(ta tb tc:TE):TE:=fun σ H Q=>ta σ H fun x H1=>tb σ H1 fun y H2=>r x y H2 fun z H3=>∃k,z=.bl k /\
 (if k=true then tc σ H3 fun w' H4=>r' y w' H4 Q else Q (.bl false) H3)
theorem c1e{op op':CmpOp}{r':R2}(ho:OpR X (z6 op) r)(ho':OpR X (z6 op') r')(ha:PE X a ta)(hb:PE X b tb)(hc:PE X c tc)
  (hm:c7Q [op,op'] [b,c]=false:=by with_unfolding_all rfl):PE X (.Compare a [op,op'] [b,c] pos) (a4d r r' ta tb tc):=by
 intro pins s σ H Q I h
 refine Compare_chain (thn (ha pins s σ H _ I h) fun v s1 ⟨x,H1,I1,r1,q1⟩=>chain_link (thn (hb pins s1 σ H1 _ I1 q1) fun u s2 ⟨y,H2,I2,r2,q2⟩=>
  thn (ho pins s2 σ H2 x y v u _ I2 r1 r2 q2) fun d s3 ⟨z,H3,I3,r3,k,e,q3⟩=>?_)) hm
 subst e
 cases r3
 refine M8 ?_
 cases k with
 | false=>exact ite_ff ⟨.bl false,H3,I3,rfl,q3⟩
 | true=>exact ite_tt (chain_last (thn (hc pins s3 σ H3 _ I3 q3) fun w' s4 ⟨z',H4,I4,r4,q4⟩=>ho' pins s4 σ H4 y z' u w' Q I4 r2 r4 q4))
theorem c0R{op op':CmpOp}{r':R2}(ho:OpR X (z6 op) r)(ho':OpR X (z6 op') r')(ha:PE X a ta)(hb:PE X b tb)(hc:PE X c tc)
  (hm:c7Q [op,op'] [b,c]=false:=by with_unfolding_all rfl):PT X (.Compare a [op,op'] [b,c] pos) (D7 (a4d r r' ta tb tc)):=by
 intro pins s σ H Q I h
 refine isTrue_chain (thn (ha pins s σ H _ I h) fun v s1 ⟨x,H1,I1,r1,q1⟩=>test_link (thn (hb pins s1 σ H1 _ I1 q1) fun u s2 ⟨y,H2,I2,r2,q2⟩=>
  thn (ho pins s2 σ H2 x y v u _ I2 r1 r2 q2) fun d s3 ⟨z,H3,I3,r3,k,e,q3⟩=>?_)) hm
 subst e
 cases r3
 refine M8 ?_
 cases k with
 | false=>
  obtain⟨k',e',q'⟩:=q3
  cases e'
  exact ite_ff ⟨H3,I3,q'⟩
 | true=>
  refine ite_tt (test_last (thn (hc pins s3 σ H3 _ I3 q3) fun w' s4 ⟨z',H4,I4,r4,q4⟩=>thn (ho' pins s4 σ H4 y z' u w' _ I4 r2 r4 q4) fun d' s5 ⟨z2,H5,I5,r5,k2,e2,q5⟩=>?_))
  subst e2
  cases r5
  exact M8 ⟨H5,I5,q5⟩
theorem a6J:(t6:Nat)<2 ^ 63:=by rw[sizeLine_eq];decide
theorem b6i:OpR X (U1 .Add) (fun x y H Q=>∃i j,x=.str i/\y=.str j/\i.length+j.length<=t6/\Q (.str (i++j)) H):=by
 intro pins s σ H x y v u Q I rx ry h
 obtain⟨i,j,rfl,rfl,hz,q⟩:=h
 obtain⟨t,rfl⟩:=rx
 obtain⟨t',rfl⟩:=ry
 exact add_str (fun t' tk=>⟨.str (i++j),H,I.tok _,⟨_,rfl⟩,q⟩) hz
theorem a4H{x:V}(r:J2 [x] us):∃u,us=[u]/\F0 x u:=by
 cases r with
 | cons r1 r2=>cases r2;exact⟨_,rfl,r1⟩
theorem c0d{x:V}(r:J2 [x,y] us):∃u w',us=[u,w']/\F0 x u/\F0 y w':=by
 cases r with
 | cons r1 r2=>
  cases r2 with
  | cons r3 r4=>cases r4;exact⟨_,_,rfl,r1,r3⟩
theorem c2g:V5 X (.builtin "abs") (fun xs H Q=>∃i,xs=[.int i]/\Q (.int (if i<0 then -i else i)) H):=by
 intro pins s σ H xs us Q I r h
 obtain⟨i,rfl,q⟩:=h
 obtain⟨u,rfl,t,rfl⟩:=a4H r
 exact call_abs_int fun u tk=>⟨.int (if i<0 then -i else i),H,I.tok _,⟨_,rfl⟩,q⟩
theorem b9v(hc:X.calm=true):V5 X (.builtin "min") (fun xs H Q=>∃i j,xs=[.int i,.int j]/\Q (.int (if j<i then j else i)) H):=by
 intro pins s σ H xs us Q I r h
 obtain⟨i,j,rfl,q⟩:=h
 obtain⟨u,w',rfl,⟨t,rfl⟩,⟨t',rfl⟩⟩:=c0d r
 refine min_two_ints (I.ok.hd hc) fun h' tk k=>⟨_,H,I.kept k,?_,q⟩
 by_cases hj:j<i
 ·rw[if_pos hj,if_pos hj];exact⟨_,rfl⟩
 ·rw[if_neg hj,if_neg hj];exact⟨_,rfl⟩
theorem b9w:V5 X (.type "int") (fun xs H Q=>(∃i,xs=[.int i]/\Q (.int i) H)\/∃k,xs=[.bl k]/\Q (.int (if k then 1 else 0)) H):=by
 intro pins s σ H xs us Q I r h
 rcases h with ⟨i,rfl,q⟩ | ⟨k,rfl,q⟩
 ·obtain⟨u,rfl,t,rfl⟩:=a4H r
  exact call_int_int ⟨.int i,H,I,⟨_,rfl⟩,q⟩
 ·obtain⟨u,rfl,r1⟩:=a4H r
  cases r1
  exact call_int_bool ⟨.int (if k then 1 else 0),H,I.tok _,⟨_,rfl⟩,q⟩
end
structure b6W(h:Heap)(x dx C:Addr)(mA:Str->Option Value):Prop where
 obj:h.get? x=some (S9 C dx)
 ns:h.Ns1 dx mA
 ne:dx≠x
theorem b1O{mA:Str->Option Value}(n:h.Ns1 dx mA):∃od,h.get? dx=some od/\∀name,a5V name od=some (mA name):=by
 obtain⟨o,es,ep,ho,hd,hk,_,hm⟩:=n
 refine⟨o,ho,fun name=>?_⟩
 have e:=hm name
 unfold nsFind findBy at e
 rw[<-Array.find?_toList]at e
 unfold a5V
 rw[hd]
 dsimp only
 split
 ·rename_i y q
  rw[q]at e
  exact congrArg some e
 ·rename_i q
  rw[q]at e
  have a:es.toList.any (·.refKey)=false:=by
   rw[List.any_eq_false]
   intro y hy
   obtain⟨z,t,hkey⟩:=hk y (Array.mem_toList_iff.mp hy)
   simp[DictEntry.refKey,hkey]
  have a':¬es.toList.any (·.refKey)=true:=by rw[a];exact u0
  rw[if_neg a']
  exact congrArg some e
theorem b6W.look{x:Addr}{mA:Str->Option Value}(I:b6W h x dx C mA):∃od,PySem.W.InstAt h x (S9 C dx) C (some od)/\∀name,a5V name od=some (mA name):=
 let⟨od,ho,hl⟩:=b1O I.ns
 ⟨od,⟨I.obj,rfl,rfl,ho⟩,hl⟩
section
variable {prog:w4}{A:D8}{E:Value->c9->Prop}{K:Fg}{x:Addr}{mA:Str->Option Value}{name:Str}{v:Value}
theorem c4t{expr:Bool}(X:K.In s.heap)(I:b6W s.heap x dx C mA)(hg:a2s K C name=true)(hh:a1R K C=true)
  (ha:A0 K (.ref C) name=some none) (hv:mA name=some v) (hv':c2q v=true) (h:Q v { s with toks:=s.toks+1 }) :
  wpAny (model prog w) A (getAttr (.ref x) name expr) Q E s:=by
 obtain⟨od,J,hl⟩:=I.look
 exact PySem.W.get_value X J (a6Q hg).1 (PySem.W.findObj_own hh ha rfl (by rw[hl,hv])) hv' h
theorem c1P{pl:Sem Bool}{Q:Value×List Value->c9->Prop}(X:K.In s.heap)(I:b6W s.heap x dx C mA)(hg:a2s K C name=true)
  (hf:A0 K (.ref C) name=some (some (.ref f))) (ht:a8E K (.ref f)=true) (hv:mA name=none) (h:Q (.ref f,[.ref x]) s) :
  wpAny (model prog w) A (b9N (.ref x) name pl) Q E s:=by
 obtain⟨od,J,hl⟩:=I.look
 exact PySem.W.method_fn X J (a6Q hg).1 (a6Q hg).2 hf (beq_iff_eq.mp ht) (by show(a5V name od).map (·.isSome)=some false;rw[hl,hv];rfl) h
theorem a9n{ns:List Str}{Q:Unit->c9->Prop}(X:K.In s.heap)(I:b6W s.heap x dx C mA)
  (hs:A0 K (.ref C) "__setattr__" = some (some (.builtin "object.__setattr__"))) (hp:a8C K C=true) (ht:b0J K C name=some none) (hh:a1R K C=true)
  (hw:PySem.Within mA ns) (hsz:ns.length<=t6)
  (h:∀h',b6W h' x dx C (fun y=>if y=name then some v else mA y)->Heap.SameBut dx s.heap h'->Q () { s with heap:=h',toks:=s.toks+2 }) :
  wpAny (model prog w) A (setAttr (.ref x) name v) Q E s:=by
 obtain⟨od,J,hl⟩:=I.look
 refine PySem.W.set_plain X J hs (PySem.W.osa_open (s:={ s with toks:=s.toks+1 }) (r:=none) X J hp ht fun b=>?_)
 obtain⟨cd,hc,hd'⟩:=PySem.W.any_some hh
 have hx:s.heap.get? x=some ⟨.ref C,some dx,.plain,#[]⟩:=I.obj
 refine c7 (y9 (c7 (c7 (wpAny_loadPart hx (c7 (PySem.W.Looks.here (s:={ s with toks:=s.toks+1 }) (PySem.W.looks_clsIn X hc) ?_))))))
 rw[hd']
 refine y9 (a:=some dx) (c7 (y9 (c7 ?_)))
 refine wpAny_nsSet1 (s:={ s with toks:=s.toks+1 }) I.ns fun h' hn2 hs2=>?_
 obtain⟨oD,esD,epD,hoD,hdD,hcD⟩:=hn2.count (PySem.Within.cons name v hw)
 refine c7 (wpAny_lookBehind hoD (by rw[hdD];exact pastItsLine_dict (F3 hcD (by rw[z9];omega))) ?_)
 exact y9 (h _ ⟨(hs2.2 _ (Ne.symm I.ne)).trans I.obj,hn2,I.ne⟩ hs2)
theorem c1B{R:b1p->c9->Prop}{vs:List Value}(X:K.In s.heap)(hm:a4S K C=true)
  (hi:A0 K (.ref C) "__init__" = some (some (.ref f))) (hf:c4L K (.ref f)=some (.type "function"))
  (h:a1U (model prog w) (A.under (.builtin "type.__call__" ⟨.ref C::vs,kw⟩)) (.call (.ref f) ⟨.ref (s.heap.objs.size+1)::vs,kw⟩) (PySem.W.InitBack (s.heap.objs.size+1) R)
   { s with heap:=(s.heap.push M6).push (S9 C s.heap.objs.size) }) :
  a1U (model prog w) A (.call (.ref C) ⟨vs,kw⟩) R s:=by
 obtain⟨hh,g,d,t,os⟩:=s
 exact PySem.W.make_core (PySem.W.makes_of X hm) (PySem.W.looks_findIn X hi) (fun self=>PySem.W.bind_fn X self hf) (.inl rfl) h
end
def a3j(f:Str)(v:V):List (Str×V)->List (Str×V)
 | []=>[(f,v)]
 | (g,x)::r=>if g=f then (g,v)::r else (g,x)::a3j f v r
theorem a8P(f g:Str)(v:V):∀fs:List (Str×V),(a3j f v fs).lookup g=if g=f then some v else fs.lookup g
 | []=>by
  show V2 g [(f,v)]=_
  by_cases h:g=f
  ·have hb:(g == f)=true:=beq_iff_eq.mpr h
   simp only[V2,hb,if_pos h]
  ·have hb:(g == f)=false:=beq_eq_false_iff_ne.mpr h
   simp only[V2,hb,if_neg h]
 | (k,x)::r=>by
  have ih:=a8P f g v r
  rw[show a3j f v ((k,x)::r)=(if k=f then (k,v)::r else (k,x)::a3j f v r)from rfl]
  by_cases hk:k=f
  ·rw[if_pos hk]
   by_cases h:g=k
   ·have hb:(g == k)=true:=beq_iff_eq.mpr h
    simp only[V2,hb,if_pos (h.trans hk)]
   ·have hb:(g == k)=false:=beq_eq_false_iff_ne.mpr h
    simp only[V2,hb,if_neg (fun e:g=f=>h (e.trans hk.symm))]
  ·rw[if_neg hk]
   by_cases h:g=k
   ·have hb:(g == k)=true:=beq_iff_eq.mpr h
    simp only[V2,hb,if_neg (fun e:g=f=>hk (h.symm.trans e))]
   ·have hb:(g == k)=false:=beq_eq_false_iff_ne.mpr h
    simp only[V2,hb]
    exact ih
theorem a8s(f:Str)(v:V):∀fs:List (Str×V),f∈(a3j f v fs).map (·.1)/\∀g,g∈fs.map (·.1)->g∈(a3j f v fs).map (·.1)
 | []=>⟨by simp[a3j],fun g h=>by simp at h⟩
 | (k,x)::r=>by
  obtain⟨i1,i2⟩:=a8s f v r
  rw[show a3j f v ((k,x)::r)=(if k=f then (k,v)::r else (k,x)::a3j f v r)from rfl]
  by_cases hk:k=f
  ·rw[if_pos hk]
   subst hk
   exact⟨by simp,fun g h=>by simpa using h⟩
  ·rw[if_neg hk]
   refine⟨?_,fun g h=>?_⟩
   ·rw[L6]
    exact E8 _ i1
   ·rw[L6]at h ⊢
    rcases o0.mp h with e | e
    ·exact o0.mpr (.inl e)
    ·exact E8 _ (i2 g e)
theorem a8Q(f:Str)(v:V):∀fs:List (Str×V),(a3j f v fs).length<=fs.length+1
 | []=>by simp[a3j]
 | (k,x)::r=>by
  have ih:=a8Q f v r
  rw[show a3j f v ((k,x)::r)=(if k=f then (k,v)::r else (k,x)::a3j f v r)from rfl]
  by_cases hk:k=f
  ·rw[if_pos hk,z9,z9];omega
  ·rw[if_neg hk,z9,z9];omega
theorem a4Q.some_of{o:Option Value}(r:a4Q (some v) o):∃u,o=some u/\F0 v u:=by
 cases o with
 | none=>exact(show False from r).elim
 | some u=>exact⟨u,rfl,r⟩
theorem a4Q.none_of{o:Option Value}(r:a4Q none o):o=none:=by
 cases o with
 | none=>rfl
 | some u=>exact(show False from r).elim
theorem b1T(r:F0 v u):c2q u=true:=by
 cases v with
 | non=>cases (show u=Value.none from r);rfl
 | bl b=>cases (show u=Value.bool b from r);rfl
 | int i=>obtain⟨t,e⟩:=(show ∃t,u=Value.int i t from r);cases e;rfl
 | str x=>obtain⟨t,e⟩:=(show ∃t,u=Value.str x t from r);cases e;rfl
 | byt b=>obtain⟨t,e⟩:=(show ∃t,u=Value.bytes b t from r);cases e;rfl
 | flt b=>obtain⟨t,e⟩:=(show ∃t,u=Value.float b t from r);cases e;rfl
 | ref a=>cases (show u=Value.ref a from r);rfl
 | ty n=>cases (show u=Value.type n from r);rfl
section
variable {P:w4}{fs fs':List (Str×V)}
theorem a9r(hok:HOk P w H h)(e:H a=some (.ins C dx fs)):∃mA,b6W h a dx C mA/\(∀f,a4Q (fs.lookup f) (mA f))/\PySem.Within mA (fs.map (·.1))/\fs.length<=1000/\H dx=some (.own a):=by
 obtain⟨d,z,ne,ob,mA,n,r,q⟩:=(show T9 P w H h a (.ins C dx fs)from hok a _ e)
 exact⟨mA,⟨ob,n,ne⟩,r,q,z,d⟩
end
structure Cls(K:Fg)(C:Addr):Prop where
 pg:a2s K C Str.empty=true
 hd:a1R K C=true
 po:a8C K C=true
 sa:A0 K (.ref C) "__setattr__" = some (some (.builtin "object.__setattr__"))
theorem Cls.get{K:Fg}(c:Cls K C)(f:Str):a2s K C f=true:=c.pg
def a3f(K:Fg)(C:Addr)(f:Str):Prop:=A0 K (.ref C) f=some none
theorem a3f.taker{K:Fg}{f:Str}(n:a3f K C f):b0J K C f=some none:=by
 unfold b0J
 rw[show A0 K (.ref C) f=some none from n]
 rfl
structure Con(K:Fg)(C:Addr)(f:Str)(v:V)(u:Value):Prop where
 at_:A0 K (.ref C) f=some (some u)
 rel:F0 v u
 get:a3J K u "__get__" = some none
 cp:PySem.W.copiedNames.contains f=false
structure c7B(K:Fg)(C:Addr)(m:Str)(f:Addr):Prop where
 at_:A0 K (.ref C) m=some (some (.ref f))
 fn:a8E K (.ref f)=true
 kp:Q7 K (.ref f)=true
section
variable {fs:List (Str×V)}{f:Str}{A:D8}{E:Value->c9->Prop}
theorem b6I{b:Bool}(I:Inv X pins σ H s)(e:H a=some (.ins C dx fs))(c:Cls X.K C)(n:a3f X.K C f)(l:fs.lookup f=some v)
  (h:∀u s',Inv X pins σ H s'->F0 v u->Q u s'):wpAny (model X.prog X.w) A (getAttr (.ref a) f b) Q E s:=by
 obtain⟨mA,O,r,_,_,_⟩:=a9r I.hok e
 obtain⟨u,hu,ru⟩:=a4Q.some_of (v:=v) (o:=mA f) (by rw[<-l];exact r f)
 exact c4t I.kIn O (c.get f) c.hd n hu (b1T ru) (h u _ (I.tok _) ru)
theorem b6H{m:Str}{g:Addr}{pl:Sem Bool}{Q:Value×List Value->c9->Prop}(I:Inv X pins σ H s)(e:H a=some (.ins C dx fs))(c:Cls X.K C)(k:c7B X.K C m g)(l:fs.lookup m=none)
  (h:Q (.ref g,[.ref a]) s):wpAny (model X.prog X.w) A (b9N (.ref a) m pl) Q E s:=by
 obtain⟨mA,O,r,_,_,_⟩:=a9r I.hok e
 have hn:mA m=none:=a4Q.none_of (by rw[<-l];exact r m)
 exact c1P I.kIn O (c.get m) k.at_ k.fn hn h
theorem b5J{Q:Unit->c9->Prop}(I:Inv X pins σ H s)(e:H a=some (.ins C dx fs))(c:Cls X.K C)(n:a3f X.K C f)(hl:fs.length<1000)(ry:F0 y u)
  (h:∀s',Inv X pins σ (upd H a (.ins C dx (a3j f y fs))) s'->Q () s'):wpAny (model X.prog X.w) A (setAttr (.ref a) f u) Q E s:=by
 obtain⟨mA,O,r,wi,_,ho⟩:=a9r I.hok e
 have hz:(fs.map (·.1)).length<=t6:=by rw[b5,sizeLine_eq];omega
 refine a9n I.kIn O c.sa c.po n.taker c.hd wi hz fun h' O' sb=>h _ ?_
 have hd:∃o,h'.get? dx=some o:=let⟨o,_,_,e',_⟩:=O'.ns; ⟨o,e'⟩
 refine I.write (x:=a) (e:=dx) (by rw[e];exact True.intro) (.inr ho) (fun b q hb z=>(sb.2 b hb).trans z) hd ?_
 refine⟨by rw[j7 O.ne];exact ho,?_,O.ne,O'.obj,_,O'.ns,fun g=>?_,fun g hg=>?_⟩
 ·have:=a8Q f y fs;omega
 ·show a4Q ((a3j f y fs).lookup g) (if g=f then some u else mA g)
  rw[a8P]
  by_cases q:g=f
  ·rw[if_pos q,if_pos q];exact ry
  ·rw[if_neg q,if_neg q];exact r g
 ·by_cases q:g=f
  ·rw[q];exact(a8s f y fs).1
  ·refine(a8s f y fs).2 g (wi g fun z=>hg ?_)
   show(if g=f then some u else mA g)=none
   rw[if_neg q];exact z
theorem Inv.made(I:Inv X pins σ H s):Inv X pins σ (upd (upd H s.heap.objs.size (.own (s.heap.objs.size+1))) (s.heap.objs.size+1) (.ins C s.heap.objs.size []))
  { s with heap:=(s.heap.push M6).push (S9 C s.heap.objs.size) }:=by
 have e1:(s.heap.push M6).get? s.heap.objs.size=some M6:=C3 s.heap rfl
 have e2:((s.heap.push M6).push (S9 C s.heap.objs.size)).get? (s.heap.objs.size+1)=some (S9 C s.heap.objs.size):=by
  have:=C3 (s.heap.push M6) (o:=S9 C s.heap.objs.size) rfl
  rwa [a6S]at this
 have e3:(s.heap.push M6).Ns s.heap.objs.size (fun _=>none):=⟨M6,#[],_,e1,rfl,(fun e he=>absurd he (by simp)),fun _=>rfl⟩
 have I1:=I.laid (a:=s.heap.objs.size) (o:=.own (s.heap.objs.size+1)) (h':=s.heap.push M6) (t':=s.toks) (fun b u q=>d4 _ q) (j9 _) ⟨_,e1⟩
 refine I1.laid (a:=s.heap.objs.size+1) (o:=.ins C s.heap.objs.size []) (t':=s.toks) (fun b u q=>d4 _ q) (b0L (a6S _ _)) ?_
 have ne:s.heap.objs.size≠s.heap.objs.size+1:=v5 (c7G _)
 refine⟨by rw[j7 ne,g9],L5 _,ne,e2,fun _=>none,(b9C e3).at fun o q=>d4 _ q,fun _=>True.intro,fun y hy=>absurd rfl hy⟩
theorem b7V{prog:w4}{env:Env}(hb:X0 e f env (eval e env)=eval e env)
  (h:wpAny (model prog w) A (eval e env) (fun o s₁=>wpAny (model prog w) A (getAttr o f true) Q E s₁) E s):wpAny (model prog w) A (eval (.Attribute e f pos) env) Q E s:=
 Attribute_any_ h (by rw[arm_eval_Attribute,hb])
end
def b8o(K:Fg)(ta:TE)(f:Str):TE:=fun σ H Q=>ta σ H fun x H1=>∃a C dx fs v,x=.ref a/\H1 a=some (.ins C dx fs)/\Cls K C/\a3f K C f/\fs.lookup f=some v/\Q v H1
def b8y(K:Fg)(ta tv:TE)(f:Str):TS:=fun D σ H=>tv σ H fun y H1=>ta σ H1 fun x H2=>∃a C dx fs,x=.ref a/\H2 a=some (.ins C dx fs)/\Cls K C/\a3f K C f/\fs.length<1000 /\
 D.nx σ (upd H2 a (.ins C dx (a3j f y fs)))
section
variable {o value:Expr}{f:Str}{pos' tpos:Pos}{tv:TE}
theorem c6z(he:PE X e ta)(hb:X0 e f X.env (eval e X.env)=eval e X.env):PE X (.Attribute e f pos) (b8o X.K ta f):=by
 intro pins s σ H Q I h
 refine b7V hb (thn (he pins s σ H _ I h) fun u s1 ⟨x,H1,I1,rx,a,C,dx,fs,v,ex,ea,c,n,l,q⟩=>?_)
 subst ex
 obtain rfl:u=Value.ref a:=rx
 exact b6I I1 ea c n l fun u' s2 I2 ru=>⟨v,H1,I2,ru,q⟩
theorem c6k(ha:PE X o ta)(hv:PE X value tv)(hs:a1w value (some (.Attribute o f pos')) pos.line X.env=pure false):PS X (.Assign [.Attribute o f pos'] value pos) (b8y X.K ta tv f):=by
 intro pins s σ H D I h
 refine plainObj_wpAny_Assign_Attribute (thn (hv pins s σ H _ I h) fun u s1 ⟨y,H1,I1,ry,q⟩=>thn (ha pins s1 σ H1 _ I1 q) fun ov s2 ⟨x,H2,I2,rx,a,C,dx,fs,ex,ea,c,n,l,q2⟩=>?_) hs
 subst ex
 obtain rfl:ov=Value.ref a:=rx
 exact b5J I2 ea c n l ry fun s3 I3=>⟨σ,_,I3,q2⟩
end
section
variable {A:D8}{E:Value->c9->Prop}{c:Value}{b:Bool}
inductive a8z(K:Fg)(H:Hp):V->Value->Prop where
 | non:a8z K H .non (.type "NoneType")
 | bl (x:Bool):a8z K H (.bl x) (.type "bool")
 | int (i:Int):a8z K H (.int i) (.type "int")
 | str (x:Str):a8z K H (.str x) (.type "str")
 | flt (x:UInt64):a8z K H (.flt x) (.type "float")
 | lst {a:Addr} {xs:List V} (e:H a=some (.lst xs)):a8z K H (.ref a) (.type "list")
 | frz {a:Addr} {o:Obj} {xs:List V} (e:H a=some (.frz o (.lst xs))):a8z K H (.ref a) (.type "list")
 | tup {a:Addr} {xs:List V} (e:H a=some (.tup xs)):a8z K H (.ref a) (.type "tuple")
 | dK {a:Addr} {kvs:List (Key×V)} (e:H a=some (.dK kvs)):a8z K H (.ref a) (.type "dict")
 | dT {a:Addr} {kvs:List (List Key×V)} (e:H a=some (.dT kvs)):a8z K H (.ref a) (.type "dict")
 | ins {a C dx:Addr} {fs:List (Str×V)} (e:H a=some (.ins C dx fs)) (cl:Cls K C) (ha:A0 K (.ref C) "__class__" = some (some (.builtin "object.__class__")))
   (hn:a3J K (.builtin "object.__class__") "__get__" = some (some (.builtin "getset_descriptor.__get__"))) (htk:b0I K (.builtin "object.__class__")=some true)
   (hm:a2u K C (.type "object")=some true):a8z K H (.ref a) (.ref C)
theorem b9b{x:V}{t:Value}(I:Inv X pins σ H s)(rx:F0 x u)(ty:a8z X.K H x t)(e:a0F X.K t c=some b)(h:∀tk,Q (.bool b) { s with toks:=tk }) :
  wpAny (model X.prog X.w) A (call (.builtin "isinstance") [u,c]) Q E s:=by
 cases ty with
 | non=>cases (show u=Value.none from rx);exact O2 PySem.W.kitx_none I.kIn True.intro e (fun z=>nomatch z) h
 | bl y=>cases (show u=Value.bool y from rx);exact O2 PySem.W.kitx_bool I.kIn True.intro e (fun z=>nomatch z) h
 | int i=>obtain⟨t,q⟩:=(show ∃t,u=Value.int i t from rx);cases q;exact O2 PySem.W.kitx_int I.kIn True.intro e (fun z=>nomatch z) h
 | str y=>obtain⟨t,q⟩:=(show ∃t,u=Value.str y t from rx);cases q;exact O2 PySem.W.kitx_str I.kIn True.intro e (fun z=>nomatch z) h
 | flt y=>obtain⟨t,q⟩:=(show ∃t,u=Value.float y t from rx);cases q;exact O2 PySem.W.kitx_float I.kIn True.intro e (fun z=>nomatch z) h
 | @lst a xs ea=>
  cases (show u=Value.ref a from rx)
  obtain⟨_,_,n,_,h1⟩:=(show T9 X.prog X.w H s.heap a (.lst xs)from I.hok a _ ea)
  exact O2 b9H I.kIn ⟨_,h1,rfl⟩ e (fun z=>nomatch z) h
 | @frz a ob xs ea=>
  cases (show u=Value.ref a from rx)
  obtain⟨_,_,_,n,_,h1⟩:=(show T9 X.prog X.w H s.heap a (.frz ob (.lst xs))from I.hok a _ ea)
  exact O2 b9H I.kIn ⟨_,h1,rfl⟩ e (fun z=>nomatch z) h
 | @tup a xs ea=>
  cases (show u=Value.ref a from rx)
  obtain⟨_,_,_,p⟩:=(show T9 X.prog X.w H s.heap a (.tup xs)from I.hok a _ ea)
  obtain⟨o,h1,h2,_⟩:=p
  exact O2 PySem.W.kitx_tuple I.kIn ⟨o,h1,h2⟩ e (fun z=>nomatch z) h
 | @dK a kvs ea=>
  cases (show u=Value.ref a from rx)
  obtain⟨_,_,vs,_,p⟩:=(show T9 X.prog X.w H s.heap a (.dK kvs)from I.hok a _ ea)
  obtain⟨o,es,ep,h1,h2,_⟩:=p
  exact O2 b9I I.kIn ⟨o,h1,h2.1⟩ e (fun z=>nomatch z) h
 | @dT a kvs ea=>
  cases (show u=Value.ref a from rx)
  obtain⟨_,_,xs,_,o,es,ep,h1,h2,_⟩:=(show T9 X.prog X.w H s.heap a (.dT kvs)from I.hok a _ ea)
  exact O2 b9I I.kIn ⟨o,h1,h2.1⟩ e (fun z=>nomatch z) h
 | @ins a C dx fs ea cl ha hn htk hm=>
  cases (show u=Value.ref a from rx)
  obtain⟨mA,O,_⟩:=a9r I.hok ea
  obtain⟨od,J,_⟩:=O.look
  exact O2 (PySem.W.kitx_own (cl.get _) cl.hd ha hn htk hm) I.kIn J e (fun z=>nomatch z) h
end
structure S0(k:Nat)(A:D8):Prop where
 hd:A.handled=none
 dp:A.depth+3 * k+5<recursionLimit
 un:A.units+16 * k+200<cLine
 gd:A.guards=some []
theorem S0.mono{j k:Nat}{A:D8}(r:S0 k A)(h:j<=k):S0 j A:=⟨r.hd,by have:=r.dp;omega,by have:=r.un;omega,r.gd⟩
theorem S0.deeper{k:Nat}{A:D8}(r:S0 (k+1) A)(env:Env):S0 k (A.deeper env):=
 ⟨r.hd,by have:=r.dp;show A.depth+1+3 * k+5<_;omega,by have:=r.un;show A.units+3+16 * k+200<_;omega,r.gd⟩
theorem b6x{A:D8}:(A.under (.builtin "type.__call__" ⟨.ref C::us,kw⟩)).depth=A.depth+1:=by
 first | rfl | simp[Around.under,Code.weight,Code.isCreation,Code.isGuard,Code.isCaller,Code.frames,Code.isFrame,guardIds]
theorem b6w{A:D8}:(A.under (.builtin "type.__call__" ⟨.ref C::us,kw⟩)).units=A.units+1:=by
 first | rfl | simp[Around.under,Code.cUnits,Code.frames,Code.isFrame]
theorem b4H{A:D8}:(A.under (.builtin "type.__call__" ⟨.ref C::us,kw⟩)).guards=A.guards:=by
 first | rfl | simp[Around.under,Code.isGuard,guardIds,Code.guards]
theorem S0.make{k:Nat}{A:D8}(r:S0 (k+1) A)(C:Addr)(us:List Value)(kw:List (Str×Value)):S0 k (A.under (.builtin "type.__call__" ⟨.ref C::us,kw⟩)):=
 ⟨r.hd,by have:=r.dp;rw[b6x];omega,by have:=r.un;rw[b6w];omega,by rw[b4H];exact r.gd⟩
theorem S0.depth{k:Nat}{A:D8}(r:S0 k A):A.depth<recursionLimit:=by have:=r.dp;omega
theorem S0.units{k:Nat}{A:D8}(r:S0 k A):A.units+64<cLine:=by have:=r.un;omega
theorem S0.units0{k:Nat}{A:D8}(r:S0 k A):A.units<cLine:=by have:=r.un;omega
def c6:TA:=fun _ H Q=>Q [] H
def a8(ta:TE)(tr:TA):TA:=fun σ H Q=>ta σ H fun x H1=>tr σ H1 fun xs H2=>Q (x::xs) H2
section
variable {t:TA}
theorem c6D:PA X [] c6:=fun _ _ _ _ H Q I h=>Calls.spliced_nil ⟨[],H,I,.nil,h⟩
theorem c3D(ha:PE X e te)(hr:PA X es t)(hs:j5 (e::es) X.env=(false,eval e X.env)::j5 es X.env:=by rfl):PA X (e::es) (a8 te t):=by
 intro pos pins s σ H Q I h
 rw[hs]
 show wpAny _ _ (spliced ((false,eval e X.env)::X9 pos (j5 es X.env))) _ _ s
 refine Calls.spliced_cons (thn (ha pins s σ H _ I h) fun u s1 ⟨x,H1,I1,r1,q1⟩=>?_)
 exact thn (hr pos pins s1 σ H1 _ I1 q1) fun us s2 ⟨xs,H2,I2,r2,q2⟩=>⟨x::xs,H2,I2,.cons r1 r2,q2⟩
def J7(t:TA):TE:=fun σ H Q=>t σ H fun xs H1=>xs.length<=t6/\∀p,H1 p=none->Q (.ref p) (upd H1 p (.tup xs))
def F1(t:TA):TE:=fun σ H Q=>t σ H fun xs H1=>xs.length<=t6/\∀p,H1 p=none->Q (.ref p) (upd H1 p (.lst xs))
theorem c6q{x1}(h:PA X es t):PE X (.Tuple es x1 pos) (J7 t):=by
 intro pins s σ H Q I hq
 refine wpAny_Tuple_spliced (thn (h pos pins s σ H _ I hq) fun us s1 ⟨xs,H1,I1,r,z,q⟩=>⟨by rw[<-r.length];exact z,?_⟩)
 have hf:H1 s1.heap.objs.size=none:=I1.hok.fresh (j9 _)
 refine⟨.ref s1.heap.objs.size,upd H1 s1.heap.objs.size (.tup xs),I1.laid (t':=s1.toks) (fun b u e=>d4 _ e) (j9 _) ?_,rfl,q _ hf⟩
 exact⟨z,us,r,⟨_,C3 _ rfl,rfl,_,rfl⟩⟩
theorem c6x(h:PA X es t):PE X (.List es pos) (F1 t):=by
 intro pins s σ H Q I hq
 refine wpAny_List_spliced (thn (h pos pins s σ H _ I hq) fun us s1 ⟨xs,H1,I1,r,z,q⟩=>⟨by rw[<-r.length];exact z,?_⟩)
 have hf:H1 s1.heap.objs.size=none:=I1.hok.fresh (j9 _)
 refine⟨.ref s1.heap.objs.size,upd H1 s1.heap.objs.size (.lst xs),I1.laid (t':=s1.toks) (fun b u e=>d4 _ e) (j9 _) ?_,rfl,q _ hf⟩
 exact⟨z,us,0,r,C3 _ rfl⟩
end
abbrev Sp:=List V->Hp->VK->XK->Prop
abbrev CXT:=List Env->Hp->c9->XK->Value->c9->Prop
variable{CX:CXT}
structure b3t(P:w4)(w:World)(K:Fg)(mg:Str->Option Value)(base:Heap)(A:D8)(outer:List Env)(s:c9)(H:Hp):Prop where
 frames:A.frames=some outer
 mod:Mod K mg base
 bs:∀b o,base.get? b=some o->s.heap.get? b=some o/\H b=none
 bsz:base.objs.size<=s.heap.objs.size
 funs:s.heap.FunFrames base outer
 frf:∀b∈frs outer,H b=none
 hok:HOk P w H s.heap
 bare:a9B s.gens
def CE(outer:List Env)(P:w4)(w:World)(H:Hp)(s:c9)(Q:VK)(u:Value)(s':c9):Prop:=
 ∃v H',s'.os=s.os/\a9B s'.gens/\Un (frs outer) [] H H' s.heap s'.heap/\HOk P w H' s'.heap/\F0 v u/\Q v H'
def CR(CX:CXT)(outer:List Env)(P:w4)(w:World)(H:Hp)(s:c9)(Q:VK)(E:XK)(r:b1p)(s':c9):Prop:=
 match r with
 | .ok (.ret u)=>CE outer P w H s Q u s'
 | .ok _=>False
 | .error e=>CX outer H s E e s'
structure F8(P:w4)(w:World)(K:Fg)(mg:Str->Option Value)(base:Heap)(CX:CXT)(k:Nat)(f:Addr)(fd:Q1)(ps:List Str)(sp:Sp):Prop where
 len:∀vs H Q E,sp vs H Q E->vs.length=ps.length
 run:∀(A:D8) (outer:List Env) (s:c9) (H:Hp) (args:Args) (us:List Value) (vs:List V) (Q:VK) (E:XK),S0 k A->b3t P w K mg base A outer s H->b5v s fd args (ps.zip us)->J2 vs us->sp vs H Q E ->
  a1U (model P w) A (.call (.ref f) args) (CR CX outer P w H s Q E) s
theorem b3t.make{P:w4}{K:Fg}{mg:Str->Option Value}{base:Heap}{A:D8}{outer:List Env}(e:b3t P w K mg base A outer s H)(C:Addr)(us:List Value)(kw:List (Str×Value)) :
  b3t P w K mg base (A.under (.builtin "type.__call__" ⟨.ref C::us,kw⟩)) outer s H:=⟨by first | exact e.frames | (simpa[Around.under,Code.envs,Code.isFrame,pushEnvs]using e.frames),e.mod,e.bs,e.bsz,e.funs,e.frf,e.hok,e.bare⟩
section
variable {s':c9}
theorem Inv.env0(I:Inv X pins σ H s):b3t X.prog X.w X.K X.mg X.base X.A X.stack s H:=
 ⟨I.ok.frames,I.ok.mod,I.bs,F3 I.ok.bsz I.sz,I.stack,I.stkFree,I.hok,I.bare⟩
theorem Inv.after{Q:VK}(I:Inv X pins σ H s)(h:CE X.stack X.prog X.w H s Q u s'):EP X pins σ Q u s':=by
 obtain⟨v,H',os,bare,un,hok,r,q⟩:=h
 obtain⟨hh,g,d,t,os'⟩:=s'
 obtain rfl:os'=s.os:=os
 exact⟨v,H',I.call (h':=hh) (g':=g) (d':=d) (t':=t) (ch:=[]) un hok bare (fun b z=>absurd z (by simp)),r,q⟩
end
def t8(sp:Sp)(dvs:List V)(E:XK)(t:TA):TE:=fun σ H Q=>t σ H fun vs H1=>sp (vs++dvs) H1 Q E
def b3U(C:Addr)(m:Str)(sp:Sp)(dvs:List V)(E:XK)(ta:TE)(t:TA):TE:=fun σ H Q=>ta σ H fun x H1=>∃a dx fs,x=.ref a/\H1 a=some (.ins C dx fs)/\fs.lookup m=none /\
 t σ H1 fun vs H2=>sp (x::(vs++dvs)) H2 Q E
def a2r(K:Fg)(fd:Q1)(ps:List Str)(ds:List Value):Prop:=
 ∀(s:c9) (us:List Value),K.In s.heap->(us++ds).length=ps.length->b5v s fd ⟨us,[]⟩ (ps.zip (us++ds))
theorem a2r.all{K:Fg}{fd:Q1}(h:∀us:List Value,us.length=ps.length->bindArgs fd ⟨us,[]⟩=pure (ps.zip us)):a2r K fd ps []:=fun s us _ hl=>by
 rw[L7]at hl ⊢
 exact .of_eq (h us hl)
def b3q(CX:CXT)(X:Cx)(E:XK):Prop:=∀(pins:List (Addr×Obj)) (σ:St) (H:Hp) (s:c9) (e:Value) (s':c9),Inv X pins σ H s->CX X.stack H s E e s'->X.xe e s'
section
variable {k:Nat}{fd:Q1}{sp:Sp}{dvs:List V}{ds:List Value}{E:XK}{x m:Str}{apos:Pos}{o:Expr}{t:TA}
theorem c0H{Q:VK}{vs:List V}(F:F8 X.prog X.w X.K X.mg X.base CX k f fd ps sp)(hr:S0 k X.A)(hb:a2r X.K fd ps ds)(hd:J2 dvs ds)(hx:b3q CX X E)
  (I:Inv X pins σ H s) (r:J2 vs us) (h:sp (vs++dvs) H Q E):wpAny (model X.prog X.w) X.A (call (.ref f) us) (EP X pins σ Q) X.xe s:=by
 have r2:J2 (vs++dvs) (us++ds):=r.append hd
 have hl:(us++ds).length=ps.length:=by rw[<-r2.length];exact F.len _ _ _ _ h
 refine wpAny_call (a2F (F.run X.A X.stack s H ⟨us,[]⟩ (us++ds) (vs++dvs) Q E hr I.env0 (hb s us I.kIn hl) r2 h) fun r s' hq=>?_)
 cases r with
 | error e=>exact hx pins σ H s e s' I hq
 | ok fl=>
  cases fl with
  | ret u=>exact I.after hq
  | next=>exact False.elim hq
  | brk=>exact False.elim hq
  | cont=>exact False.elim hq
theorem c3B(F:F8 X.prog X.w X.K X.mg X.base CX k f fd ps sp)(hr:S0 k X.A)(hg:Gl X x)(hm:X.mg x=some (.ref f))(hk:Q7 X.K (.ref f)=true)(hb:a2r X.K fd ps ds)(hd:J2 dvs ds)(hx:b3q CX X E)
  (ha:PA X (e::es) t) (hdb:(x == ("__debug__" : Str))=false:=by decide) (he:j5 (e::es) X.env=(false,eval e X.env)::j5 es X.env:=by rfl) (hpl:(X9 pos (j5 es X.env)).any (·.1)=false:=by rfl) :
  PE X (.Call (.Name x p) (e::es) [] pos) (t8 sp dvs E t):=by
 intro pins s σ H Q I h
 refine Z3 (a4m I hg hm ?_ hdb)
 refine Z7 (h₀:=X.base) I.ok.mod.kin hk (thn (ha pos pins s σ H _ I h) fun us s1 ⟨vs,H1,I1,r,q⟩=>⟨I1.kIn,?_⟩) he hpl
 exact c0H F hr hb hd hx I1 r q
theorem c3w{pl:Sem Bool}(he:PE X o ta)(c:Cls X.K C)(hm:c7B X.K C m f)(F:F8 X.prog X.w X.K X.mg X.base CX k f fd ps sp)(hr:S0 k X.A)(hb:a2r X.K fd ps ds)(hd:J2 dvs ds)(hx:b3q CX X E)(ha:PA X (e::es) t)
  (hst:j5 (e::es) X.env=(false,eval e X.env)::j5 es X.env:=by rfl) (hpl:(X9 pos (j5 es X.env)).any (·.1)=false:=by rfl)
  (ht:eval (.Call (.Attribute o m apos) (e::es) [] pos) X.env=(do
   let ov <-eval o X.env
   b9M apos.atName
   let(f,first) <-a3Z [ov] (b9N ov m pl)
   callWith pos f first (X9 pos (j5 (e::es) X.env)) (b3B pos (a4Y [] X.env))):=by rfl) :
  PE X (.Call (.Attribute o m apos) (e::es) [] pos) (b3U C m sp dvs E ta t):=by
 intro pins s σ H Q I h
 refine PySem.W.methodCall_KW (pl:=pl) (thn (he pins s σ H _ I h) fun u s1 ⟨x,H1,I1,rx,a,dx,fs,ex,ea,l,q⟩=>?_) ht
 subst ex
 obtain rfl:u=Value.ref a:=rx
 refine b6H I1 ea c hm l ?_
 refine Z7 (first:=[.ref a]) (h₀:=X.base) I.ok.mod.kin hm.kp (thn (ha pos pins s1 σ H1 _ I1 q) fun us s2 ⟨vs,H2,I2,r,q2⟩=>⟨I2.kIn,?_⟩) hst hpl
 exact c0H (us:=.ref a::us) (vs:=.ref a::vs) F hr hb hd hx I2 (.cons rfl r) q2
structure Mk(K:Fg)(C f:Addr):Prop where
 makes:a4S K C=true
 init:A0 K (.ref C) "__init__" = some (some (.ref f))
 fn:a8E K (.ref f)=true
 kp:Q7 K (.ref C)=true
end
section
variable {k:Nat}{fd:Q1}{ks:List Str}{sp:Sp}{E:XK}{x m:Str}{apos kpos:Pos}{o:Expr}{kws:List b2i}{t tk:TA}{nm:Option Str}
structure c9z(K:Fg)(fd:Q1)(ps ks:List Str)(g:List Value->List Value->List Value)(gV:List V->List V->List V):Prop where
 to:∀(s:c9) (us ws:List Value),K.In s.heap->(g us ws).length=ps.length->b5v s fd ⟨us,ks.zip ws⟩ (ps.zip (g us ws))
 rel:∀ {vs:List V} {us:List Value} {zs:List V} {ws:List Value},J2 vs us->J2 zs ws->J2 (gV vs zs) (g us ws)
variable {g:List Value->List Value->List Value}{gV:List V->List V->List V}
end
structure C2(N P:List Str)(sc:Scope):Prop where
 kind:sc.kind=.function
 co:sc.isCoroutine=false
 gen:sc.isGenerator=false
 nd:N.Nodup
 pre:N.take P.length=P
 par:∀x∈P,sc.names.lookup x=some .local\/sc.names.lookup x=some .cell
 nofree:∀y∈sc.names,y.2≠.free
theorem b1Z{kindOf:Str->Option a6a}{x:Str}:∀ {binds:List (Str×Value)} {m:Str->Option Value},(∀v,(x,v)∉binds)->bindL kindOf binds m x=m x
 | [],_,_=>rfl
 | (n,v)::r,m,h=>by
  unfold bindL
  rw[b1Z fun w hw=>h w (E8 _ hw)]
  split
  ·have:x≠n:=by rintro rfl;exact h v J3
   simp[this]
  ·rfl
theorem b2b{kindOf:Str->Option a6a}{x:Str}:∀ {binds:List (Str×Value)} {m:Str->Option Value},(∀v,(x,v)∉binds)->bindC kindOf binds m x=m x
 | [],_,_=>rfl
 | (n,v)::r,m,h=>by
  unfold bindC
  rw[b2b fun w hw=>h w (E8 _ hw)]
  split
  ·rfl
  ·have:x≠n:=by rintro rfl;exact h v J3
   simp[this]
theorem b2a{kindOf:Str->Option a6a}{x:Str}{v:Value}:∀ {P:List Str} {vs:List Value} {i:Nat} {m:Str->Option Value},P.Nodup->P[i]? = some x->vs[i]? = some v->kindOf x=some .local ->
  bindL kindOf (P.zip vs) m x=some v
 | [],_,_,_,_,h,_,_=>by simp at h
 | _::_,[],_,_,_,_,h,_=>by simp at h
 | p::P,w::vs,0,m,nd,h1,h2,hk=>by
  simp at h1 h2;subst h1;subst h2
  show bindL kindOf ((p,w)::P.zip vs) m p=_
  unfold bindL
  rw[b1Z fun v hv=>(X5.mp nd).1 (a5Y hv).1,if_pos hk]
  simp
 | p::P,w::vs,i+1,m,nd,h1,h2,hk=>by
  show bindL kindOf ((p,w)::P.zip vs) m x=_
  unfold bindL
  exact b2a (i:=i) (X5.mp nd).2 (by simpa using h1) (by simpa using h2) hk
theorem b2c{kindOf:Str->Option a6a}{x:Str}{v:Value}:∀ {P:List Str} {vs:List Value} {i:Nat} {m:Str->Option Value},P.Nodup->P[i]? = some x->vs[i]? = some v->kindOf x≠some .local ->
  bindC kindOf (P.zip vs) m x=some v
 | [],_,_,_,_,h,_,_=>by simp at h
 | _::_,[],_,_,_,_,h,_=>by simp at h
 | p::P,w::vs,0,m,nd,h1,h2,hk=>by
  simp at h1 h2;subst h1;subst h2
  show bindC kindOf ((p,w)::P.zip vs) m p=_
  unfold bindC
  rw[b2b fun v hv=>(X5.mp nd).1 (a5Y hv).1,if_neg hk]
  simp
 | p::P,w::vs,i+1,m,nd,h1,h2,hk=>by
  show bindC kindOf ((p,w)::P.zip vs) m x=_
  unfold bindC
  exact b2c (i:=i) (X5.mp nd).2 (by simpa using h1) (by simpa using h2) hk
def a2U(N:List Str)(vs:List V):St:=vs.map some++g7 (N.length - vs.length) none
def a5T(CX:CXT)(P:w4)(w:World)(K:Fg)(mg:Str->Option Value)(base:Heap)(N:List Str)(qual:Str)(scope:Scope)(f:Addr)(cd:Value)(A:D8)(outer:List Env)(s:c9)(H:Hp)(E:XK):Cx where
 prog:=P
 w:=w
 K:=K
 mg:=mg
 base:=base
 A:=A.deeper (a4Z qual scope s.heap.objs.size f cd)
 N:=N
 s₀:=s
 H₀:=H
 env:=a4Z qual scope s.heap.objs.size f cd
 outer:=outer
 stack:=a4Z qual scope s.heap.objs.size f cd::outer
 ex:=[]
 calm:=true
 fn:=fun _=>true
 pn:=[]
 xe:=fun e s'=>wpAny (model P w) (A.deeper (a4Z qual scope s.heap.objs.size f cd)) (leaving (a4Z qual scope s.heap.objs.size f cd) e) (fun _ s''=>CX outer H s E e s'') (fun e' s''=>CX outer H s E e' s'') s'
theorem b5b{sc:Scope}{n:Nat}{x:Str}(h:sc.names.lookup x=some .cell):∃c,(cellsFrom n sc.names []).lookup x=some c:=by
 have q:=a4R sc.names n [] (.inl h)
 exact X7.mp q
theorem b1S{P:w4}{K:Fg}{mg:Str->Option Value}{base:Heap}{N:List Str}{qual:Str}{scope:Scope}{cd:Value}{A:D8}{outer:List Env}{s1:c9}{E:XK}{vs:List V}
  (S:C2 N ps scope) (hd:A.handled=none) (e0:b3t P w K mg base A outer s H) (hl:vs.length=ps.length) (r:J2 vs us)
  (x:InCallC s s.heap.objs.size (bindL (a4Z qual scope s.heap.objs.size f cd).kindOf (ps.zip us) fun _=>none) (cellsFrom (s.heap.objs.size+1) scope.names []) (bindC (a4Z qual scope s.heap.objs.size f cd).kindOf (ps.zip us) fun _=>none) s1) :
  Inv (a5T CX P w K mg base N qual scope f cd A outer s H E) [] (a2U N vs) H s1:=by
 have hpl:ps.length<=N.length:=by have:=congrArg List.length S.pre;rw[J0]at this;omega
 obtain⟨h1,tk,rfl,hk⟩:=x.done
 have noA:∀b:Addr,b∉(a5T CX P w K mg base N qual scope f cd A outer s H E).ex:=fun b z=>absurd (show b∈([]:List Addr)from z) (by simp)
 refine⟨⟨e0.mod,S.kind,rfl,rfl,j9 _,fun y z c h1 h2=>?_,fun y hy=>?_,fun y c _ h=>?_,fun _=>hd,Around.frames_deeper e0.frames,.inr ⟨rfl,rfl⟩,fun b z=>absurd z (noA b),e0.bs,e0.bsz,fun b _ _=>noA b,fun b z=>absurd z (noA b),e0.funs,e0.frf⟩,
  rfl,e0.bare,Un.kept hk,⟨_,x.toInCall.ns,fun i y v h1 h2 h3=>?_⟩,fun y c h=>⟨_,x.cell y c h⟩,e0.hok.fresh (j9 _),fun y c h=>?_,fun p hp=>absurd (show p∈([]:List (Addr×Obj))from hp) (by simp),e0.hok.kept hk,?_⟩
 ·exact name_of_addr x.apart (D6 h1) (D6 h2)
 ·have hy:scope.names.lookup y=some .cell\/scope.names.lookup y=some .free:=hy
  rcases hy with hy | hy
  ·exact b5b hy
  ·exact absurd rfl (S.nofree _ (D6 hy))
 ·exact a5X (x.above y c (D6 h))
 ·have hi:i<vs.length:=by
   unfold a2U at h2
   by_cases hi:i<vs.length
   ·exact hi
   ·rw[P6 (by simpa using hi)]at h2
    rw[D0]at h2
    split at h2 <;> cases h2
  have ha:vs[i]? = some v:=by
   unfold a2U at h2
   rw[Q4 (by simpa using hi),c8]at h2
   cases e:vs[i]? with
   | none=>rw[e]at h2;cases h2
   | some a=>rw[e]at h2;cases h2;rfl
  obtain⟨u,hu,rv⟩:=r.get ha
  have hp:ps[i]? = some y:=by
   rw[<-S.pre,List.getElem?_take_of_lt (by omega)];exact h1
  have ndP:ps.Nodup:=by rw[<-S.pre];exact S.nd.sublist (List.take_sublist _ _)
  refine⟨u,rv,?_⟩
  rcases S.par y (a0N hp)with k | k
  ·exact .inl ⟨k,b2a ndP hp hu k⟩
  ·obtain⟨c,e⟩:=b5b (n:=s.heap.objs.size+1) k
   refine .inr ⟨.inl k,c,e,?_⟩
   have q:=x.cell y c e
   rw[b2c ndP hp hu (by show scope.names.lookup y≠_;rw[k];decide)]at q
   exact q
 ·exact e0.hok.fresh (a5X (x.above y c (D6 h)))
 ·unfold a2U
  show _=N.length
  rw[u9,b5,G0]
  omega
theorem c5n{P:w4}{K:Fg}{mg:Str->Option Value}{base:Heap}{k:Nat}{name qual:Str}{params:Arguments}{body:List Stmt}{scope:Scope}{dV kV doc pm cdv ct oc:Value}{an od:Option Addr}
  {osl:Array (Option Value)} {N ps:List Str} {sp:Sp} (lk:K.lookup f=some ⟨oc,od,.func (a0L name qual params body scope dV kV doc pm an cdv ct),osl⟩) (hcd:a5W K cdv qual=true) (S:C2 N ps scope)
  (len:∀vs H Q E,sp vs H Q E->vs.length=ps.length)
  (hbody:∀(A:D8) (outer:List Env) (s:c9) (H:Hp) (vs:List V) (Q:VK) (E:XK),S0 k (A.deeper (a4Z qual scope s.heap.objs.size f cdv))->sp vs H Q E ->
   ∃t,PSs (a5T CX P w K mg base N qual scope f cdv A outer s H E) body t/\t { nx:=fun _ H'=>Q .non H',rt:=Q } (a2U N vs) H) :
  F8 P w K mg base CX (k+1) f (a0L name qual params body scope dV kV doc pm an cdv ct) ps sp:=by
 refine⟨len,fun A outer s H args us vs Q E hr e0 hb r hsp=>?_⟩
 have hl:=len _ _ _ _ hsp
 have KX:K.In s.heap:=e0.mod.kin.keeps fun b o e=>(e0.bs b o e).1
 have lim:s.heap.NoLimit:=e0.mod.nolimit.keeps fun b o e=>(e0.bs b o e).1
 have hkind:∀y∈ps.zip us,scope.names.lookup y.1=some .local\/(scope.names.lookup y.1=some .cell/\((cellsFrom (s.heap.objs.size+1) scope.names []).lookup y.1).isSome=true):=fun⟨n,v⟩ hy=>by
  rcases S.par n (a5Y hy).1 with q | q
  ·exact .inl q
  ·exact .inr ⟨q,a4R _ _ _ (.inl q)⟩
 refine codeAny_call_function hr.depth (KX _ _ lk) rfl S.co S.gen rfl (b9z KX hcd) (hb _ _ _ _ ?_)
 refine wpAny_newFunctionEnv_cells S.kind hkind fun env he s1 x=>?_
 subst he
 refine⟨lim.keeps x.toInCall.keep,codeAny_func ?_⟩
 obtain⟨t,ht,hq⟩:=hbody A outer s H vs Q E (hr.deeper _) hsp
 have I:Inv (a5T CX P w K mg base N qual scope f cdv A outer s H E) [] (a2U N vs) H s1:=b1S S hr.hd e0 hl r x
 refine O8 (ht [] s1 (a2U N vs) H _ I hq) (fun fl s' hs=>?_) fun e s' hs=>hs
 have fin:∀ {σ':St} {H':Hp} {v:V} {u:Value},Inv (a5T CX P w K mg base N qual scope f cdv A outer s H E) [] σ' H' s'->F0 v u->Q v H'->CE outer P w H s Q u s':=
  fun {σ' H' v u} J rv q=>⟨v,H',J.os,J.bare,J.base,J.hok,rv,q⟩
 cases fl with
 | ret u=>
  obtain⟨v,σ',H',J,rv,q⟩:=hs
  exact fin J rv q
 | next=>
  obtain⟨σ',H',J,q⟩:=hs
  exact fin (v:=V.non) (u:=Value.none) J rfl q
 | brk=>
  obtain⟨_,_,_,q⟩:=hs
  exact False.elim q
 | cont=>
  obtain⟨_,_,_,q⟩:=hs
  exact False.elim q
section
variable {x:Str}{t:TA}{id T:String}{r:List V->Hp->VK->Prop}
def tCB(r:List V->Hp->VK->Prop)(t:TA):TE:=fun σ H Q=>t σ H fun vs H1=>r vs H1 Q
theorem c1h(hc:V5 X (.builtin id) r)(hg:Gl X x)(hm:X.mg x=none)(hv:a0G x=some (.builtin id))(ha:PA X (e::es) t)(hn:x ≠ "__name__" := by decide)(hdb:(x == ("__debug__" : Str))=false:=by decide)
  (he:j5 (e::es) X.env=(false,eval e X.env)::j5 es X.env:=by rfl) (hpl:(X9 pos (j5 es X.env)).any (·.1)=false:=by rfl):PE X (.Call (.Name x p) (e::es) [] pos) (tCB r t):=by
 intro pins s σ H Q I h
 refine Z3 (a8q I hg hm hv ?_ hn hdb)
 exact PyProof.Rows.callWith_builtin1 (thn (ha pos pins s σ H _ I h) fun us s1 ⟨vs,H1,I1,r1,q1⟩=>hc pins s1 σ H1 vs us Q I1 r1 q1) he hpl
theorem b8G(hc:V5 X (.type T) r)(hg:Gl X x)(hm:X.mg x=none)(hv:a0G x=some (.type T))(ha:PA X (e::es) t)(hn:x ≠ "__name__" := by decide)(hdb:(x == ("__debug__" : Str))=false:=by decide)
  (he:j5 (e::es) X.env=(false,eval e X.env)::j5 es X.env:=by rfl) (hpl:(X9 pos (j5 es X.env)).any (·.1)=false:=by rfl):PE X (.Call (.Name x p) (e::es) [] pos) (tCB r t):=by
 intro pins s σ H Q I h
 refine Z3 (a8q I hg hm hv ?_ hn hdb)
 exact Z8 (thn (ha pos pins s σ H _ I h) fun us s1 ⟨vs,H1,I1,r1,q1⟩=>hc pins s1 σ H1 vs us Q I1 r1 q1) he hpl
end
section
variable {κ:Type}[DecidableEq κ]
def a9a(kvs:List (κ×V))(k:κ):Option V:=(kvs.find? fun kv=>decide (kv.1=k)).map (·.2)
def a5l(kvs:List (κ×V))(k:κ)(v:V):List (κ×V):=
 if(kvs.any fun kv=>decide (kv.1=k))=true then kvs.map (fun kv=>if kv.1=k then (kv.1,v)else kv)else kvs++[(k,v)]
theorem a7e{p:κ×V}{r:List (κ×V)}{k:κ}(e:p.1=k):a9a (p::r) k=some p.2:=by simp[a9a,a1N,e]
theorem a7f{p:κ×V}{r:List (κ×V)}{k:κ}(e:¬p.1=k):a9a (p::r) k=a9a r k:=by simp[a9a,a1N,e]
theorem a9K(k:κ):∀kvs:List (κ×V),(kvs.any fun kv=>decide (kv.1=k))=(a9a kvs k).isSome
 | []=>rfl
 | p::r=>by
  rw[a1u]
  by_cases e:p.1=k
  ·simp only[a7e e,d0K e,Bool.true_or,Option.isSome_some]
  ·rw[a7f e,d0J e,b5u];exact a9K k r
theorem a5q(kvs:List (κ×V))(k:κ)(v:V):(a5l kvs k v).length<=kvs.length+1:=by
 unfold a5l
 split
 ·rw[b5];omega
 ·rw[u9,z9,a3h];omega
theorem a4Q.isSome_eq{o:Option V}{u:Option Value}(r:a4Q o u):o.isSome=u.isSome:=by
 cases o with
 | none=>cases u with
  | none=>rfl
  | some _=>exact(show False from r).elim
 | some _=>cases u with
  | none=>exact(show False from r).elim
  | some _=>rfl
theorem KV.val{kvs:List (κ×V)}{vs:List (κ×Value)}(r:KV kvs vs)(k:κ):a4Q (a9a kvs k) (c5x vs k):=by
 unfold KV at r
 induction r with
 | nil=>exact True.intro
 | @cons p q ps qs h t ih=>
  obtain⟨h1,h2⟩:=h
  by_cases e:p.1=k
  ·have e':q.1=k:=h1.symm.trans e
   have b:c5x (q::qs) k=some q.2:=by simp[c5x,a1N,e']
   rw[a7e e,b];exact h2
  ·have e':¬q.1=k:=fun z=>e (h1.trans z)
   have b:c5x (q::qs) k=c5x qs k:=by simp[c5x,a1N,e']
   rw[a7f e,b];exact ih
theorem KV.any{kvs:List (κ×V)}{vs:List (κ×Value)}(r:KV kvs vs)(k:κ):(kvs.any fun kv=>decide (kv.1=k))=vs.any fun kv=>decide (kv.1=k):=by
 unfold KV at r
 induction r with
 | nil=>rfl
 | cons h t ih=>rw[a1u,a1u,ih,h.1]
theorem KV.repl{kvs:List (κ×V)}{vs:List (κ×Value)}(r:KV kvs vs)(k:κ)(ry:F0 y u) :
  KV (kvs.map fun kv=>if kv.1=k then (kv.1,y)else kv) (vs.map fun kv=>if kv.1=k then (kv.1,u)else kv):=by
 unfold KV at r ⊢
 induction r with
 | nil=>exact .nil
 | @cons p q ps qs h t ih=>
  rw[L6,L6]
  refine .cons ?_ ih
  obtain⟨h1,h2⟩:=h
  by_cases e:p.1=k
  ·rw[if_pos e,if_pos (h1.symm.trans e)];exact⟨h1,ry⟩
  ·rw[if_neg e,if_neg (fun z=>e (h1.trans z))];exact⟨h1,h2⟩
theorem KV.put{kvs:List (κ×V)}{vs:List (κ×Value)}(r:KV kvs vs)(k:κ)(ry:F0 y u):KV (a5l kvs k y) (stored vs k u):=by
 unfold a5l stored
 rw[r.any k]
 by_cases e:(vs.any fun kv=>decide (kv.1=k))=true
 ·rw[if_pos e,if_pos e];exact r.repl k ry
 ·rw[if_neg e,if_neg e];exact Paired.snoc r ⟨rfl,ry⟩
theorem KV.length{kvs:List (κ×V)}{vs:List (κ×Value)}(r:KV kvs vs):kvs.length=vs.length:=Paired.length r
end
theorem b4K{P:w4}{k:Key}(r:F0 (kV k) u):(W4 P w).is k u=true:=by
 cases k with
 | inl i=>obtain⟨t,e⟩:=(show ∃t,u=Value.int i t from r);subst e;exact b4F P w i t
 | inr x=>obtain⟨t,e⟩:=(show ∃t,u=Value.str x t from r);subst e;exact b4E P w x t
theorem b1Q{P:w4}:∀ {ks:List Key} {us:List Value},J2 (ks.map kV) us->ItemsAre (W4 P w) ks us
 | [],_,r=>by rw[b7X]at r;cases r;exact .nil
 | k::ks,_,r=>by
  rw[L6]at r
  cases r with
  | cons h t=>exact .cons (b4K h) (b1Q t)
abbrev KT(H:Hp):List (List Key×V)->List (List Key×Addr×Value)->Prop:=Paired fun p q=>p.1=q.1/\H q.2.1=some (.tup (p.1.map kV))/\F0 p.2 q.2.2
theorem KT.val{kvs:List (List Key×V)}{xs:List (List Key×Addr×Value)}(r:KT H kvs xs)(k:List Key):a4Q (a9a kvs k) ((atKey xs k).map (·.2)):=by
 induction r with
 | nil=>exact True.intro
 | @cons p q ps qs h t ih=>
  obtain⟨h1,_,h2⟩:=h
  by_cases e:p.1=k
  ·have e':q.1=k:=h1.symm.trans e
   have b:atKey (q::qs) k=some q.2:=by simp[atKey,a1N,e']
   rw[a7e e,b];exact h2
  ·have e':¬q.1=k:=fun z=>e (h1.trans z)
   have b:atKey (q::qs) k=atKey qs k:=by simp[atKey,a1N,e']
   rw[a7f e,b];exact ih
theorem KT.repl{kvs:List (List Key×V)}{xs:List (List Key×Addr×Value)}(r:KT H kvs xs)(k:List Key)(ry:F0 y u) :
  KT H (kvs.map fun kv=>if kv.1=k then (kv.1,y)else kv) (xs.map (putAt k u)):=by
 induction r with
 | nil=>exact .nil
 | @cons p q ps qs h t ih=>
  rw[L6,L6]
  refine .cons ?_ ih
  obtain⟨h1,h2,h3⟩:=h
  unfold putAt
  by_cases e:p.1=k
  ·rw[if_pos e,if_pos (h1.symm.trans e)];exact⟨h1,h2,ry⟩
  ·rw[if_neg e,if_neg (fun z=>e (h1.trans z))];exact⟨h1,h2,h3⟩
theorem KT.put{kvs:List (List Key×V)}{xs:List (List Key×Addr×Value)}(r:KT H kvs xs)(k:List Key)(hb:H b=some (.tup (k.map kV)))(ry:F0 y u) :
  KT H (a5l kvs k y) (storedH xs k b u):=by
 have e:(kvs.any fun kv=>decide (kv.1=k))=(atKey xs k).isSome:=by
  rw[a9K,(r.val k).isSome_eq,a8W]
 unfold a5l storedH
 rw[e]
 by_cases q:(atKey xs k).isSome=true
 ·rw[if_pos q,if_pos q];exact r.repl k ry
 ·rw[if_neg q,if_neg q];exact Paired.snoc r ⟨rfl,hb,ry⟩
theorem KT.keeps{kvs:List (List Key×V)}{xs:List (List Key×Addr×Value)}(r:KT H kvs xs)(ht:∀b ys,H b=some (.tup ys)->H' b=some (.tup ys)):KT H' kvs xs:=
 Paired.mapP r fun _ _ z=>⟨z.1,ht _ _ z.2.1,z.2.2⟩
section
variable {P:w4}
theorem c5b{u:HO}(ok:HOk P w H h)(e:Rd H a u):T9 P w H h a u:=e.ok ok
theorem c1Y(ok:HOk P w H h)(e:Rd H a (.dK kvs)):kvs.length<=t6/\(a == a3w)=false/\∃vs,KV kvs vs/\h.DictOf (W4 P w) a vs:=
 show T9 P w H h a (.dK kvs)from c5b ok e
theorem c1Z(ok:HOk P w H h)(e:H a=some (.dK kvs)):kvs.length<=t6/\(a == a3w)=false/\∃vs,KV kvs vs/\h.DictOf (W4 P w) a vs:=c1Y ok (.inl e)
theorem b2U{ks:List Key}(ok:HOk P w H h)(e:H a=some (.tup (ks.map kV))):(b9L (W4 P w)).is h ks a:=by
 obtain⟨_,its,r,o,h1,h2,n,h3⟩:=(show T9 P w H h a (.tup (ks.map kV))from ok a _ e)
 exact⟨o,its.toArray,n,h1,h2,h3,by simpa using b1Q r⟩
theorem c1W{kvs:List (List Key×V)}(ok:HOk P w H h)(e:Rd H a (.dT kvs)):kvs.length<=t6/\(a == a3w)=false /\
  ∃xs,KT H kvs xs/\h.DictOfH (b9L (W4 P w)) a xs:=by
 obtain⟨z,y,xs,r,o,es,ep,h1,h2,h3,h4,h5⟩:=(show T9 P w H h a (.dT kvs)from c5b ok e)
 refine⟨z,y,xs,r,o,es,ep,h1,h2,h3,h4,fun x hx=>?_,h5⟩
 have all:∀ {l:List (List Key×V)} {m:List (List Key×Addr×Value)},KT H l m->∀x∈m,(b9L (W4 P w)).is h x.1 x.2.1:=by
  intro l m q
  induction q with
  | nil=>intro x hx;exact nomatch hx
  | @cons p q ps qs hq t ih=>
   intro x hx
   rcases o0.mp hx with e | hx
   ·subst e
    exact b2U ok (by rw[<-hq.1];exact hq.2.1)
   ·exact ih x hx
 exact all r x hx
theorem c8N{kvs:List (List Key×V)}(ok:HOk P w H h)(e:H a=some (.dT kvs)):kvs.length<=t6/\(a == a3w)=false /\
  ∃xs,KT H kvs xs/\h.DictOfH (b9L (W4 P w)) a xs:=c1W ok (.inl e)
end
def b1l(H:Hp)(a:Addr)(y:V)(r:Option V):Prop:=
 (∃kvs k,Rd H a (.dK kvs)/\y=kV k/\r=a9a kvs k)\/∃kvs k b,Rd H a (.dT kvs)/\y=.ref b/\H b=some (.tup (k.map kV))/\r=a9a kvs k
def b6Y(H:Hp)(a:Addr)(y v:V)(H':Hp):Prop:=
 (∃kvs k,H a=some (.dK kvs)/\y=kV k/\kvs.length<t6/\H'=upd H a (.dK (a5l kvs k v))) \/
 ∃kvs k b,H a=some (.dT kvs)/\y=.ref b/\H b=some (.tup (k.map kV))/\kvs.length<t6/\H'=upd H a (.dT (a5l kvs k v))
theorem b1l.k{k:Key}(e:H a=some (.dK kvs)):b1l H a (kV k) (a9a kvs k):=.inl ⟨kvs,k,.inl e,rfl,rfl⟩
theorem b6Y.k{k:Key}(e:H a=some (.dK kvs))(hl:kvs.length<t6):b6Y H a (kV k) v (upd H a (.dK (a5l kvs k v))):=.inl ⟨kvs,k,e,rfl,hl,rfl⟩
section
variable {r:Value}{o:Option V}{A:D8}{E:Value->c9->Prop}
theorem Inv.big(I:Inv X pins σ H s):a3w<s.heap.objs.size:=by
 have h:u8<s.heap.objs.size:=(I.mod.glob.keeps I.bk).lt
 exact Nat.lt_trans (by decide) h
theorem c9u(hu:A.units+1<cLine)(I:Inv X pins σ H s)(g:b1l H a y o)(ry:F0 y u)(h:∀s',Inv X pins σ H s'->Q (.bool o.isSome) s') :
  wpAny (model X.prog X.w) A (z6 .In u (.ref a)) Q E s:=by
 rcases g with ⟨kvs,k,e,ey,l⟩ | ⟨kvs,k,b,e,ey,eb,l⟩
 ·subst ey
  obtain⟨z,hd,vs,rel,dd⟩:=c1Y I.hok e
  refine wpAny_in_of (b4K ry) hd dd.mapOf ?_
  rw[<-(rel.val k).isSome_eq,<-l]
  exact h _ (I.tok _)
 ·subst ey
  cases (show u=Value.ref b from ry)
  obtain⟨z,hd,xs,rel,dd⟩:=c1W I.hok e
  refine wpAny_in_heap (b3A hu) (b2U I.hok eb) hd dd ?_
  have q:=(rel.val k).isSome_eq
  rw[a8W]at q
  rw[<-q,<-l]
  exact h _ (I.tok _)
theorem c4z(hu:A.units+1<cLine)(I:Inv X pins σ H s)(g:b1l H a y o)(ry:F0 y u)(h:∀s',Inv X pins σ H s'->Q (.bool (!o.isSome)) s') :
  wpAny (model X.prog X.w) A (z6 .NotIn u (.ref a)) Q E s:=by
 rcases g with ⟨kvs,k,e,ey,l⟩ | ⟨kvs,k,b,e,ey,eb,l⟩
 ·subst ey
  obtain⟨z,hd,vs,rel,dd⟩:=c1Y I.hok e
  refine wpAny_notIn_of (b4K ry) hd dd.mapOf ?_
  rw[<-(rel.val k).isSome_eq,<-l]
  exact h _ (I.tok _)
 ·subst ey
  cases (show u=Value.ref b from ry)
  obtain⟨z,hd,xs,rel,dd⟩:=c1W I.hok e
  refine wpAny_notIn_heap (b3A hu) (b2U I.hok eb) hd dd ?_
  have q:=(rel.val k).isSome_eq
  rw[a8W]at q
  rw[<-q,<-l]
  exact h _ (I.tok _)
theorem b3b{ob:HO}(I:Inv X pins σ H s)(mu:Mut (H a))(hs:Heap.SameBut a s.heap h')(he:∃q,h'.get? a=some q)(new:T9 X.prog X.w (upd H a ob) h' a ob) :
  Inv X pins σ (upd H a ob) { s with heap:=h',toks:=t' }:=
 I.write (x:=a) (e:=a) mu (.inl rfl) (fun b q hb z=>(hs.2 b hb).trans z) he new
theorem c2a{P:w4}{vs:List (Key×Value)}(z:kvs.length<=t6)(hd:(a == a3w)=false)(rel:KV kvs vs)(dd:h'.DictOf (W4 P w) a vs) :
  T9 P w H' h' a (.dK kvs):=⟨z,hd,vs,rel,dd⟩
theorem b9h{Q:Unit->c9->Prop}(hu:A.units+1<cLine)(I:Inv X pins σ H s)(g:b6Y H a y v H')(ry:F0 y u)(rv:F0 v r)(h:∀s',Inv X pins σ H' s'->Q () s') :
  wpAny (model X.prog X.w) A (c5y (.ref a) u r) Q E s:=by
 rcases g with ⟨kvs,k,e,ey,l,eH⟩ | ⟨kvs,k,b,e,ey,eb,l,eH⟩
 ·subst ey eH
  obtain⟨z,hd,vs,rel,dd⟩:=c1Z I.hok e
  have hz:vs.length<=t6:=by rw[<-rel.length];exact z
  have hl:(a5l kvs k v).length<=t6:=by have:=a5q kvs k v;omega
  refine wpAny_setItem_pairs (hsz:=hz) (b4K ry) dd fun h' dd' hs=>h _ ?_
  have he:∃q,h'.get? a=some q:=let⟨q,_,_,hq,_⟩:=dd'; ⟨q,hq⟩
  exact b3b I (by rw[e];exact True.intro) hs he (c2a hl hd (rel.put k rv) dd')
 ·subst ey eH
  cases (show u=Value.ref b from ry)
  obtain⟨z,hd,xs,rel,dd⟩:=c8N I.hok e
  have hz:xs.length<=t6:=by rw[<-Paired.length rel];exact z
  have hl:(a5l kvs k v).length<=t6:=by have:=a5q kvs k v;omega
  refine wpAny_setItem_heap (hsz:=hz) (b3A hu) (b2U I.hok eb) dd fun h' dd' hs=>h _ ?_
  obtain⟨q,es,ep,hq,h2,h3,h4,_,h5⟩:=dd'
  refine b3b I (by rw[e];exact True.intro) hs ⟨q,hq⟩ ⟨hl,hd,_,(rel.put k eb rv).keeps fun c ys ec=>?_,q,es,ep,hq,h2,h3,h4,h5⟩
  rw[j7 (T7 ec e (fun z=>nomatch z))]
  exact ec
end
section
variable {k:Key}{A:D8}{E:Value->c9->Prop}
end
def a7X(ty td:TE):TE:=fun σ H Q=>ty σ H fun y H1=>td σ H1 fun x H2=>∃a o,x=.ref a/\b1l H2 a y o/\Q (.bl o.isSome) H2
def a2b(ty td:TE):TE:=fun σ H Q=>ty σ H fun y H1=>td σ H1 fun x H2=>∃a o,x=.ref a/\b1l H2 a y o/\Q (.bl (!o.isSome)) H2
def a3r(td ty tv:TE):TS:=fun D σ H=>tv σ H fun v H1=>td σ H1 fun x H2=>ty σ H2 fun y H3=>∃a H4,x=.ref a/\b6Y H3 a y v H4/\D.nx σ H4
section
variable {o i value:Expr}{pos' tpos:Pos}{td ty tv:TE}
theorem c1i(hu:X.A.units+1<cLine)(hi:PE X i ty)(ho:PE X o td):PC X .In i o (a7X ty td):=by
 intro pins s σ H Q I h
 refine thn (hi pins s σ H _ I h) fun iv s1 ⟨y,H1,I1,ry,q1⟩=>thn (ho pins s1 σ H1 _ I1 q1) fun u s2 ⟨x,H2,I2,rx,a,ov,ex,g,q2⟩=>?_
 subst ex
 obtain rfl:u=Value.ref a:=rx
 exact c9u hu I2 g ry fun s3 I3=>⟨.bl ov.isSome,H2,I3,rfl,q2⟩
theorem b8H(hu:X.A.units+1<cLine)(hi:PE X i ty)(ho:PE X o td):PC X .NotIn i o (a2b ty td):=by
 intro pins s σ H Q I h
 refine thn (hi pins s σ H _ I h) fun iv s1 ⟨y,H1,I1,ry,q1⟩=>thn (ho pins s1 σ H1 _ I1 q1) fun u s2 ⟨x,H2,I2,rx,a,ov,ex,g,q2⟩=>?_
 subst ex
 obtain rfl:u=Value.ref a:=rx
 exact c4z hu I2 g ry fun s3 I3=>⟨.bl (!ov.isSome),H2,I3,rfl,q2⟩
theorem c3o(hu:X.A.units+1<cLine)(ho:PE X o td)(hi:PE X i ty)(hv:PE X value tv)(hs:a1w value (some (.Subscript o i pos')) pos.line X.env=pure false) :
  PS X (.Assign [.Subscript o i pos'] value pos) (a3r td ty tv):=by
 intro pins s σ H D I h
 refine wpAny_Assign_Subscript (thn (hv pins s σ H _ I h) fun r s1 ⟨v,H1,I1,rv,q1⟩=>thn (ho pins s1 σ H1 _ I1 q1) fun u s2 ⟨x,H2,I2,rx,q2⟩=>thn (hi pins s2 σ H2 _ I2 q2) fun iv s3 ⟨y,H3,I3,ry,a,H4,ex,g,q3⟩=>?_) hs
 subst ex
 obtain rfl:u=Value.ref a:=rx
 exact b9h hu I3 g ry rv fun s4 I4=>⟨σ,H4,I4,q3⟩
end
theorem b4T{P:w4}(h:Heap)(hb:a3w<h.objs.size):T9 P w H (h.push { cls:=.type "dict",data:=.dict #[] }) h.objs.size (.dK []):=
 ⟨L5 _,beq_eq_false_iff_ne.mpr (Ne.symm (v5 hb)),[],.nil,Heap.DictOf.new h⟩
def a4c:TE:=fun _ H Q=>∀p,H p=none->Q (.ref p) (upd H p (.dK []))
section
theorem c1b:PE X (.Dict [] [] pos) a4c:=fun pins s σ H Q I h=>
 wpAny_Dict_empty ⟨.ref s.heap.objs.size,_,I.laid (a:=s.heap.objs.size) (o:=.dK []) (t':=s.toks) (fun _ _ q=>d4 _ q) (j9 _) (b4T s.heap I.big),rfl,h _ (I.hok.fresh (j9 _))⟩
end
def b5E:List (TE×TE)->St->Hp->(List (V×V)->Hp->Prop)->Prop
 | [],_,H,Q=>Q [] H
 | (tk,tv)::r,σ,H,Q=>tk σ H fun x H1=>tv σ H1 fun y H2=>b5E r σ H2 fun ps H3=>Q ((x,y)::ps) H3
abbrev VV:List (V×V)->List (Value×Value)->Prop:=Paired fun p q=>F0 p.1 q.1/\F0 p.2 q.2
def PPs(X:Cx)(pos:Pos)(keys:List (Option Expr))(values:List Expr)(trs:List (TE×TE)):Prop:=
 ∀(pins:List (Addr×Obj)) (s:c9) (σ:St) (H:Hp) (Q:List (V×V)->Hp->Prop),Inv X pins σ H s->b5E trs σ H Q ->
  wpAny (model X.prog X.w) X.A (evalPairs (pairTrees keys values X.env pos)) (fun vs s'=>∃ps H',Inv X pins σ H' s'/\VV ps vs/\Q ps H') X.xe s
theorem c3q:PPs X pos [] [] []:=fun pins s σ H Q I h=>pairTrees_nil_walk ⟨[],H,I,.nil,h⟩
theorem c0V{k v:Expr}{ks:List (Option Expr)}{vs:List Expr}{tk tv:TE}{trs:List (TE×TE)}(hk:PE X k tk)(hv:PE X v tv)(hr:PPs X pos ks vs trs) :
  PPs X pos (some k::ks) (v::vs) ((tk,tv)::trs):=fun pins s σ H Q I h=>
 pairTrees_cons_walk (thn (hk pins s σ H _ I h) fun u s1 ⟨x,H1,I1,rx,q1⟩=>thn (hv pins s1 σ H1 _ I1 q1) fun w2 s2 ⟨y,H2,I2,ry,q2⟩=>
  thn (hr pins s2 σ H2 _ I2 q2) fun ws s3 ⟨ps,H3,I3,rel,q3⟩=>⟨(x,y)::ps,H3,I3,.cons ⟨rx,ry⟩ rel,q3⟩)
def a8p(kvs more:List (Key×V)):List (Key×V):=more.foldl (fun acc kv=>a5l acc kv.1 kv.2) kvs
theorem KV.merge:∀ {more:List (Key×V)} {rs:List (Key×Value)} {kvs:List (Key×V)} {vs:List (Key×Value)},KV more rs->KV kvs vs->KV (a8p kvs more) (merged vs rs):=by
 intro more rs kvs vs r
 unfold KV at r
 induction r generalizing kvs vs with
 | nil=>intro q;exact q
 | @cons p q ps qs h t ih=>
  intro r0
  have e:KV (a5l kvs p.1 p.2) (stored vs q.1 q.2):=by
   have:=r0.put p.1 h.2
   rw[<-h.1];exact this
  exact ih e
theorem a6m:∀(more kvs:List (Key×V)),(a8p kvs more).length<=kvs.length+more.length
 | [],kvs=>by show kvs.length<=kvs.length+0;omega
 | p::r,kvs=>by
  have h1:=a6m r (a5l kvs p.1 p.2)
  have h2:=a5q kvs p.1 p.2
  show(a8p (a5l kvs p.1 p.2) r).length<=_
  rw[z9];omega
theorem b0C{P:w4}{w:World}:∀ {kvs:List (Key×V)} {ws:List (Value×Value)},VV (kvs.map fun kv=>(kV kv.1,kv.2)) ws->∃rs,Carries (W4 P w) ws rs/\KV kvs rs
 | [],_,r=>by rw[b7X]at r;cases r;exact⟨[],True.intro,.nil⟩
 | p::kvs,_,r=>by
  rw[L6]at r
  cases r with
  | @cons a b as bs h t=>
   obtain⟨rs,c,q⟩:=b0C (P:=P) (w:=w) t
   obtain⟨b1,b2⟩:=b
   exact⟨(p.1,b2)::rs,⟨b4K h.1,rfl,c⟩,.cons ⟨rfl,h.2⟩ q⟩
def b3W(trs:List (TE×TE)):TE:=fun σ H Q=>∀p,H p=none->b5E trs σ (upd H p (.dK [])) fun ps H2=>H2 p=some (.dK [])/\∃kvs:List (Key×V),ps=kvs.map (fun kv=>(kV kv.1,kv.2))/\kvs.length<=15/\Q (.ref p) (upd H2 p (.dK (a8p [] kvs)))
theorem c3y{keys:List (Option Expr)}{values:List Expr}{trs:List (TE×TE)}(h:PPs X pos keys values trs)(hall:keys.all (·.isSome)=true)(hl:keys.length=values.length)(h0:keys≠[])
  (h15:keys.length<=15):PE X (.Dict keys values pos) (b3W trs):=by
 intro pins s σ H Q I q
 have hn:=I.hok.fresh (j9 s.heap.objs.size)
 have I1:=I.laid (a:=s.heap.objs.size) (o:=.dK []) (h':=s.heap.push { cls:=.type "dict",data:=.dict #[] }) (t':=s.toks) (fun _ _ q=>d4 _ q) (j9 _) (b4T s.heap I.big)
 refine wpAny_Dict_walk (knd:=W4 X.prog X.w) hall hl h0 h15 (thn (h pins _ σ _ _ I1 (q _ hn)) fun ws s2 ⟨ps,H2,I2,rel,e,kvs,ep,lk,q2⟩=>?_)
 subst ep
 obtain⟨rs,c,rk⟩:=b0C (P:=X.prog) (w:=X.w) rel
 obtain⟨z,hd,vs0,r0,dd⟩:=c1Z I2.hok e
 cases r0
 refine⟨rs,c,dd,fun h' dd' hs=>⟨.ref s.heap.objs.size,_,?_,rfl,q2⟩⟩
 have hz:(a8p [] kvs).length<=t6:=by
  have h1:=a6m kvs []
  rw[a3h]at h1
  rw[sizeLine_eq];omega
 have he:∃q,h'.get? s.heap.objs.size=some q:=let⟨q,_,_,hq,_⟩:=dd'; ⟨q,hq⟩
 exact b3b I2 (by rw[e];exact True.intro) hs he (c2a hz hd (rk.merge .nil) dd')
structure M1(X:Cx)(o:Expr)(m:Str)(apos:Pos)(e:Expr)(cpos:Pos):Prop where
 base:X0 o m X.env (eval o X.env)=eval o X.env
 few:((X9 cpos (j5 [e] X.env)).all (fun x => !x.1)&&(b3B cpos (a4Y [] X.env)).all (fun x=>x.1.isSome)
  && decide (([e]:List Expr).length+([]:List b2i).length+(if([]:List b2i).isEmpty then 0 else 1)<30))=true
 line:(apos.endLine == cpos.line)=true
 trees:X9 cpos (j5 [e] X.env)=[(false,eval e X.env)]
structure M2(X:Cx)(o:Expr)(m:Str)(apos:Pos)(e f:Expr)(cpos:Pos):Prop where
 base:X0 o m X.env (eval o X.env)=eval o X.env
 few:((X9 cpos (j5 [e,f] X.env)).all (fun x => !x.1)&&(b3B cpos (a4Y [] X.env)).all (fun x=>x.1.isSome)
  && decide (([e,f]:List Expr).length+([]:List b2i).length+(if([]:List b2i).isEmpty then 0 else 1)<30))=true
 line:(apos.endLine == cpos.line)=true
 trees:X9 cpos (j5 [e,f] X.env)=[(false,eval e X.env),(false,eval f X.env)]
section
variable {d:V}{r:Value}{o:Option V}{A:D8}{E:Value->c9->Prop}
end
section
variable {o f:Expr}{apos cpos:Pos}{td ty tx:TE}
end
section
variable {A:D8}{E:Value->c9->Prop}
end
section
variable {A:D8}{E:Value->c9->Prop}
end
end L2
namespace HT
open PySem PyProof.Rows
section
open PySem.SeqAt
open PySem.AutoSeq1 (wpAny_loadPart')
open PySem.MeetsSeq PySem.MeetsSeq2 PySem.MeetsSeq3
end
section
variable {prog:w4}{w:World}{A:D8}{E:Value->c9->Prop}{s:c9}
def sIx(n d:Nat):Option Int->Nat
 | none=>d
 | some v=>if v<0 then (v+(n:Int)).toNat else min v.toNat n
theorem b4l(n d:Nat):sIx n d none=d:=rfl
theorem a7u(n d k:Nat):sIx n d (some (k:Int))=min k n:=by
 show(if(k:Int)<0 then ((k:Int)+(n:Int)).toNat else min (k:Int).toNat n)=min k n
 rw[if_neg (by omega),z8]
theorem c5T(n d:Nat)(hd:d<=n)(o:Option Int):sIx n d o<=n:=by
 cases o with
 | none=>exact hd
 | some v=>
  show(if v<0 then (v+(n:Int)).toNat else min v.toNat n)<=n
  by_cases hv:v<0
  ·rw[if_pos hv];omega
  ·rw[if_neg hv];exact Nat.min_le_right _ _
theorem b7R(v:Int)(n d:Nat):(if v<0 then max (v+(n:Int)) 0 else min v (n:Int))=((sIx n d (some v):Nat):Int):=by
 show(if v<0 then max (v+(n:Int)) 0 else min v (n:Int))=(((if v<0 then (v+(n:Int)).toNat else min v.toNat n):Nat):Int)
 by_cases hv:v<0
 ·simp only[if_pos hv];omega
 ·simp only[if_neg hv];omega
theorem b6V(lo hi:Option Int)(n:Nat):Builtin.Slice.sliceAdjust lo hi 1 (n:Int)=(((sIx n 0 lo:Nat):Int),((sIx n n hi:Nat):Int)):=by
 have h1:¬((1:Int)<0):=by omega
 unfold Builtin.Slice.sliceAdjust
 simp only[h1,if_false]
 refine Prod.ext ?_ ?_
 ·cases lo with
  | none=>rfl
  | some v=>exact b7R v n 0
 ·cases hi with
  | none=>rfl
  | some v=>exact b7R v n n
theorem b6c(i j:Nat):Builtin.Slice.slicePlaces (i:Int) (j:Int) 1=j - i:=by
 unfold Builtin.Slice.slicePlaces
 have h1:(1:Int) > 0:=by omega
 simp only[h1,if_true,Int.ediv_one]
 split <;> omega
theorem a9V{v:Value}{o:Option Int}{Q:Option Int->c9->Prop}(p:c4S v o)(h:Q o s):wpAny (model prog w) A (Builtin.Slice.slicePartIndex v) Q E s:=by
 cases p with
 | none=>exact slicePart_none h
 | int i t=>exact slicePart_int h
theorem a8a{sl:Addr}{vl vu:Value}{lo hi:Option Int}{n:Nat}{Q:Int×Int×Nat->c9->Prop}(hs:s.heap.IsSliceOf sl vl vu .none)(pl:c4S vl lo)(pu:c4S vu hi)
  (h:Q (((sIx n 0 lo:Nat):Int),1,sIx n n hi - sIx n 0 lo) s):wpAny (model prog w) A (Builtin.Slice.sliceApplied (.ref sl) (pure (n:Int))) Q E s:=by
 obtain⟨os,hos,hcs,hds⟩:=id hs
 unfold Builtin.Slice.sliceApplied Builtin.Slice.sliceFields
 refine c7 (c7 (a2x hos hds (x:=vl) rfl (c7 (a2x hos hds (x:=vu) rfl (c7 (a2x hos hds (x:=.none) rfl (y9 ?_)))))))
 refine c7 (slicePart_none ?_)
 show wpAny _ _ (if((1:Int) == 0)=true then _ else _) _ _ s
 rw[if_neg (by decide)]
 refine c7 (a9V pl (c7 (a9V pu (c7 (y9 ?_)))))
 show wpAny _ _ (match Builtin.Slice.sliceAdjust lo hi 1 (n:Int)with | (lo,hi)=>pure (lo,(1:Int),Builtin.Slice.slicePlaces lo hi 1)) _ _ s
 rw[b6V lo hi n]
 show wpAny _ _ (pure (((sIx n 0 lo:Nat):Int),(1:Int),Builtin.Slice.slicePlaces ((sIx n 0 lo:Nat):Int) ((sIx n n hi:Nat):Int) 1)) _ _ s
 rw[b6c]
 exact y9 h
theorem c0W(xs:Array Value)(i k:Nat):((u7 k).filterMap fun(m:Nat)=>xs[((i:Int)+(m:Int) * 1).toNat]?).toArray=((xs.toList.drop i).take k).toArray:=by
 have e:(fun(m:Nat)=>xs[((i:Int)+(m:Int) * 1).toNat]?)=fun m=>xs[i+m]?:=by
  funext m
  have:((i:Int)+(m:Int) * 1).toNat=i+m:=by omega
  rw[this]
 rw[e]
 have:=pick_run xs i k
 rw[List.filterMap_map]at this
 have e2:((fun x=>xs[x]?) ∘ fun x=>i+x)=fun m=>xs[i+m]?:=rfl
 rw[e2]at this
 rw[this]
theorem a7E{t sl:Addr}{items:Array Value}{vl vu:Value}{lo hi:Option Int}{Q:Value->c9->Prop}(ht:IsTup s.heap t items)(hs:s.heap.IsSliceOf sl vl vu .none)(pl:c4S vl lo)(pu:c4S vu hi)
  (hw:¬(sIx items.size 0 lo=0/\sIx items.size items.size hi=items.size))
  (h:Q (.ref s.heap.objs.size) { s with heap:=s.heap.push { cls:=.type "tuple",data:=.seq ((items.toList.drop (sIx items.size 0 lo)).take (sIx items.size items.size hi - sIx items.size 0 lo)).toArray } })
  (hsz:items.size<=t6):wpAny (model prog w) A (c5z (.ref t) (.ref sl)) Q E s:=by
 have htake:sizeOk (.seq ((items.toList.drop (sIx items.size 0 lo)).take (sIx items.size items.size hi - sIx items.size 0 lo)).toArray):=by
  show((items.toList.drop (sIx items.size 0 lo)).take (sIx items.size items.size hi - sIx items.size 0 lo)).toArray.size<=t6
  rw[o5,J0,a4V,a1i]
  omega
 have hj:sIx items.size items.size hi<=items.size:=c5T _ _ (j9 _) hi
 obtain⟨os,hos,hcs,hds⟩:=id hs
 have hTs:s.TypeIs (.ref sl) "slice" := ⟨os,hos,hcs⟩
 unfold c5z
 try with_reducible refine W9 ?_
 first | refine c7 (y9 ?_) | skip
 refine c7 (wpAny_sequenceKey ht.typeIs (by decide) ?_)
 refine c7 (c5w (name:=Str.ofString "__getitem__") ht.typeIs a1t
  (wpAny_call_entry a1t ht.typeIs entry_tuple_getitem ?_ (args_tuple_getitem _ _)))
 show wpAny _ _ (Builtin.Tuple.tupleItemsOf (.ref t) >>= _) _ _ s
 refine c7 (tupleItemsOf_ ht ?_)
 refine c7 (wpAny_typeOf hTs ?_)
 rw[if_pos (by decide)]
 refine c7 (a8a hs pl pu ?_)
 have hno:¬((((sIx items.size 0 lo:Nat):Int) == 0&&(1:Int) == 1&&(sIx items.size items.size hi - sIx items.size 0 lo) == items.size)=true):=by
  intro q
  rw[F5,F5]at q
  have q1:((sIx items.size 0 lo:Nat):Int)=0:=eq_of_beq q.1.1
  have q2:sIx items.size items.size hi - sIx items.size 0 lo=items.size:=eq_of_beq q.2
  exact hw ⟨by omega,by omega⟩
 show wpAny _ _ (if(((sIx items.size 0 lo:Nat):Int) == 0&&(1:Int) == 1&&(sIx items.size items.size hi - sIx items.size 0 lo) == items.size)=true then _ else _) _ _ s
 rw[if_neg hno,c0W]
 first
  | exact c7 (m:=Builtin.Tuple.tupleExact _) (P9 (y9 ⟨_,rfl,y9 h⟩) htake)
  | exact c7 (m:=Builtin.Tuple.tupleExact _) (P9 (c7 (y9 (y9 ⟨_,rfl,y9 h⟩))) htake)
  | exact c7 (c7 (m:=Builtin.Tuple.tupleExact _) (P9 (y9 (y9 ⟨_,rfl,y9 h⟩)) htake))
  | exact c7 (c7 (m:=Builtin.Tuple.tupleExact _) (P9 (y9 ⟨_,rfl,y9 h⟩) htake))
end
end HT
namespace L2
open PySem PySem.Spec PyProof.Rows
variable{X:Cx}{n:Nat}{pins:List (Addr×Obj)}{σ:St}{H:Hp}{s:c9}{xs:List V}{us:List Value}
abbrev TO:=St->Hp->(Option Int->Hp->Prop)->Prop
def PO(X:Cx)(e:Option Expr)(t:TO):Prop:=
 ∀(pins:List (Addr×Obj)) (s:c9) (σ:St) (H:Hp) (Q:Option Int->Hp->Prop),Inv X pins σ H s->t σ H Q ->
  wpAny (model X.prog X.w) X.A (evalPart e X.env) (fun u s'=>∃o H',Inv X pins σ H' s'/\c4S u o/\Q o H') X.xe s
def a1y:TO:=fun _ H Q=>Q none H
def a5f(t:TE):TO:=fun σ H Q=>t σ H fun x H1=>∃i,x=.int i/\Q (some i) H1
section
variable {e:Expr}{te:TE}{lo hi:Option Expr}{tl th:TO}{pos p2:Pos}
theorem c3s:PO X none a1y:=by
 intro pins s σ H Q I h
 rw[evalPart_none]
 exact y9 ⟨none,H,I,.none,h⟩
theorem c3r(h:PE X e te):PO X (some e) (a5f te):=by
 intro pins s σ H Q I hw
 rw[evalPart_some]
 refine thn (h pins s σ H _ I hw) fun u s1 ⟨x,H1,I1,r1,q1⟩=>?_
 obtain⟨i,rfl,q⟩:=q1
 obtain⟨t,rfl⟩:=r1
 exact⟨some i,H1,I1,.int i t,q⟩
def SlR(X:Cx)(r:V->Option Int->Option Int->Hp->VK->Prop):Prop:=
 ∀(pins:List (Addr×Obj)) (s:c9) (σ:St) (H:Hp) (x:V) (v vl vu:Value) (lo hi:Option Int) (sl:Addr) (Q:VK),Inv X pins σ H s->F0 x v->s.heap.IsSliceOf sl vl vu .none->c4S vl lo->c4S vu hi->r x lo hi H Q ->
  ∃T id,typeLookup (.type T) "__getitem__" = pure (some (.builtin id))/\s.TypeIs v T/\wpAny (model X.prog X.w) X.A (c5z v (.ref sl)) (EP X pins σ Q) X.xe s
theorem SlR.or{r r':V->Option Int->Option Int->Hp->VK->Prop}(h:SlR X r)(h':SlR X r'):SlR X (fun x lo hi H Q=>r x lo hi H Q\/r' x lo hi H Q):=by
 intro pins s σ H x v vl vu lo hi sl Q I rx hs pl pu q
 rcases q with q | q
 ·exact h pins s σ H x v vl vu lo hi sl Q I rx hs pl pu q
 ·exact h' pins s σ H x v vl vu lo hi sl Q I rx hs pl pu q
def tSl(r:V->Option Int->Option Int->Hp->VK->Prop)(te:TE)(tl th:TO):TE:=fun σ H Q=>te σ H fun x H1=>tl σ H1 fun l H2=>th σ H2 fun u H3=>r x l u H3 Q
theorem c0Y{r:V->Option Int->Option Int->Hp->VK->Prop}(hr:SlR X r)(he:PE X e te)(hl:PO X lo tl)(hu:PO X hi th):PE X (.Subscript e (.Slice lo hi none p2) pos) (tSl r te tl th):=by
 intro pins s σ H Q I h
 refine Subscript_ (thn (he pins s σ H _ I h) fun v s1 ⟨x,H1,I1,r1,q1⟩=>?_)
 refine wpAny_Slice (thn (hl pins s1 σ H1 _ I1 q1) fun vl s2 ⟨l,H2,I2,pl,q2⟩=>thn (hu pins s2 σ H2 _ I2 q2) fun vu s3 ⟨u,H3,I3,pu,q3⟩=>?_)
 rw[evalPart_none]
 refine y9 ?_
 have I4:Inv X pins σ H3 { s3 with heap:=s3.heap.push { cls:=.type "slice",data:=.fields #[vl,vu,.none] } }:=I3.kept (t':=s3.toks) fun b ob q=>d4 _ q
 obtain⟨T,id,hT,ht,hg⟩:=hr pins { s3 with heap:=s3.heap.push { cls:=.type "slice",data:=.fields #[vl,vu,.none] } } σ H3 x v vl vu l u s3.heap.objs.size Q I4 r1 (Heap.IsSliceOf.new ..) pl pu q3
 show wpAny (model X.prog X.w) X.A (subscriptTail e (.Slice lo hi none p2) v (.ref s3.heap.objs.size)) (EP X pins σ Q) X.xe { s3 with heap:=s3.heap.push { cls:=.type "slice",data:=.fields #[vl,vu,.none] } }
 exact tail_any (ops:=[.ref s3.heap.objs.size,v]) ht hT hg (by with_unfolding_all rfl)
def a4t(xs:List V)(lo hi:Option Int):List V:=(xs.drop (HT.sIx xs.length 0 lo)).take (HT.sIx xs.length xs.length hi - HT.sIx xs.length 0 lo)
theorem a8T(xs:List V)(lo hi:Option Int):(a4t xs lo hi).length<=xs.length:=by
 unfold a4t
 rw[J0,a4V]
 omega
def c9l(K:Fg):V->Option Int->Option Int->Hp->VK->Prop:=fun x lo hi H Q=>∃a xs,x=.ref a/\SqT K H a xs /\
 ¬(HT.sIx xs.length 0 lo=0/\HT.sIx xs.length xs.length hi=xs.length)/\∀p,H p=none->Q (.ref p) (upd H p (.tup (a4t xs lo hi)))
theorem c5C:SlR X (c9l X.K):=by
 intro pins s σ H x v vl vu lo hi sl Q I rx hs pl pu h
 obtain⟨a,xs,rfl,hx,hw,q⟩:=h
 cases rx
 obtain⟨its,r,ht,hz⟩:=I.tuple hx
 have hlen:its.toArray.size=xs.length:=by rw[o5];exact r.length.symm
 refine⟨"tuple",_,a1t.lookup,ht.typeIs,?_⟩
 refine HT.a7E ht hs pl pu (by rw[hlen];exact hw) ?_ (by rw[hlen];exact hz)
 rw[hlen]
 refine⟨.ref s.heap.objs.size,_,I.laid (t':=s.toks) (o:=.tup (a4t xs lo hi)) (fun b ob q=>d4 _ q) (j9 _) ?_,rfl,q _ (I.hok.fresh (j9 _))⟩
 exact⟨F3 (a8T xs lo hi) hz,_,(r.drop (HT.sIx xs.length 0 lo)).take (HT.sIx xs.length xs.length hi - HT.sIx xs.length 0 lo),IsTup.new _ _⟩
end
def ixN(n:Nat)(i:Int):Option Nat:=if 0<=i then (if i<n then some i.toNat else none)else if -(n:Int)<=i then some (i+n).toNat else none
def atI{α:Type}(xs:List α)(i:Int):Option α:=(ixN xs.length i).bind fun j=>xs[j]?
theorem b7H{i:Int}{j:Nat}(h:ixN n i=some j):seqIndex? i n=some j/\j<n /\ -(n:Int)<=i/\i<n:=by
 unfold ixN at h
 by_cases h0:0<=i
 ·rw[if_pos h0]at h
  by_cases h1:i<n
  ·rw[if_pos h1]at h
   have e:i.toNat=j:=Option.some.inj h
   exact⟨by rw[c9f h0 h1,e],by omega,by omega,h1⟩
  ·rw[if_neg h1]at h;cases h
 ·rw[if_neg h0]at h
  by_cases h1 : -(n:Int)<=i
  ·rw[if_pos h1]at h
   have e:(i+n).toNat=j:=Option.some.inj h
   exact⟨by rw[c7O (by omega) h1,e],by omega,h1,by omega⟩
  ·rw[if_neg h1]at h;cases h
theorem b3n{α:Type}{xs:List α}{i:Int}{v:α}(h:atI xs i=some v):∃j,seqIndex? i xs.length=some j/\xs[j]? = some v/\j<xs.length /\ -(xs.length:Int)<=i/\i<xs.length:=by
 unfold atI at h
 cases e:ixN xs.length i with
 | none=>rw[e]at h;cases h
 | some j=>
  rw[e]at h
  obtain⟨h1,h2,h3,h4⟩:=b7H e
  exact⟨j,h1,h,h2,h3,h4⟩
theorem a0g{α:Type}{xs:List α}{j:Nat}{v:α}(h:xs[j]? = some v):atI xs (j:Int)=some v:=by
 have hj:j<xs.length:=(z4.mp h).1
 have e:ixN xs.length (j:Int)=some j:=by
  unfold ixN
  rw[if_pos (by omega),if_pos (by omega)];simp
 unfold atI;rw[e];exact h
def b3p(b:Expr):Prop:=∀o i,subscripted b false o i=operate [o,i] (c5z o i)
def IxR(X:Cx)(r:R2):Prop:=
 ∀(value slice:Expr) (pins:List (Addr×Obj)) (s:c9) (σ:St) (H:Hp) (x y:V) (v u:Value) (Q:VK),Inv X pins σ H s->F0 x v->F0 y u->r x y H Q ->
  subscripted slice false v u=operate [v,u] (c5z v u)->wpAny (model X.prog X.w) X.A (subscriptTail value slice v u) (EP X pins σ Q) X.xe s
def MtR(X:Cx)(id:String)(r:V->List V->Hp->VK->Prop):Prop:=
 ∀(pins:List (Addr×Obj)) (s:c9) (σ:St) (H:Hp) (x:V) (xs:List V) (v:Value) (us:List Value) (Q:VK),Inv X pins σ H s->F0 x v->J2 xs us->r x xs H Q ->
  wpAny (model X.prog X.w) X.A (call (.builtin id) (v::us)) (EP X pins σ Q) X.xe s
section
variable {a b:Expr}{ta tb:TE}{pos:Pos}
theorem IxR.or{r r':R2}(h:IxR X r)(h':IxR X r'):IxR X (fun x y H Q=>r x y H Q\/r' x y H Q):=by
 intro value slice pins s σ H x y v u Q I rx ry q hs
 rcases q with q | q
 ·exact h value slice pins s σ H x y v u Q I rx ry q hs
 ·exact h' value slice pins s σ H x y v u Q I rx ry q hs
theorem c8t{r:R2}(hr:IxR X r)(ha:PE X a ta)(hb:PE X b tb)(hs:b3p b):PE X (.Subscript a b pos) (tOp r ta tb):=by
 intro pins s σ H Q I h
 exact Subscript_ (c7v ha hb I h fun v u s2 x y H2 I2 rx ry q=>hr a b pins s2 σ H2 x y v u Q I2 rx ry q (hs _ _))
def c8i(K:Fg):R2:=fun x y H Q=>∃p xs i v,x=.ref p/\y=.int i/\SqL K H p xs/\atI xs i=some v/\Q v H
def c8g(K:Fg):R2:=fun x y H Q=>∃p xs i v,x=.ref p/\y=.int i/\SqT K H p xs/\atI xs i=some v/\Q v H
def c8h:R2:=fun x y H Q=>∃z i c,x=.str z/\y=.int i/\z.length<=t6/\atI z.cps.toList i=some c/\Q (.str ⟨#[c]⟩) H
theorem c4q:IxR X (c8i X.K):=by
 intro value slice pins s σ H x y v u Q I rx ry h hs
 obtain⟨p,xs,i,z,rfl,rfl,hq,he,q⟩:=h
 cases rx
 obtain⟨t,rfl⟩:=ry
 obtain⟨its,r,pl,hz⟩:=I.list hq
 obtain⟨j,h1,h2,h3,h4,h5⟩:=b3n he
 obtain⟨w,ew,rw'⟩:=r.get h2
 have hl:=r.length
 have hn:=a6J
 have fin:EP X pins σ Q w s:=⟨z,H,I,rw',q⟩
 by_cases h0:0<=i
 ·have hj:i.toNat=j:=by
   rw[c9f h0 h5]at h1
   exact Option.some.inj h1
  exact item_listR pl.isList h0 (by omega) (by rw[hj];simpa using ew) fin hs
 ·have hj:(i+(its.toArray.size:Int)).toNat=j:=by
   rw[c7O (by omega) h4]at h1
   rw[o5,<-hl]
   exact Option.some.inj h1
  exact c7J (x:=w) pl.isList.typeIs slot_list_getitem.lookup
   (wpAny_getItem_list_neg (Q:=fun r s'=>r=w/\EP X pins σ Q r s') pl.isList (by omega) (by rw[o5] <;> omega) (by omega) (by rw[hj];simpa using ew) ⟨rfl,fin⟩) hs
theorem c7m:IxR X (c8g X.K):=by
 intro value slice pins s σ H x y v u Q I rx ry h hs
 obtain⟨p,xs,i,z,rfl,rfl,hq,he,q⟩:=h
 cases rx
 obtain⟨t,rfl⟩:=ry
 obtain⟨its,r,pl,hz⟩:=I.tuple hq
 obtain⟨j,h1,h2,h3,h4,h5⟩:=b3n he
 obtain⟨w,ew,rw'⟩:=r.get h2
 have hl:=r.length
 have hn:=a6J
 have fin:EP X pins σ Q w s:=⟨z,H,I,rw',q⟩
 exact c7J (x:=w) pl.typeIs slot_tuple_getitem.lookup
  (getItem_tuple (j:=j) (Q:=fun r s'=>r=w/\EP X pins σ Q r s') pl (by omega) (by omega) (by rw[o5,<-hl];exact h1) (by simpa using ew) ⟨rfl,fin⟩) hs
theorem c7n:IxR X c8h:=by
 intro value slice pins s σ H x y v u Q I rx ry h hs
 obtain⟨z,i,c,rfl,rfl,hz,he,q⟩:=h
 obtain⟨t,rfl⟩:=rx
 obtain⟨t',rfl⟩:=ry
 obtain⟨j,h1,h2,h3,h4,h5⟩:=b3n he
 have hl:z.cps.toList.length=z.length:=by simp[Str.length]
 rw[hl]at h1 h4 h5
 have hn:=a6J
 exact tail_any (typeIs_str s z t) slot_str_getitem.lookup (getItem_str (c:=c) (by
  have e1:decide (i < -(2 ^ 63:Int))=false:=d0J (by omega)
  have e2:decide (i ≥ 2 ^ 63)=false:=d0J (by omega)
  rw[e1,e2,Bool.or_false]) (by rw[h1];simpa using h2) ⟨.str ⟨#[c]⟩,H,I.tok _,⟨_,rfl⟩,q⟩) hs
def rIx(K:Fg):R2:=fun x y H Q=>c8i K x y H Q\/c8g K x y H Q\/c8h x y H Q
theorem c7o:IxR X (rIx X.K):=c4q.or (c7m.or c7n)
theorem b6v(its:List Value)(n j:Nat)(u:Value):Obj.mapSeq (·.setIfInBounds j u) { cls:=.type "list",data:=.seq its.toArray n }={ cls:=.type "list",data:=.seq (its.set j u).toArray n }:=by
 simp[Obj.mapSeq]
theorem Inv.lst{pins:List (Addr×Obj)}{σ:St}{H:Hp}{s:c9}{p:Addr}{xs:List V}(I:Inv X pins σ H s)(h:H p=some (.lst xs)) :
  ∃(its:List Value) (n:Nat),J2 xs its/\s.heap.get? p=some { cls:=.type "list",data:=.seq its.toArray n }/\xs.length<=t6:=by
 obtain⟨z,its,n,r,e⟩:=I.hok p _ h
 exact⟨its,n,r,e,z⟩
theorem Inv.lstUpd{p:Addr}{ys:List V}{its its':List Value}{n':Nat}{f:Obj->Obj}(I:Inv X pins σ H s)(h:H p=some (.lst xs))
  (ho:s.heap.get? p=some { cls:=.type "list",data:=.seq its.toArray n }) (hf:f { cls:=.type "list",data:=.seq its.toArray n }={ cls:=.type "list",data:=.seq its'.toArray n' }) (r:J2 ys its') (hz:ys.length<=t6) (t:Nat) :
  Inv X pins σ (upd H p (.lst ys)) { s with heap:=s.heap.update p f,toks:=t }:=by
 have e:(s.heap.update p f).get? p=some { cls:=.type "list",data:=.seq its'.toArray n' }:=by
  rw[W8 f ho (by rw[hf] <;> rfl),hf]
 refine I.write (x:=p) (e:=p) (by rw[h];trivial) (.inl rfl) (fun b u hb q=>(M4 _ _ (Ne.symm hb)).trans q) ⟨_,e⟩ ?_
 exact⟨hz,its',n',r,e⟩
def c8f:V->V->V->Hp->(Hp->Prop)->Prop:=fun o i v H Q=>∃p xs k j,o=.ref p/\i=.int k/\H p=some (.lst xs)/\ixN xs.length k=some j/\Q (upd H p (.lst (xs.set j v)))
theorem c0t:c2m X c8f:=by
 intro pins s σ H o i v ov iv u Q I ro ri rv h
 obtain⟨p,xs,k,j,rfl,rfl,hp,hj,q⟩:=h
 cases ro
 obtain⟨t,rfl⟩:=ri
 obtain⟨its,n,r,ho,hz⟩:=I.lst hp
 obtain⟨h1,h2,h3,h4⟩:=b7H hj
 have hl:=r.length
 have hn:=a6J
 have I':Inv X pins σ (upd H p (.lst (xs.set j v))) { s with heap:=s.heap.update p (Obj.mapSeq (·.setIfInBounds j u)) }:=
  I.lstUpd hp ho (b6v its n j u) (r.set rv j) (by rw[v8];exact hz) s.toks
 by_cases h0:0<=k
 ·have hk:k.toNat=j:=by
   rw[c9f h0 h4]at h1
   exact Option.some.inj h1
  exact PySem.W.ki_setAt ho h0 (by omega) (by rw[o5,<-hl];exact h4) (by rw[hk];exact⟨_,I',q⟩)
 ·have hk:(k+(its.toArray.size:Int)).toNat=j:=by
   rw[c7O (by omega) h3]at h1
   rw[o5,<-hl]
   exact Option.some.inj h1
  exact PySem.W.ki_setBack ho (by omega) (by rw[o5,<-hl];exact h3) (by omega) (by rw[hk];exact⟨_,I',q⟩)
theorem b2q(lo hi:Option Int)(n:Nat):(a4X lo hi none n).1=((HT.sIx n 0 lo:Nat):Int)/\(a4X lo hi none n).2.1=((HT.sIx n n hi:Nat):Int)/\(a4X lo hi none n).2.2=1:=by
 refine⟨?_,?_,rfl⟩
 ·cases lo with
  | none=>simp[a4X,HT.sIx]
  | some i=>
   simp only[a4X,HT.sIx,c2x,show(1:Int) > 0 by decide,if_true]
   by_cases h:i<0
   ·simp only[h,if_true] <;> omega
   ·simp only[h,if_false] <;> omega
 ·cases hi with
  | none=>simp[a4X,HT.sIx]
  | some i=>
   simp only[a4X,HT.sIx,c2x,show(1:Int) > 0 by decide,if_true]
   by_cases h:i<0
   ·simp only[h,if_true] <;> omega
   ·simp only[h,if_false] <;> omega
theorem b0U(its:List Value)(lo hi:Option Int):slicePick its.toArray lo hi none=((its.drop (HT.sIx its.length 0 lo)).take (HT.sIx its.length its.length hi - HT.sIx its.length 0 lo)).toArray:=by
 obtain⟨h1,h2,h3⟩:=b2q lo hi its.toArray.size
 unfold slicePick
 rw[h1,h2,h3]
 simp only[sliceRange_one,pick_run,o5] <;> rfl
def c5V(K:Fg):V->Option Int->Option Int->Hp->VK->Prop:=fun x lo hi H Q=>∃a xs,x=.ref a/\SqL K H a xs/\∀p,H p=none->Q (.ref p) (upd H p (.lst (a4t xs lo hi)))
theorem b7o:SlR X (c5V X.K):=by
 intro pins s σ H x v vl vu lo hi sl Q I rx hs pl pu h
 obtain⟨a,xs,rfl,hx,q⟩:=h
 cases rx
 obtain⟨its,r,ht,hz⟩:=I.list hx
 have hlen:=r.length
 refine⟨"list",_,slot_list_getitem.lookup,ht.isList.typeIs,?_⟩
 refine wpAny_getItem_list_slice ht.isList hs pl pu .none (by simp) ?_ (by rw[o5] <;> omega)
 rw[b0U,<-hlen]
 refine⟨.ref s.heap.objs.size,_,I.laid (t':=s.toks) (o:=.lst (a4t xs lo hi)) (fun b ob q=>d4 _ q) (j9 _) ?_,rfl,q _ (I.hok.fresh (j9 _))⟩
 exact⟨F3 (a8T xs lo hi) hz,_,0,(r.drop (HT.sIx xs.length 0 lo)).take (HT.sIx xs.length xs.length hi - HT.sIx xs.length 0 lo),C3 _ rfl⟩
def O7:V->Bool
 | .non=>true
 | .bl _=>true
 | .int _=>true
 | .str _=>true
 | _=>false
def eqV:V->V->Bool
 | .non,.non=>true
 | .bl a,.bl b=>a == b
 | .bl a,.int b=>(if a then 1 else 0) == b
 | .int a,.bl b=>a == (if b then 1 else 0)
 | .int a,.int b=>a == b
 | .str a,.str b=>a == b
 | _,_=>false
theorem c1U{A:D8}{y x:V}{u v:Value}(ry:F0 y u)(rx:F0 x v)(fy:O7 y=true)(fx:O7 x=true):SeqAt.EqAt A s u v (eqV y x):=by
 cases y with
 | non=>
  cases ry
  cases x with
  | non=>cases rx;exact SeqAt.EqAt.same _
  | bl b=>cases rx;exact SeqAt.EqAt.none_bool b
  | int b=>obtain⟨t,rfl⟩:=rx;exact SeqAt.EqAt.none_int b t
  | str b=>obtain⟨t,rfl⟩:=rx;exact SeqAt.EqAt.none_str b t
  | _=>exact absurd (show false=true from fx) u0
 | bl a=>
  cases ry
  cases x with
  | non=>cases rx;exact SeqAt.EqAt.bool_none a
  | bl b=>cases rx;exact SeqAt.EqAt.bool_bool a b
  | int b=>obtain⟨t,rfl⟩:=rx;exact SeqAt.EqAt.bool_int a b t
  | str b=>obtain⟨t,rfl⟩:=rx;exact SeqAt.EqAt.bool_str a b t
  | _=>exact absurd (show false=true from fx) u0
 | int a=>
  obtain⟨t',rfl⟩:=ry
  cases x with
  | non=>cases rx;exact SeqAt.EqAt.int_none a t'
  | bl b=>cases rx;exact SeqAt.EqAt.int_bool a t' b
  | int b=>obtain⟨t,rfl⟩:=rx;exact SeqAt.EqAt.int_int a t' b t
  | str b=>obtain⟨t,rfl⟩:=rx;exact SeqAt.EqAt.int_str a t' b t
  | _=>exact absurd (show false=true from fx) u0
 | str a=>
  obtain⟨t',rfl⟩:=ry
  cases x with
  | non=>cases rx;exact SeqAt.EqAt.str_none a t'
  | bl b=>cases rx;exact SeqAt.EqAt.str_bool a t' b
  | int b=>obtain⟨t,rfl⟩:=rx;exact SeqAt.EqAt.str_int a t' b t
  | str b=>obtain⟨t,rfl⟩:=rx;exact SeqAt.EqAt.str_str a t' b t
  | _=>exact absurd (show false=true from fx) u0
 | _=>exact absurd (show false=true from fy) u0
def eqU(x:V)(u:Value):Bool:=match u with
 | .none=>eqV .non x
 | .bool b=>eqV (.bl b) x
 | .int i _=>eqV (.int i) x
 | .str z _=>eqV (.str z) x
 | _=>false
theorem b6O{x y:V}{u:Value}(r:F0 y u)(f:O7 y=true):eqU x u=eqV y x:=by
 cases y with
 | non=>cases r;rfl
 | bl b=>cases r;rfl
 | int i=>obtain⟨t,rfl⟩:=r;rfl
 | str z=>obtain⟨t,rfl⟩:=r;rfl
 | _=>exact absurd (show false=true from f) u0
theorem a7N{x:V}:∀ {xs:List V} {us:List Value},J2 xs us->xs.all O7=true->us.any (eqU x)=xs.any fun y=>eqV y x
 | _,_,.nil,_=>rfl
 | y::xs,u::us,.cons r t,f=>by
  rw[b5t,F5]at f
  rw[a1u,a1u,b6O r f.1,a7N t f.2]
theorem a3T{A:D8}{x:V}{v:Value}(rx:F0 x v)(fx:O7 x=true):∀ {xs:List V} {us:List Value},J2 xs us->xs.all O7=true->∀u∈us,SeqAt.EqAt A s u v (eqU x u)
 | _,_,.nil,_=>fun u hu=>by cases hu
 | y::xs,u::us,.cons r t,f=>fun u' hu=>by
  rw[b5t,F5]at f
  rcases o0.mp hu with rfl | hu
  ·rw[b6O r f.1];exact c1U r rx f.1 fx
  ·exact a3T rx fx t f.2 u' hu
def inV(x:V)(xs:List V):Bool:=xs.any fun y=>eqV y x
def rIn(K:Fg)(neg:Bool):R2:=fun x y H Q=>∃p xs,y=.ref p/\(SqL K H p xs\/SqT K H p xs)/\O7 x=true/\xs.all O7=true/\Q (.bl (if neg then !inV x xs else inV x xs)) H
theorem b1K:OpR X (z6 .In) (rIn X.K false):=by
 intro pins s σ H x y v u Q I rx ry h
 obtain⟨p,xs,rfl,hq,fx,fs,q⟩:=h
 cases ry
 rcases hq with hq | hq
 ·obtain⟨its,r,pl,hz⟩:=I.list hq
  refine SeqAt.in_listAt (eqU x) pl.isList (fun w hw=>a3T rx fx r fs w (by simpa using hw)) ⟨.bl _,H,I,rfl,?_⟩
  rw[show its.toArray.any (eqU x)=its.any (eqU x) by simp,a7N r fs]
  exact q
 ·obtain⟨its,r,pl,hz⟩:=I.tuple hq
  refine SeqAt.in_tupleAt (eqU x) pl (fun w hw=>a3T rx fx r fs w (by simpa using hw)) ⟨.bl _,H,I,rfl,?_⟩
  rw[show its.toArray.any (eqU x)=its.any (eqU x) by simp,a7N r fs]
  exact q
theorem b2P:OpR X (z6 .NotIn) (rIn X.K true):=by
 intro pins s σ H x y v u Q I rx ry h
 obtain⟨p,xs,rfl,hq,fx,fs,q⟩:=h
 cases ry
 rcases hq with hq | hq
 ·obtain⟨its,r,pl,hz⟩:=I.list hq
  refine SeqAt.notIn_listAt (eqU x) pl.isList (fun w hw=>a3T rx fx r fs w (by simpa using hw)) ⟨.bl _,H,I,rfl,?_⟩
  rw[show its.toArray.any (eqU x)=its.any (eqU x) by simp,a7N r fs]
  exact q
 ·obtain⟨its,r,pl,hz⟩:=I.tuple hq
  refine SeqAt.notIn_tupleAt (eqU x) pl (fun w hw=>a3T rx fx r fs w (by simpa using hw)) ⟨.bl _,H,I,rfl,?_⟩
  rw[show its.toArray.any (eqU x)=its.any (eqU x) by simp,a7N r fs]
  exact q
theorem b2O:OpR X (z6 .NotIn) (fun x y H Q=>∃i j,x=.str i/\y=.str j/\Q (.bl (!(!(Builtin.Str.occurrences j i 0 j.length 1).isEmpty))) H):=by
 intro pins s σ H x y v u Q I rx ry h
 obtain⟨i,j,rfl,rfl,q⟩:=h
 obtain⟨t,rfl⟩:=rx
 obtain⟨t',rfl⟩:=ry
 exact notIn_str ⟨.bl _,H,I,rfl,q⟩
theorem b3i:V5 X (.builtin "len") (fun xs H Q=>∃p ys,xs=[.ref p]/\(SqL X.K H p ys\/SqT X.K H p ys)/\Q (.int ys.length) H):=by
 intro pins s σ H xs us Q I r h
 obtain⟨p,ys,rfl,hq,q⟩:=h
 obtain⟨u,rfl,rx⟩:=a4H r
 cases rx
 have hn:=a6J
 rcases hq with hq | hq
 ·obtain⟨its,r',pl,hz⟩:=I.list hq
  have hlen:=r'.length
  exact Calls.call_len_list pl.isList (by simp only[o5] <;> omega) ⟨.int ys.length,H,I.tok _,⟨s.toks+1,by rw[o5,hlen]⟩,q⟩
 ·obtain⟨its,r',pl,hz⟩:=I.tuple hq
  have hlen:=r'.length
  exact len_tuple pl (by simp only[o5] <;> omega) ⟨.int ys.length,H,I.tok _,⟨s.toks+1,by rw[o5,hlen]⟩,q⟩
theorem b3h:V5 X (.builtin "len") (fun xs H Q=>∃z,xs=[.str z]/\z.length<=t6/\Q (.int z.length) H):=by
 intro pins s σ H xs us Q I r h
 obtain⟨z,rfl,hz,q⟩:=h
 obtain⟨u,rfl,t,rfl⟩:=a4H r
 have hn:=a6J
 exact len_str (by omega) ⟨.int z.length,H,I.tok _,⟨_,rfl⟩,q⟩
theorem V5.or{f:Value}{r r':List V->Hp->VK->Prop}(h:V5 X f r)(h':V5 X f r'):V5 X f (fun xs H Q=>r xs H Q\/r' xs H Q):=by
 intro pins s σ H xs us Q I rs q
 rcases q with q | q
 ·exact h pins s σ H xs us Q I rs q
 ·exact h' pins s σ H xs us Q I rs q
theorem b3g:V5 X (.type "list") (fun xs H Q=>∃p ys,xs=[.ref p]/\(SqL X.K H p ys\/SqT X.K H p ys)/\∀l,H l=none->Q (.ref l) (upd H l (.lst ys))):=by
 intro pins s σ H xs us Q I r h
 obtain⟨p,ys,rfl,hq,q⟩:=h
 obtain⟨u,rfl,rx⟩:=a4H r
 cases rx
 have fin:∀(its:List Value),J2 ys its->ys.length<=t6->∀(h':Heap) (c':Nat),(∀b o',s.heap.get? b=some o'->h'.get? b=some o') ->
   h'.get? s.heap.objs.size=some { cls:=.type "list",dict:=none,data:=.seq its.toArray c',slots := #[] }->EP X pins σ Q (.ref s.heap.objs.size) { s with heap:=h' }:=fun its r' hz h' c' kp e=>
  ⟨.ref s.heap.objs.size,_,I.laid (t':=s.toks) kp (j9 _) (show T9 X.prog X.w _ h' _ (.lst ys)from⟨hz,its,c',r',e⟩),rfl,q _ (I.hok.fresh (j9 _))⟩
 rcases hq with hq | hq
 ·obtain⟨its,r',pl,hz⟩:=I.list hq
  have hlen:=r'.length
  obtain⟨o,ho,hc,n,hd⟩:=pl.isList
  exact call_list_seq p (.inl rfl) ho hc hd (fun h' c' kp e=>fin its r' hz h' c' kp e) (by simp only[o5] <;> omega)
 ·obtain⟨its,r',pl,hz⟩:=I.tuple hq
  have hlen:=r'.length
  obtain⟨o,ho,hc,n,hd⟩:=pl
  exact call_list_seq p (.inr rfl) ho hc hd (fun h' c' kp e=>fin its r' hz h' c' kp e) (by simp only[o5] <;> omega)
theorem b1g:V5 X (.type "tuple") (fun xs H Q=>∃p ys,xs=[.ref p]/\((SqL X.K H p ys/\∀l,H l=none->Q (.ref l) (upd H l (.tup ys)))\/(SqT X.K H p ys/\Q (.ref p) H))):=by
 intro pins s σ H xs us Q I r h
 obtain⟨p,ys,rfl,h⟩:=h
 obtain⟨u,rfl,rx⟩:=a4H r
 cases rx
 rcases h with ⟨hq,q⟩ | ⟨hq,q⟩
 ·obtain⟨its,r',pl,hz⟩:=I.list hq
  have hlen:=r'.length
  refine call_tuple_list pl.isList (fun h' kp=>?_) (by simp only[o5] <;> omega)
  have I1:Inv X pins σ H { s with heap:=h' }:=I.kept (t':=s.toks) kp
  have I2:Inv X pins σ (upd H h'.objs.size (.tup ys)) { s with heap:=h'.push { cls:=.type "tuple",data:=.seq its.toArray } }:=
   I1.laid (t':=s.toks) (fun b o e=>d4 _ e) (j9 _) (show T9 X.prog X.w _ _ _ (.tup ys)from⟨hz,its,r',IsTup.new _ _⟩)
  exact⟨.ref h'.objs.size,_,I2,rfl,q _ (I1.hok.fresh (j9 _))⟩
 ·obtain⟨its,r',pl,hz⟩:=I.tuple hq
  exact call_tuple_same pl ⟨.ref p,H,I,rfl,q⟩
def tyV(K:Fg)(T:String)(x:V)(H:Hp):Prop:=match x with
 | .str _=>T = "str"
 | .int _=>T = "int"
 | .ref p=>(T = "list" /\ ∃xs,SqL K H p xs)\/(T = "tuple" /\ ∃o,K.lookup p=some o/\o.cls=.type "tuple" /\ o.dict=none) \/
   (T = "dict" /\ ((∃kvs,H p=some (.dK kvs))\/∃kvs,H p=some (.dT kvs)))\/(T = "set" /\ ∃S n,H p=some (.set S n))
 | _=>False
theorem c0e{T:String}{x:V}{v:Value}(I:Inv X pins σ H s)(r:F0 x v)(ty:tyV X.K T x H) :
  s.TypeIs v T/\∀a,v=.ref a->∃ob,s.heap.get? a=some ob/\ob.dict=none:=by
 cases x with
 | str z=>
  obtain⟨t,rfl⟩:=r
  cases (show T = "str" from ty)
  exact⟨typeIs_str s z t,fun _ e=>nomatch e⟩
 | int i=>
  obtain⟨t,rfl⟩:=r
  cases (show T = "int" from ty)
  exact⟨typeIs_int s i t,fun _ e=>nomatch e⟩
 | ref p=>
  cases r
  rcases ty with ⟨rfl,xs,hq⟩ | ⟨rfl,o,hk,hc,hd⟩ | ⟨rfl,hk⟩ | ⟨rfl,S,n,hk⟩
  ·obtain⟨its,_,pl,_⟩:=I.list hq
   refine⟨pl.isList.typeIs,fun a e=>?_⟩
   cases e
   obtain⟨o,n,e,c,hd,_⟩:=pl
   exact⟨o,e,hd⟩
  ·refine⟨⟨o,I.kIn p o hk,hc⟩,fun a e=>?_⟩
   cases e
   exact⟨o,I.kIn _ o hk,hd⟩
  ·have z:∃o,s.heap.get? p=some o/\o.ExactDict:=by
    rcases hk with ⟨kvs,hk⟩ | ⟨kvs,hk⟩
    ·obtain⟨_,_,_,_,o,_,_,e,ex,_⟩:=I.hok p _ hk
     exact⟨o,e,ex⟩
    ·obtain⟨_,_,_,_,o,_,_,e,ex,_⟩:=I.hok p _ hk
     exact⟨o,e,ex⟩
   obtain⟨o,e,ex⟩:=z
   refine⟨⟨o,e,ex.1⟩,fun a e2=>?_⟩
   cases e2
   exact⟨o,e,ex.2.1⟩
  ·obtain⟨o,_,_,_,e,ex,_⟩:=I.hok p _ hk
   refine⟨⟨o,e,ex.1⟩,fun a e2=>?_⟩
   cases e2
   exact⟨o,e,ex.2.1⟩
 | _=>exact False.elim ty
def c2O(K:Fg)(T:String)(r:V->List V->Hp->VK->Prop)(to:TE):TE:=fun σ H Q=>to σ H fun x H1=>tyV K T x H1/\r x [] H1 Q
def tBM(K:Fg)(T:String)(r:V->List V->Hp->VK->Prop)(to:TE)(t:TA):TE:=fun σ H Q=>to σ H fun x H1=>tyV K T x H1/\t σ H1 fun xs H2=>r x xs H2 Q
variable {o e:Expr}{es:List Expr}{to:TE}{t:TA}{name:Str}{apos cpos:Pos}{T id:String}{r:V->List V->Hp->VK->Prop}
theorem c6B(pa:c4R T)(slot:Slot T name id)(hty:typeOf (.builtin id)=pure (.type "method_descriptor"))(hm:MtR X id r)(ho:PE X o to)
  (hbase:X0 o name X.env (eval o X.env)=eval o X.env:=by rfl) (hline:(apos.endLine == cpos.line)=true:=by rfl):PE X (.Call (.Attribute o name apos) [] [] cpos) (c2O X.K T r to):=by
 intro pins s σ H Q I h
 refine wpAny_Call_method0_late hbase hline (thn (ho pins s σ H _ I h) fun v s1 ⟨x,H1,I1,r1,ty,q1⟩=>?_)
 obtain⟨h1,h2⟩:=c0e I1 r1 ty
 exact⟨T,id,pa,slot,hty,h1,h2,Calls.callWith_builtin rfl (PySem.evalArgs_none (hm pins s1 σ H1 x [] v [] Q I1 r1 .nil q1))⟩
theorem c8u(pa:c4R T)(slot:Slot T name id)(hty:typeOf (.builtin id)=pure (.type "method_descriptor"))(hm:MtR X id r)(ho:PE X o to)(ha:PA X (e::es) t)
  (hbase:X0 o name X.env (eval o X.env)=eval o X.env:=by rfl)
  (hfew:((X9 cpos (j5 (e::es) X.env)).all (fun x => !x.1)&&(b3B cpos (a4Y [] X.env)).all (fun x=>x.1.isSome)
   && decide ((e::es).length+([]:List b2i).length+(if([]:List b2i).isEmpty then 0 else 1)<30))=true:=by rfl)
  (hline:(apos.endLine == cpos.line)=true:=by rfl) (hs:j5 (e::es) X.env=(false,eval e X.env)::j5 es X.env:=by rfl) (hplain:(X9 cpos (j5 es X.env)).any (·.1)=false:=by rfl) :
  PE X (.Call (.Attribute o name apos) (e::es) [] cpos) (tBM X.K T r to t):=by
 intro pins s σ H Q I h
 refine wpAny_Call_method_late hbase hfew hline rfl (thn (ho pins s σ H _ I h) fun v s1 ⟨x,H1,I1,r1,ty,q1⟩=>?_)
 obtain⟨h1,h2⟩:=c0e I1 r1 ty
 refine⟨T,id,pa,slot,hty,h1,h2,?_⟩
 have hA:=ha cpos pins s1 σ H1 _ I1 q1
 rw[hs]at hA ⊢
 refine Calls.callWith_builtin (by show(false||(X9 cpos (j5 es X.env)).any (·.1))=false;rw[hplain] <;> rfl) (Calls.evalArgs_plain ?_)
 exact thn hA fun us s2 ⟨vs,H2,I2,r2,q2⟩=>hm pins s2 σ H2 x vs v us Q I2 r1 r2 q2
end
def MtM(X:Cx)(id:String)(r:V->List V->Hp->VK->Prop):Prop:=
 ∀(pins:List (Addr×Obj)) (s:c9) (σ:St) (H:Hp) (x:V) (xs:List V) (v:Value) (us:List Value) (Q:VK),Inv X pins σ H s->F0 x v->J2 xs us->r x xs H Q ->
  wpAny (model X.prog X.w) X.A (call (.builtin id) (v::us)) (EP X pins σ Q) X.xe s
theorem J2.one:∀ {x:V} {us:List Value},J2 [x] us->∃u,us=[u]/\F0 x u
 | _,_,.cons r .nil=>⟨_,rfl,r⟩
theorem J2.zero:∀ {us:List Value},J2 [] us->us=[]
 | _,.nil=>rfl
theorem J2.dropLast(h:J2 xs us):J2 xs.dropLast us.dropLast:=by
 induction h with
 | nil=>exact .nil
 | cons r t ih=>
  cases t with
  | nil=>exact .nil
  | cons q t'=>exact .cons r ih
theorem J2.rep(h:J2 xs us):∀k:Nat,J2 (g7 k xs).flatten (g7 k us).flatten
 | 0=>.nil
 | k+1=>by
  rw[U4,U4,a2f,a2f]
  exact J2.append h (J2.rep h k)
theorem b6N{α:Type}(l:List α):l.eraseIdx (l.length - 1)=l.dropLast:=by
 induction l with
 | nil=>rfl
 | cons a r ih=>
  cases r with
  | nil=>rfl
  | cons b r=>
   have e:(a::b::r).length - 1=((b::r).length - 1)+1:=by
    have h1:(a::b::r).length=r.length+2:=rfl
    have h2:(b::r).length=r.length+1:=rfl
    omega
   rw[e,List.eraseIdx_cons_succ,ih]
   all_goals rfl
theorem b1U(its:List Value):∀(k:Nat) (acc:List Value),
  c2B (fun x1 x2=>x1++x2) acc.toArray (g7 k its.toArray)=(acc++(g7 k its).flatten).toArray
 | 0,acc=>by simp
 | k+1,acc=>by
  have e:acc.toArray++its.toArray=(acc++its).toArray:=by simp
  have e2:(acc++its)++(g7 k its).flatten=acc++(g7 (k+1) its).flatten:=by
   rw[U4,a2f,a4C]
  rw[<-e2,<-b1U its k (acc++its),<-e,U4,List.foldl_cons]
section
variable {l b:Addr}{ys zs:List V}
theorem Inv.lset{its its':List Value}{f:Array Value->Array Value}{t':Nat}(I:Inv X pins σ H s)(hH:H l=some (.lst xs))
  (e:s.heap.get? l=some { cls:=.type "list",data:=.seq its.toArray n }) (hf:f its.toArray=its'.toArray) (hv:J2 ys its') (hz:ys.length<=t6) :
  Inv X pins σ (upd H l (.lst ys)) { s with heap:=s.heap.update l (Obj.mapSeq f),toks:=t' }:=by
 have q:=PySem.IsL.update e f
 rw[hf]at q
 refine I.write (x:=l) (e:=l) (by rw[hH];exact trivial) (.inl rfl) (fun b' u hb hu=>(M4 s.heap (Obj.mapSeq f) (Ne.symm hb)).trans hu) ⟨_,q⟩ ?_
 exact⟨hz,its',_,hv,q⟩
theorem Inv.lnew{its:List Value}{t':Nat}(I:Inv X pins σ H s)(hv:J2 ys its)(hz:ys.length<=t6) :
  Inv X pins σ (upd H s.heap.objs.size (.lst ys)) { s with heap:=s.heap.push { cls:=.type "list",data:=.seq its.toArray },toks:=t' }:=
 I.laid (fun _ _ q=>d4 _ q) (j9 _) ⟨hz,its,0,hv,C3 _ rfl⟩
theorem Inv.fresh(I:Inv X pins σ H s):H s.heap.objs.size=none:=I.hok.fresh (j9 _)
theorem Inv.lstM(I:Inv X pins σ H s)(hH:H l=some (.lst xs)):xs.length<=t6/\∃(its:List Value) (n:Nat),J2 xs its/\xs.length=its.length/\s.heap.get? l=some { cls:=.type "list",data:=.seq its.toArray n }:=by
 obtain⟨z,its,n,r,e⟩:=I.hok l _ hH
 exact⟨z,its,n,r,r.length,e⟩
theorem b4A(h:n<=t6):Builtin.List.listTooLong n=false:=by
 unfold Builtin.List.listTooLong
 exact d0J (by omega)
end
section
def c3b:V->List V->Hp->VK->Prop:=fun x vs H Q=>∃l xs y,x=.ref l/\vs=[y]/\H l=some (.lst xs)/\xs.length<t6/\Q .non (upd H l (.lst (xs++[y])))
theorem a5L:MtM X "list.append" c3b:=by
 intro pins s σ H x vs v us Q I rx rv h
 obtain⟨l,xs,y,rfl,rfl,hH,hz,q⟩:=h
 cases rx
 obtain⟨u,rfl,ru⟩:=rv.one
 obtain⟨z,its,n,r,hl,e⟩:=I.lstM hH
 refine a6V F.slot_list_append ⟨_,e,rfl⟩ F.entry_list_append (F.args_list_append_2 _ _) (PySem.list_append l its.toArray n u (by rw[o5];omega)) ⟨e,?_⟩
 refine⟨.non,_,I.lset (its':=its++[u]) hH e (by simp) (r.append (.cons ru .nil)) ?_,rfl,q⟩
 rw[u9,O3]
 omega
def c3a:V->List V->Hp->VK->Prop:=fun x vs H Q=>∃l b xs zs,x=.ref l/\vs=[.ref b]/\H l=some (.lst xs)/\H b=some (.lst zs)/\xs.length+zs.length<=t6/\Q .non (upd H l (.lst (xs++zs)))
theorem b8W:MtM X "list.extend" c3a:=by
 intro pins s σ H x vs v us Q I rx rv h
 obtain⟨l,b,xs,zs,rfl,rfl,hH,hB,hz,q⟩:=h
 cases rx
 obtain⟨u,rfl,ru⟩:=rv.one
 cases ru
 obtain⟨z,its,n,r,hl,e⟩:=I.lstM hH
 obtain⟨z2,its2,n2,r2,hl2,e2⟩:=I.lstM hB
 have hsz:its.toArray.size+its2.toArray.size<=t6:=by rw[o5,o5];omega
 have hlong:¬(!its.toArray.isEmpty&&Builtin.List.listTooLong (its.toArray.size+its2.toArray.size))=true:=by
  rw[b4A hsz,c7M]
  exact u0
 refine a6V F.slot_list_extend ⟨_,e,rfl⟩ F.entry_list_extend (F.args_list_extend_2 _ _)
  (AutoSeq1.list_extend_list_list_0 l its.toArray n b its2.toArray n2 hlong (by rw[o5];omega) (by omega)) ⟨e,e2,?_⟩
 refine⟨.non,_,I.lset (its':=its++its2) hH e (by simp) (r.append r2) ?_,rfl,q⟩
 rw[u9]
 omega
def c9m:V->List V->Hp->VK->Prop:=fun x vs H Q=>∃l xs y,x=.ref l/\vs=[]/\H l=some (.lst xs)/\xs[xs.length - 1]? = some y/\Q y (upd H l (.lst xs.dropLast))
theorem c7b:MtM X "list.pop" c9m:=by
 intro pins s σ H x vs v us Q I rx rv h
 obtain⟨l,xs,y,rfl,rfl,hH,hy,q⟩:=h
 cases rx
 have hus:=rv.zero
 subst hus
 obtain⟨z,its,n,r,hl,e⟩:=I.lstM hH
 obtain⟨u,hu,ru⟩:=r.get hy
 have hy':its.toArray[its.toArray.size - 1]? = some u:=by
  show its.toArray[its.length - 1]? = some u
  rw[<-a2w,<-hl]
  exact hu
 refine a6V F.slot_list_pop ⟨_,e,rfl⟩ F.entry_list_pop (F.args_list_pop_1 _) (MeetsSeq.list_pop_last l its.toArray n u hy' (by rw[o5];omega)) ⟨e,?_⟩
 refine⟨y,_,I.lset (its':=its.dropLast) hH e ?_ r.dropLast ?_,ru,q⟩
 ·show its.toArray.eraseIdxIfInBounds (its.toArray.size - 1)=its.dropLast.toArray
  rw[o5,List.eraseIdxIfInBounds_toArray,b6N]
 ·rw[List.length_dropLast]
  omega
def c9n:R2:=fun x y H Q=>∃l b xs zs,x=.ref l/\y=.ref b/\H l=some (.lst xs)/\H b=some (.lst zs)/\xs.length+zs.length<=t6/\∀p,H p=none->Q (.ref p) (upd H p (.lst (xs++zs)))
theorem c6R:OpR X (U1 .Add) c9n:=by
 intro pins s σ H x y v u Q I rx ry h
 obtain⟨l,b,xs,zs,rfl,rfl,hH,hB,hz,q⟩:=h
 cases rx
 cases ry
 obtain⟨z,its,n,r,hl,e⟩:=I.lstM hH
 obtain⟨z2,its2,n2,r2,hl2,e2⟩:=I.lstM hB
 refine PySem.P.add_list e e2 ?_ (by rw[o5,o5];omega)
 have ea:its.toArray++its2.toArray=(its++its2).toArray:=by simp
 rw[ea]
 exact⟨.ref _,_,I.lnew (t':=s.toks) (r.append r2) (by rw[u9];omega),rfl,q _ I.fresh⟩
def b5W:R2:=fun x y H Q=>∃l k xs,x=.ref l/\y=.int k/\H l=some (.lst xs) /\ -(2 ^ 63)<=k/\k<2 ^ 63/\xs.length * k.toNat<=t6 /\
 ∀p,H p=none->Q (.ref p) (upd H p (.lst (g7 k.toNat xs).flatten))
theorem c4h{α:Type}(xs:List α)(k:Nat):(g7 k xs).flatten.length=k * xs.length:=by
 induction k with
 | zero=>simp
 | succ k ih=>rw[U4,a2f,u9,ih,b9A,Nat.add_comm]
theorem c6F:OpR X (U1 .Mult) b5W:=by
 intro pins s σ H x y v u Q I rx ry h
 obtain⟨l,k,xs,rfl,rfl,hH,h1,h2,hz,q⟩:=h
 cases rx
 obtain⟨t,rfl⟩:=ry
 obtain⟨z,its,n,r,hl,e⟩:=I.lstM hH
 have hlen:its.toArray.size * k.toNat<=t6:=by rw[o5,<-hl];exact hz
 have hcap:¬its.toArray.size * k.toNat > (2 ^ 63 - 1) / 8:=by
  have:(t6:Nat)<=(2 ^ 63 - 1) / 8:=by decide
  omega
 have hfit:¬(!Builtin.List.listFitsIndex k)=true:=by
  rw[fitsIndex_both h1 h2]
  exact u0
 have hlong:¬Builtin.List.listTooLong (its.toArray.size * k.toNat)=true:=by
  rw[b4A hlen]
  exact u0
 have hnew:c2B (fun x1 x2=>x1++x2) #[] (g7 (if its.toArray.isEmpty=true then 0 else k.toNat) its.toArray)=(g7 k.toNat its).flatten.toArray:=by
  have f0:∀m:Nat,c2B (fun x1 x2=>x1++x2) #[] (g7 m its.toArray)=(g7 m its).flatten.toArray:=fun m=>by
   have:=b1U its m []
   rw[List.nil_append]at this
   exact this
  rw[f0]
  cases its with
  | nil=>simp
  | cons a r'=>rw[if_neg (by simp)]
 refine wpAny_binaryOp_repeat_ref (T := "list") (U := "int") (by decide) ⟨_,e,rfl⟩ (fun s'=>typeIs_int s' k t) noFill_list_mul F.fills_int_mul F.slot_int_rmul repeat_list F.slot_int_index.lookup
  (a6V F.slot_int_rmul (typeIs_int s k t) F.entry_int_rmul (F.args_int_rmul_2 _ _) (int___rmul___int_list k t l its.toArray n)
   ⟨e,rfl,⟨_,e,rfl⟩,a6V F.slot_list_mul ⟨_,e,rfl⟩ F.entry_list_mul (F.args_list_mul_2 _ _) (AutoListH.list___mul___list_int_3 l its.toArray n k t hfit hcap hlong) ⟨e,?_⟩⟩)
 rw[hnew]
 exact⟨.ref _,_,I.lnew (t':=s.toks) (r.rep k.toNat) (by rw[c4h,Nat.mul_comm];exact hz),rfl,q _ I.fresh⟩
end
section
variable {prog:w4}{w:World}{A:D8}{E:Value->c9->Prop}
set_option maxRecDepth 100000 in
end
section
end
end L2
namespace Att
open PySem PySem.W PySem.Calls PyProof.Rows
theorem a9e{P:Params}{h:Heap}:∀(ns:List Int) (vs:List Value),WellAll P h vs (ns.map WData.int)->b9P vs ns:=by
 intro ns
 induction ns with
 | nil=>
  intro vs w
  rw[b7X]at w
  cases w
  exact .nil
 | cons n ns ih=>
  intro vs w
  rw[L6]at w
  cases w with
  | cons a b=>
   cases a
   exact .cons _ _ (ih _ b)
theorem b8r{l:OpenLaw}{n:Nat}(hn:l.most=some n){P:Params}{h:Heap}{args:List WData}{vals:List Value}
  (hpre:l.row.toRowW.claim.pre args=true) (hwl:WellAll P h vals args) :
  ∃a vs ns,vals=[Value.ref a]/\args=[WData.list (ns.map WData.int)]/\h.get? a=some { cls:=.type "list",data:=.seq vs.toArray }/\b9P vs ns/\ns.length<=n:=by
 have hsh:WShape.hasAll [] args [.list .int]=true:=(pre_splitW hpre).1
 have hc:l.pre.holds [] { args:=args }=true:=(pre_splitW hpre).2
 obtain⟨d,r,rfl,h1,h2⟩:=hasAllW_cons hsh
 obtain rfl:=hasAllW_nil h2
 obtain⟨xs,rfl,h3⟩:=hasW_list h1
 obtain⟨ns,rfl⟩:=items_int h3
 have hlen:ns.length<=n:=by
  unfold OpenLaw.pre at hc
  have h4:(WTm.not (.lt (.lit (.int (n:Int))) (.len (.arg 0)))).holds [] { args:=[.list (ns.map .int)] }=true:=by
   have h4:=(holds_andW hc).1
   rw[hn]at h4
   exact h4
  have h5:=condW_of h4 (w_not (w_lt w_lit (w_len_list (w_arg rfl))))
  rw[b5]at h5
  refine Nat.le_of_not_lt fun q=>?_
  have q':(n:Int)<((ns.length:Nat):Int):=by omega
  first
   | (rw[d0K q']at h5;exact absurd h5 (by decide))
   | (simp at h5;omega)
 cases hwl with
 | cons w1 w2=>
  cases w2
  cases w1 with
  | list ho hall=>exact⟨_,_,ns,rfl,rfl,ho,a9e ns _ hall,hlen⟩
theorem b8E(l:OpenLaw)(args:List WData):l.row.toRowW.claim.post args (.bool true) args=true:=
 postW_of (r:=l.row.toRowW) (X:=(true == true))
  (show WShape.has [] (.bool true) .bool=true by first | rfl | decide | simp[WShape.has,WShape.arms,WShape.armsAll])
  (show(WTm.eq .res (.lit (.bool true))).value [] { args:=args,res:=some (.bool true),after:=args }=some (.bool (true == true))from w_eq_bool (w_res rfl) w_lit) rfl
theorem b5j{l:OpenLaw}{n:Nat}{q:w4}{loose:List Str}{XP:(Str->Option Value)->Heap->Prop}{YP:World->Heap->Prop}{d:DefRec}
  (hn:l.most=some n) (hdf:d.params.defaults=[])
  (call:∀(w:World) (s₀ s₁:c9) (mg mb:Str->Option Value) (fa:Addr) (o:Obj) (pm cd doc:Value) (a:Addr) (vs:List Value) (ns:List Int),
   Ground q loose [] XP w s₀ mg mb s₁.heap->YP w s₁.heap ->
   s₁.heap.get? fa=some o->o.data=.func (docDef d.name d.params d.body d.scope pm cd doc)->s₁.heap.CodeRec cd d.name->mg d.name=some (.ref fa) ->
   s₁.heap.get? a=some { cls:=.type "list",data:=.seq vs.toArray }->b9P vs ns->ns.length<=n->s₁.gens = #[] ->
   a1U (model l.prog w) b9O (.call (.ref fa) ⟨[.ref a],[]⟩) (fun r s'=>r=.ok (.ret (.bool true))/\OldK s₁.heap s'.heap/\s'.os=s₁.os/\a9B s'.gens) s₁) :
  WalkO q loose XP YP l.row.toRowW d [] (fun f vs=>b3u f vs):=by
 intro w s₀ s₁ mg mb G Y fa o pm cd doc dV kV ho hd hcd hD hmg hg args vals as hpre hlay hrd hwl hlo
 obtain rfl:dV=.none:=Dflts.none hD hdf
 obtain rfl:kV=.none:=Dflts.noKw hD
 obtain⟨a,vs,ns,rfl,rfl,hobj,hints,hlen⟩:=b8r hn hpre hwl
 refine enter_call (a2F (call w s₀ s₁ mg mb fa o pm cd doc a vs ns G Y ho (fd_plain hd) hcd hmg hobj hints hlen hg) fun r s' hq=>?_)
 obtain⟨rfl,h2,h3,h4⟩:=hq
 exact⟨.inl ⟨.bool true,.bool true,[],rfl,fun _=>rfl,.bool true,b8E l _,fun _=>⟨List.Pairwise.nil,fun _ hm=>(nomatch hm)⟩⟩,h2,h3,h4⟩
section
variable {prog:w4}{w:World}{A:D8}{E:Value->c9->Prop}{s:c9}{K:Frag}
end
end Att
namespace L2
open PySem PySem.Spec PyProof.Rows
theorem a7W:∀ {vs:List Value} {ns:List Int},b9P vs ns->J2 (ns.map V.int) vs
 | _,_,.nil=>.nil
 | _,_,.cons n t h=>.cons ⟨t,rfl⟩ (a7W h)
def c4I(H:Hp):Prop:=∀b,H b=none\/∃o xs,H b=some (.frz o (.lst xs))
theorem c1D{P:w4}{w:World}{K:Fg}{mg mb:Str->Option Value}{CX:CXT}{k:Nat}{fa a:Addr}{fd:Q1}{x:Str}{sp:Sp}{s₁:c9}{vs:List Value}{ns:List Int}
  (KX:K.In s₁.heap) (hns:s₁.heap.Ns u8 mg) (hb:s₁.heap.Ns builtinsNs mb) (hbb:∀x:Str,x ≠ "__name__" -> mb x=a0G x) (hlim:s₁.heap.NoLimit) (hg:s₁.gens = #[])
  (ha:s₁.heap.get? a=some { cls:=.type "list",data:=.seq vs.toArray }) (hi:b9P vs ns) (hl:ns.length<=t6) (hr:S0 k b9O)
  (F:∀base:Heap,K.In base->base.Ns u8 mg->F8 P w K mg base CX k fa fd [x] sp) (hbind:∀(s:c9) (u:Value),b5v s fd ⟨[u],[]⟩ [(x,u)])
  (hsp:∀H:Hp,c4I H->SqL K H a (ns.map V.int)->sp [.ref a] H (fun v _=>v=.bl true) fun _ _ _=>False)
  (hCX:∀H e s',CX [] H s₁ (fun _ _ _=>False) e s'->False) :
  a1U (model P w) b9O (.call (.ref fa) ⟨[.ref a],[]⟩) (fun r s'=>r=.ok (.ret (.bool true))/\OldK s₁.heap s'.heap/\s'.os=s₁.os/\a9B s'.gens) s₁:=by
 have rv:=a7W hi
 have lenV:=hi.length
 have core:∀H:Hp,c4I H->SqL K H a (ns.map V.int)->HOk P w H s₁.heap->(∀b,H b≠none->b=a)->(H a≠none->K.lookup a=none) ->
   a1U (model P w) b9O (.call (.ref fa) ⟨[.ref a],[]⟩) (fun r s'=>r=.ok (.ret (.bool true))/\OldK s₁.heap s'.heap/\s'.os=s₁.os/\a9B s'.gens) s₁:=by
  intro H hO hS hok hA hK
  have base_of:∀ {b:Addr} {o:Obj},s₁.heap.get? b=some o->H b=none->(b2Y s₁.heap H).get? b=some o:=fun e n=>c1N e n
  have noA:∀ {b:Addr} {o:Obj} {es:Array DictEntry} {ep:Nat},s₁.heap.get? b=some o->o.data=.dict es ep->H b=none:=fun {b o es ep} e d=>by
   cases q:H b with
   | none=>rfl
   | some u=>
    have e':b=a:=hA b (by rw[q];simp)
    subst e'
    rw[ha]at e;cases e
    have d':Data.seq vs.toArray _=Data.dict es ep:=d
    cases d'
  have nsK:∀ {b:Addr} {m:Str->Option Value},s₁.heap.Ns b m->(b2Y s₁.heap H).Ns b m:=fun {b m} ⟨o,es,ep,e,d,r⟩=>⟨o,es,ep,base_of e (noA e d),d,r⟩
  have hKb:K.In (b2Y s₁.heap H):=fun b o e=>base_of (KX b o e) (by
   cases q:H b with
   | none=>rfl
   | some u=>
    have e':b=a:=hA b (by rw[q];simp)
    subst e'
    rw[hK (by rw[q];simp)]at e;cases e)
  have hM:Mod K mg (b2Y s₁.heap H):=⟨hKb,nsK hns,⟨mb,nsK hb,hbb⟩,let⟨mc,h1,h2⟩:=hlim; ⟨mc,nsK h1,h2⟩⟩
  have e0:b3t P w K mg (b2Y s₁.heap H) b9O [] s₁ H:=⟨rfl,hM,fun b o e=>c3U e,b0L (b9e _ _),trivial,fun b hb=>absurd (show b∈([]:List Addr)from hb) (by simp),hok,.of_eq hg⟩
  refine a2F ((F _ hKb (nsK hns)).run b9O [] s₁ H ⟨[.ref a],[]⟩ [.ref a] [.ref a] _ _ hr e0 (hbind s₁ (.ref a)) (.cons rfl .nil) (hsp H hO hS)) fun r s' h=>?_
  cases r with
  | error e=>exact(hCX H e s' h).elim
  | ok fl=>
   cases fl with
   | next=>exact False.elim h
   | brk=>exact False.elim h
   | cont=>exact False.elim h
   | ret u=>
    obtain⟨v,H',os,bare,un,hok',r',q⟩:=h
    have q':v=.bl true:=q
    subst q'
    obtain rfl:u=Value.bool true:=r'
    refine⟨rfl,OldK.of_keep fun b o e=>?_,os,bare⟩
    cases q:H b with
    | none=>exact un.keep b o e q (by intro z;exact absurd (show b∈([]:List Addr)from z) (by simp)) (by simp)
    | some u=>
     rcases hO b with z | ⟨ob,xs,z⟩
     ·rw[q]at z;cases z
     ·have z2:=un.frzs b ob _ z
      obtain⟨e1,_⟩:=hok b _ z
      obtain⟨e2,_⟩:=hok' b _ z2
      rw[e]at e1;cases e1
      exact e2
 cases hk:K.lookup a with
 | some o=>
  have e:=KX a o hk
  rw[ha]at e
  cases e
  refine core (fun _=>none) (fun _=>.inl rfl) (.inr ⟨_,vs.toArray,_,hk,rfl,rfl,rfl,by rw[o5,lenV];exact hl,by simpa using rv⟩) (fun b u z=>by have z':(none:Option HO)=some u:=z;cases z') (fun b z=>absurd rfl z) fun z=>absurd rfl z
 | none=>
  refine core (fun b=>if b=a then some (.frz { cls:=.type "list",data:=.seq vs.toArray } (.lst (ns.map V.int)))else none) (fun b=>?_) (.inl (.inr ⟨{ cls:=.type "list",data:=.seq vs.toArray },if_pos rfl⟩)) (fun b u z=>?_) (fun b z=>?_) fun _=>hk
  ·by_cases hb:b=a
   ·exact .inr ⟨_,_,if_pos hb⟩
   ·exact .inl (if_neg hb)
  ·by_cases hb:b=a
   ·have z':=(if_pos hb).symm.trans z
    cases z'
    subst hb
    exact⟨ha,by rw[b5];exact hl,vs,_,rv,ha⟩
   ·have z':=(if_neg hb).symm.trans z
    cases z'
  ·by_cases hb:b=a
   ·exact hb
   ·exact absurd (if_neg hb) z
theorem c2M{l:PySem.W.OpenLaw}{n k:Nat}{q:w4}{loose:List Str}{XP:(Str->Option Value)->Heap->Prop}{YP:World->Heap->Prop}{d:DefRec}{K:Params->Fg}{CX:World->CXT}{sp:World->Sp}{x:Str}
  (hn:l.most=some n) (hn2:n<=t6) (hdf:d.params.defaults=[]) (hr:S0 k b9O)
  (hY:∀(w:World) (h:Heap),YP w h->(K w.params).In h)
  (F:∀(w:World) (mg:Str->Option Value) (fa:Addr) (h:Heap),(K w.params).In h->h.Ns u8 mg->mg d.name=some (.ref fa) ->
   ∃fd:Q1,(∀(s:c9) (u:Value),b5v s fd ⟨[u],[]⟩ [(x,u)]) /\
    ∀base:Heap,(K w.params).In base->base.Ns u8 mg->F8 l.prog w (K w.params) mg base (CX w) k fa fd [x] (sp w))
  (hsp:∀(w:World) (H:Hp) (a:Addr) (ns:List Int),ns.length<=n->c4I H->SqL (K w.params) H a (ns.map V.int)->sp w [.ref a] H (fun v _=>v=.bl true) fun _ _ _=>False)
  (hCX:∀(w:World) (H:Hp) (s:c9) (e:Value) (s':c9),CX w [] H s (fun _ _ _=>False) e s'->False) :
  PySem.W.WalkO q loose XP YP l.row.toRowW d [] (fun f vs=>b3u f vs):=by
 refine Att.b5j hn hdf fun w s₀ s₁ mg mb fa o pm cd doc a vs ns G Y ho hd hcd hmg hobj hints hlen hg=>?_
 have KX:=hY w _ Y
 obtain⟨fd,hb,hF⟩:=F w mg fa _ KX G.T.g hmg
 exact c1D KX G.T.g G.T.b G.T.builtins G.T.nolimit hg hobj hints (F3 hlen hn2) hr hF hb (fun H hO hS=>hsp w H a ns hlen hO hS) fun H e s'=>hCX w H s₁ e s'
abbrev CX0:CXT:=fun _ _ _ _ _ _=>False
abbrev E0:XK:=fun _ _ _=>False
theorem c5i{X:Cx}:b3q CX0 X E0:=fun _ _ _ _ _ _ _ h=>h.elim
structure Fun(K:Fg)(x qual:Str)(st:Stmt)(f:Addr)(fd:Q1):Prop where
 ex:∃(oc:Value) (od:Option Addr) (kV doc pm:Value) (an:Option Addr) (cdv ct:Value) (osl:Array (Option Value)),
  fd=a0L x qual (a4s st) (a0f st) (i8 st) .none kV doc pm an cdv ct/\K.lookup f=some ⟨oc,od,.func fd,osl⟩/\a5W K cdv qual=true
 kp:Q7 K (.ref f)=true
section
variable {P:w4}{w:World}{K:Fg}{mg:Str->Option Value}{base:Heap}
theorem Fun.ok{x qual:Str}{st:Stmt}{f:Addr}{fd:Q1}{N ps:List Str}{k:Nat}{sp:Sp}(F:Fun K x qual st f fd)(S:C2 N ps (i8 st))(len:∀vs H Q E,sp vs H Q E->vs.length=ps.length)
  (hbody:∀(cdv:Value) (A:D8) (outer:List Env) (s:c9) (H:Hp) (vs:List V) (Q:VK) (E:XK),S0 k (A.deeper (a4Z qual (i8 st) s.heap.objs.size f cdv))->sp vs H Q E ->
   ∃t,PSs (a5T CX0 P w K mg base N qual (i8 st) f cdv A outer s H E).nox (a0f st) t/\t { nx:=fun _ H'=>Q .non H',rt:=Q } (a2U N vs) H):F8 P w K mg base CX0 (k+1) f fd ps sp:=by
 obtain⟨oc,od,kV,doc,pm,an,cdv,ct,osl,rfl,lk,hcd⟩:=F.ex
 refine c5n lk hcd S len fun A outer s H vs Q E hr hsp=>?_
 obtain⟨t,h,q⟩:=hbody cdv A outer s H vs Q E hr hsp
 exact⟨t,h.nox,q⟩
theorem Fun.binds{x qual:Str}{st:Stmt}{f:Addr}{fd:Q1}{ps:List Str}(F:Fun K x qual st f fd)
  (h:∀(kV doc pm:Value) (an:Option Addr) (cdv ct:Value) (us:List Value),us.length=ps.length->bindArgs (a0L x qual (a4s st) (a0f st) (i8 st) .none kV doc pm an cdv ct) ⟨us,[]⟩=pure (ps.zip us)):a2r K fd ps []:=by
 obtain⟨oc,od,kV,doc,pm,an,cdv,ct,osl,rfl,lk,hcd⟩:=F.ex
 exact .all (h kV doc pm an cdv ct)
theorem c7s{x qual:Str}{st:Stmt}{f:Addr}{oc:Value}{od an:Option Addr}{osl:Array (Option Value)}{kV doc pm cdv ct:Value}(l:K.lookup f=some ⟨oc,od,.func (a0L x qual (a4s st) (a0f st) (i8 st) .none kV doc pm an cdv ct),osl⟩)
  (c:a5W K cdv qual=true) (k:Q7 K (.ref f)=true):Fun K x qual st f (a0L x qual (a4s st) (a0f st) (i8 st) .none kV doc pm an cdv ct):=⟨⟨oc,od,kV,doc,pm,an,cdv,ct,osl,rfl,l,c⟩,k⟩
end
theorem b7I{A:D8}{k:Nat}(hr:S0 k A):A.units+1<cLine:=c4M (Nat.add_le_add_left (by decide:1<=64) _) hr.units
section
variable {X:Cx}
end
theorem c7p{A B:Prop}(h:B):if false=true then A else B:=by
 rw[if_neg u0]
 exact h
theorem b4L{A B:Prop}(h:A):if true=true then A else B:=by
 rw[if_pos rfl]
 exact h
theorem V1{c A B:Prop}[Decidable c](h1:c->A)(h2:¬c->B):if c then A else B:=by
 by_cases h:c
 ·rw[if_pos h]
  exact h1 h
 ·rw[if_neg h]
  exact h2 h
def t9(H H':Hp):Prop:=∀b o,H b=some o->H' b=some o
theorem t9.refl(H:Hp):t9 H H:=fun _ _ h=>h
theorem t9.trans{H H1 H2:Hp}(a:t9 H H1)(b:t9 H1 H2):t9 H H2:=fun c o h=>b c o (a c o h)
theorem t9.free{H H':Hp}(e:t9 H H'){l:Addr}(h:H' l=Option.none):H l=Option.none:=by
 cases q:H l with
 | none=>rfl
 | some o=>
  rw[e l o q]at h
  cases h
section
variable {κ:Type}[DecidableEq κ]
end
end L2
set_option maxHeartbeats 4000000
namespace L2
open PySem PySem.Spec PyProof.Rows
variable{env:Env}{scope:Scope}{X:Cx}{w:World}{s:c9}{elt iter:Expr}{elts ifs:List Expr}{pos tp:Pos}{pins:List (Addr×Obj)}{σ:St}{H:Hp}{fp:List Addr}{tt:TT}{te:TE}{xs:List V}{us:List Value}
theorem b3c:∀(names:List (Str×a6a)) (cs:List (Str×Addr)),(∀y∈names,y.2=.free->∃c,env.cells.lookup y.1=some c) ->
  (∀y c,cs.lookup y=some c->env.cells.lookup y=some c) ->
  ∃cl,(forIn names cs (fun(x:Str×a6a) (r:List (Str×Addr))=>(if(x.2 == NameKind.free)=true then (do let c <-cellOf env x.1;pure (ForInStep.yield ((x.1,c)::r)))else pure (ForInStep.yield r):Sem (ForInStep (List (Str×Addr)))))=(pure cl:Sem (List (Str×Addr)))) /\
   (∀y c,cl.lookup y=some c->env.cells.lookup y=some c)/\(∀y,(y,NameKind.free)∈names\/(cs.lookup y).isSome=true->(cl.lookup y).isSome=true)
 | [],cs,_,h=>⟨cs,rfl,h,fun y q=>q.elim (fun z=>absurd z (by simp)) id⟩
 | (n,k)::r,cs,hc,h=>by
  by_cases e:(k == NameKind.free)=true
  ·have ek:k=.free:=by simpa using e
   obtain⟨c,hcc⟩:=hc (n,k) J3 ek
   have h':∀y d,((n,c)::cs).lookup y=some d->env.cells.lookup y=some d:=by
    intro y d q
    rw[G9]at q
    cases eq:y == n with
    | true=>
     rw[eq]at q
     have e2:y=n:=by simpa using eq
     cases q;rw[e2];exact hcc
    | false=>rw[eq]at q;exact h y d q
   obtain⟨cl,h1,h2,h3⟩:=b3c r ((n,c)::cs) (fun y hy=>hc y (E8 _ hy)) h'
   refine⟨cl,?_,h2,fun y q=>h3 y ?_⟩
   ·rw[c7I]
    show((if(k == NameKind.free)=true then (do let c <-cellOf env n;pure (ForInStep.yield ((n,c)::cs)))else pure (ForInStep.yield cs):Sem (ForInStep (List (Str×Addr)))) >>= _)=_
    rw[if_pos e]
    have ec:cellOf env n=pure c:=by unfold cellOf;rw[hcc]
    rw[ec]
    exact h1
   ·rcases q with q | q
    ·rcases o0.mp q with q | q
     ·cases q
      right
      simp[G9]
     ·exact .inl q
    ·right
     rw[G9]
     cases y == n
     ·exact q
     ·rfl
  ·obtain⟨cl,h1,h2,h3⟩:=b3c r cs (fun y hy=>hc y (E8 _ hy)) h
   refine⟨cl,?_,h2,fun y q=>h3 y ?_⟩
   ·rw[c7I]
    show((if(k == NameKind.free)=true then (do let c <-cellOf env n;pure (ForInStep.yield ((n,c)::cs)))else pure (ForInStep.yield cs):Sem (ForInStep (List (Str×Addr)))) >>= _)=_
    rw[if_neg e]
    exact h1
   ·rcases q with q | q
    ·rcases o0.mp q with q | q
     ·cases q
      exact absurd rfl e
     ·exact .inl q
    ·exact .inr q
theorem a4u(hc:∀y∈scope.names,y.2=.free->∃c,env.cells.lookup y.1=some c) :
  ∃cl,closureFor scope env=pure cl/\(∀y c,cl.lookup y=some c->env.cells.lookup y=some c)/\∀y,(y,NameKind.free)∈scope.names->(cl.lookup y).isSome=true:=by
 obtain⟨cl,h1,h2,h3⟩:=b3c scope.names [] hc (fun y c q=>by cases q)
 refine⟨cl,?_,h2,fun y q=>h3 y (.inl q)⟩
 unfold closureFor
 first
  | exact h1
  | (show(forIn scope.names [] _ >>= fun r=>pure r)=_;rw[h1];rfl)
theorem P0{env:Env}:∀ {names:List (Str×a6a)} {y:Str} {k:a6a},
  (names.map fun(n,k)=>if(k == NameKind.free&&env.scope.kind == .function&&env.kindOf n == some .cell)then (n,NameKind.cell)else (n,k)).lookup y=some k ->
  names.lookup y=some k\/(names.lookup y=some .free/\k=.cell)
 | [],_,_,h=>by cases h
 | (n,k0)::r,y,k,h=>by
  have ih := @P0 env r y k
  rw[L6]at h
  rw[G9]
  cases hx:y == n with
  | true=>
   by_cases hc:(k0 == NameKind.free&&env.scope.kind == .function&&env.kindOf n == some .cell)=true
   ·have e2:k0=.free:=by simp at hc;exact hc.1.1
    dsimp only at h
    rw[if_pos hc,G9,hx]at h
    cases h
    exact .inr ⟨by rw[e2],rfl⟩
   ·dsimp only at h
    rw[if_neg hc,G9,hx]at h
    exact .inl h
  | false=>
   by_cases hc:(k0 == NameKind.free&&env.scope.kind == .function&&env.kindOf n == some .cell)=true
   ·dsimp only at h
    rw[if_pos hc,G9,hx]at h
    exact ih h
   ·dsimp only at h
    rw[if_neg hc,G9,hx]at h
    exact ih h
def hid(x:Str)(N:List Str):List Str:=N.map fun y=>if y=x then ("." : Str)++x else y
def J8(X:Cx)(scope:Scope)(cl:List (Str×Addr))(C:Addr)(x:Str)(fp:List Addr)(s3:c9)(H3:Hp):Cx:=
 { X with N:=x::hid x X.N,s₀:=s3,H₀:=H3,env:=b0N scope cl C X.env,outer:=X.stack,stack:=X.stack,ex:=fp,fn:=fun _=>false,pn:=[],xe:=fun _ _=>False }
structure O0(N:List Str)(osc sc:Scope)(x:Str):Prop where
 kind:sc.kind=.function
 cell:∀y∈sc.names,y.2≠.cell
 names:∀y∈sc.names,y.2=.local->sc.names.lookup y.1=some .local
 own:sc.names.lookup x=some .local
 fr:∀y∈sc.names,y.2=.free->osc.names.lookup y.1=some .cell\/osc.names.lookup y.1=some .free
 see:∀y∈hid x N,sc.names.lookup y≠some .local
 dot:sc.names.lookup (("." : Str)++x)=none
 nd:(x::hid x N).Nodup
def S3(wi:TI)(tt:TT)(te:TE):TE:=fun σ H Q=>wi σ H fun J H1=>∀D,H1 D=none->∃W:Nat->Nat->List V->Hp->Prop,
 (∃m,W 0 m [] (upd H1 D (.lst [])))/\∀i m ys H2,W i m ys H2->H2 D=some (.lst ys) /\
  ((J.stop i H2 /\ Q (.ref D) H2) \/ (J.go i H2 /\ ∀ x H3,J.yld i H2 x H3 -> tt (some x :: σ) H3 fun ok H4 => if ok = true then
    te (some x::σ) H4 (fun y H5=>H5 D=some (.lst ys)/\ys.length<t6/\∃m',m'<m/\W (i+1) m' (ys++[y]) (upd H5 D (.lst (ys++[y]))))
    else ∃m',m'<m/\W (i+1) m' ys H4))
def PTs(X:Cx)(ifs:List Expr)(t:TT):Prop:=
 ∀(pins:List (Addr×Obj)) (s:c9) (σ:St) (H:Hp) (Q:Bool->Hp->Prop),Inv X pins σ H s->t σ H Q ->
  wpAny (model X.prog X.w) X.A (forIn ifs true fun c r=>if r=true then do let ok <-isTrue c X.env (eval c X.env);pure (ForInStep.yield ok)else pure (ForInStep.yield r)) (TP X pins σ Q) X.xe s
def T5:TT:=fun _ H Q=>Q true H
theorem c3h:PTs X [] T5:=fun _ _ _ H _ I h=>wpAny_tests_nil ⟨H,I,h⟩
theorem c3g{c:Expr}{t:TT}(h:PT X c t):PTs X [c] t:=fun pins s σ H Q I hq=>wpAny_tests_one (h pins s σ H Q I hq)
theorem a8v{prog:w4}{A:D8}{R:b1p->c9->Prop}{target:Expr}{it acc:Value}(I:Nat->c9->Prop)
  (turn:∀n s,I n s->wpAny (model prog w) A (c7P it) (fun r s₁=>match r with
   | none=>R (.ok .next) s₁
   | some v=>wpAny (model prog w) A (a2P target it v) (fun _ s₂=>wpAny (model prog w) A (b1o target env v) (fun _ s₃=>
     wpAny (model prog w) A (forIn ifs true fun c r=>if r=true then do let ok <-isTrue c env (eval c env);pure (ForInStep.yield ok)else pure (ForInStep.yield r)) (fun ok s₄=>
      if ok=true then wpAny (model prog w) A (eval elt env) (fun x s₅=>
       wpAny (model prog w) A (call (.builtin "list.append") [acc,x]) (fun _ s₆=>∃m,m<n/\I m s₆) (fun _ _=>False) s₅) (fun _ _=>False) s₄
      else ∃m,m<n/\I m s₄) (fun _ _=>False) s₃) (fun _ _=>False) s₂) (fun _ _=>False) s₁) (fun _ _=>False) s)
  (n:Nat) (h:I n s) :
  a1U (model prog w) A (.compLoop (.ListComp elt [⟨target,iter,ifs,0⟩] scope pos) 0 it acc env) R s:=by
 have up:∀ {α:Type} {m:Sem α} {Q:α->c9->Prop} {E:Value->c9->Prop} {s:c9},wpAny (model prog w) A m Q (fun _ _=>False) s->wpAny (model prog w) A m Q E s:=
  fun h=>O8 h (fun _ _ q=>q) fun _ _ f=>f.elim
 refine codeAny_loop rfl I (fun n s hI=>?_) n h
 refine wpAny_noted ?_
 rw[compTurn_list]
 refine c7 (a7V (c7 (up (thn (turn n s hI) fun r s₁ h₁=>?_))))
 cases r with
 | none=>exact y9 h₁
 | some v=>
  refine c7 (up (thn h₁ fun _ s₂ h₂=>c7 (up (thn h₂ fun _ s₃ h₃=>c7 (up (thn h₃ fun ok s₄ h₄=>?_))))))
  cases ok with
  | false=>exact y9 ⟨rfl,by simpa using h₄⟩
  | true=>
   rw[if_pos rfl]at h₄
   exact c7 (c7 (up (thn h₄ fun x s₅ h₅=>c7 (up (thn h₅ fun _ s₆ h₆=>y9 (y9 ⟨rfl,h₆⟩))))))
section
variable {x:Str}{px:Pos}
theorem b4W{s3:c9}{cl:List (Str×Addr)}{h4:Heap}{tk:Nat}(hc:O0 X.N X.env.scope scope x)(I:Inv X pins σ H s3)
  (hcl:∀y c,cl.lookup y=some c->X.env.cells.lookup y=some c) (hcl2:∀y,(y,NameKind.free)∈scope.names->(cl.lookup y).isSome=true)
  (fpo:∀b∈fp,a0E X pins H b) (fpl:∀b∈fp,b<s3.heap.objs.size)
  (hn:h4.Ns s3.heap.objs.size (fun _=>none)) (k:∀b o,s3.heap.get? b=some o->h4.get? b=some o) :
  Inv (J8 X scope cl s3.heap.objs.size x fp s3 H) [] (none::σ) H { s3 with heap:=h4,toks:=tk }:=by
 have low:∀x y,(J8 X scope cl s3.heap.objs.size x fp s3 H).env.cells.lookup y=cl.lookup y:=fun _ _=>rfl
 have below:∀y c,cl.lookup y=some c->c<s3.heap.objs.size:=fun y c e=>by
  obtain⟨v,q⟩:=I.cell y c (hcl y c e)
  exact q.lt
 have kinds:∀y,((J8 X scope cl s3.heap.objs.size x fp s3 H).env.kindOf y=some .cell\/(J8 X scope cl s3.heap.objs.size x fp s3 H).env.kindOf y=some .free)->scope.names.lookup y=some .free:=by
  intro y hy
  rcases hy with hy | hy
  ·rcases P0 hy with q | ⟨q,_⟩
   ·exact absurd rfl (hc.cell _ (D6 q))
   ·exact q
  ·rcases P0 hy with q | ⟨q,z⟩
   ·exact q
   ·cases z
 refine⟨⟨I.ok.mod,?_,I.ok.glob,I.ok.blt,j9 _,fun y z c h1 h2=>?_,fun y hy=>?_,fun y c h=>?_,I.ok.hd,I.ok.frames,.inl rfl,fun b hb=>⟨?_,fun y c e z=>?_⟩,fun b o e=>I.bs b o e,F3 I.ok.bsz I.sz,fun b o e hb=>?_,fun b hb hf=>?_,I.stack,I.stkFree⟩,
  rfl,I.bare,Un.kept k,⟨_,hn,fun i y v h1 h2 h3=>?_⟩,fun y c e=>?_,I.fresh,fun y c e=>?_,fun p hp=>absurd (show p∈([]:List (Addr×Obj))from hp) (by simp),I.hok.kept k,?_⟩
 ·exact hc.kind
 ·exact I.ok.inj y z c (hcl _ _ h1) (hcl _ _ h2)
 ·have:=hcl2 y (D6 (kinds y hy))
  exact X7.mp this
 ·cases h
 ·exact v5 (fpl b hb)
 ·exact(fpo b hb).2.2.2.2.1 y c (hcl y c e) z
 ·rcases(fpo b hb).2.2.2.1 with q | q
  ·exact I.ok.noex b o e q
  ·exact absurd (v0 (h9 (I.ok.bs b o e).1) q) (D4 _)
 ·rcases o0.mp (I.stkSub b hf)with e | e
  ·exact(fpo b hb).2.1 e
  ·exact(fpo b hb).2.2.1 e
 ·-- the names
  have h1:(x::hid x X.N)[i]? = some y:=h1
  cases i with
  | zero=>cases h2
  | succ i=>
   have h1:(hid x X.N)[i]? = some y:=h1
   have h2:σ[i]? = some (some v):=h2
   have my:y∈hid x X.N:=a0N h1
   have h3:(a6o scope X.env).names.lookup y=some .local\/(a6o scope X.env).names.lookup y=some .cell\/(a6o scope X.env).names.lookup y=some .free:=h3
   have hf:scope.names.lookup y=some .free:=by
    rcases h3 with q | q
    ·rcases P0 q with q | ⟨_,z⟩
     ·exact absurd q (hc.see y my)
     ·cases z
    ·exact kinds y q
   have hy:X.N[i]? = some y:=by
    unfold hid at h1
    rw[c8]at h1
    cases e:X.N[i]? with
    | none=>rw[e]at h1;cases h1
    | some z=>
     rw[e]at h1
     by_cases ez:z=x
     ·rw[a5A,if_pos ez]at h1
      have h1:=Option.some.inj h1
      subst h1
      rw[hc.dot]at hf
      cases hf
     ·rw[a5A,if_neg ez]at h1
      exact h1
   obtain⟨m,_,hl⟩:=I.loc
   obtain⟨c,hcc⟩:=X7.mp (hcl2 y (D6 hf))
   have vis:Vis X.env.scope y:=by
    rcases hc.fr _ (D6 hf) rfl with q | q
    ·exact .inr (.inl q)
    ·exact .inr (.inr q)
   obtain⟨u,ru,lk⟩:=hl i y v hy h2 vis
   refine⟨u,ru,.inr ⟨?_,c,hcc,?_⟩⟩
   ·rcases h3 with q | q
    ·rcases P0 q with q | ⟨_,z⟩
     ·exact absurd q (hc.see y my)
     ·cases z
    ·exact q
   ·have hce:=hcl y c hcc
    rcases lk with ⟨q,_⟩ | ⟨_,c',e',z⟩
    ·rcases hc.fr _ (D6 hf) rfl with q' | q'
     ·have q:X.env.scope.names.lookup y=some .local:=q
      rw[show X.env.scope.names.lookup y=some NameKind.cell from q']at q
      cases q
     ·have q:X.env.scope.names.lookup y=some .local:=q
      rw[show X.env.scope.names.lookup y=some NameKind.free from q']at q
      cases q
    ·rw[e']at hce
     cases hce
     obtain⟨o,ho,hd⟩:=z
     exact⟨o,k _ _ ho,hd⟩
 ·obtain⟨v,o,ho,hd⟩:=I.cell y c (hcl y c e)
  exact⟨v,o,k _ _ ho,hd⟩
 ·exact I.freeC y c (hcl y c e)
 ·show(none::σ).length=(x::hid x X.N).length
  have:=I.len
  simp[hid,this]
theorem b0y{H1:Hp}{s2:c9}{cl:List (Str×Addr)}{it:Addr}{tn:Nat->Heap->Prop}{J:It}{Q:VK}{E:Value->c9->Prop}
  {RR:Value->Addr->b1p->c9->Prop} (hc:O0 X.N X.env.scope scope x) (hcalm:X.calm=true)
  (hcl:∀y c,cl.lookup y=some c->X.env.cells.lookup y=some c) (hcl2:∀y,(y,NameKind.free)∈scope.names->(cl.lookup y).isSome=true)
  (ht:∀C fp s3 H3,PTs (J8 X scope cl C x fp s3 H3) ifs tt) (he:∀C fp s3 H3,PE (J8 X scope cl C x fp s3 H3) elt te)
  (I:Inv X pins σ H1 s2) (T:b5m X.prog X.w X.K (.Name x px) J fp it tn) (st:tn 0 s2.heap) (fpo:∀b∈fp,a0E X pins H1 b)
  (h:∀D,H1 D=none->∃W:Nat->Nat->List V->Hp->Prop,
   (∃m,W 0 m [] (upd H1 D (.lst [])))/\∀i m ys H2,W i m ys H2->H2 D=some (.lst ys) /\
   ((J.stop i H2 /\ Q (.ref D) H2) \/ (J.go i H2 /\ ∀ x H3,J.yld i H2 x H3 -> tt (some x :: σ) H3 fun ok H4 => if ok = true then
     te (some x::σ) H4 (fun y H5=>H5 D=some (.lst ys)/\ys.length<t6/\∃m',m'<m/\W (i+1) m' (ys++[y]) (upd H5 D (.lst (ys++[y]))))
     else ∃m',m'<m/\W (i+1) m' ys H4)))
  (hRR:∀D C s' H' m,Inv X pins σ H' s'->s'.heap.Ns C m->H' C=none->C≠X.env.locals->X.s₀.heap.objs.size<=C->(∀y c,X.env.cells.lookup y=some c->c≠C)->(∀p∈X.pn++pins,p.1≠C)->Q (.ref D) H'->RR (.ref D) C (.ok .next) s') :
  wpAny (model X.prog X.w) X.A (newList []) (fun acc s₃=>wpAny (model X.prog X.w) X.A (newFunctionEnv scope X.env.globals cl [] X.env.qual none .none (some X.env)) (fun cenv s₄=>
   a1U (model X.prog X.w) X.A (.compStart (.ListComp elt [⟨.Name x px,iter,ifs,0⟩] scope pos) 0 (.ref it) acc { cenv with scope:=a6o scope X.env }) (RR acc cenv.locals) s₄) E s₃) E s2:=by
 refine P9 (hd:=by size_fits) ?_
 have I3:=I.lnew (ys:=[]) (its:=[]) (t':=s2.toks) .nil (by show 0<=t6;exact L5 _)
 obtain⟨W,⟨m0,w0⟩,turn⟩:=h _ I.fresh
 generalize hD:s2.heap.objs.size=D at I3 w0 turn ⊢
 generalize hs3:({ s2 with heap:=s2.heap.push { cls:=.type "list",data:=.seq ([]:List Value).toArray } }:c9)=s3
 have hs3':({ s2 with heap:=s2.heap.push { cls:=.type "list",data:=.seq ([]:List Value).toArray },toks:=s2.toks }:c9)=s3:=hs3
 rw[hs3']at I3
 have keep3:∀b o,s2.heap.get? b=some o->s3.heap.get? b=some o:=fun b o e=>by rw[<-hs3];exact d4 _ e
 have fpl:∀b∈fp,b<s3.heap.objs.size:=fun b hb=>by
  obtain⟨o,e,_⟩:=T.obj _ _ st b hb
  exact h9 (keep3 b o e)
 have fpD:∀b∈fp,b≠D:=fun b hb z=>by
  obtain⟨o,e,_⟩:=T.obj _ _ st b hb
  exact absurd (h9 e) (by rw[z,hD];exact D4 _)
 have fpo3:∀b∈fp,a0E X pins (upd H1 D (.lst [])) b:=fun b hb=>⟨by rw[j7 (fpD b hb)];exact(fpo b hb).1,(fpo b hb).2⟩
 show wpAny _ _ _ _ _ s3
 refine b0R hc.cell (by intro y hy;simp at hy) (fun h₁ hns₁ hsb₁=>?_) hc.kind
 dsimp only[newEnv]at hns₁ hsb₁ ⊢
 have keep4:∀b o,s3.heap.get? b=some o->h₁.get? b=some o:=fun b o e=>hsb₁.extBut b o (v5 (h9 e)) (d4 _ e)
 have I4:=b4W (tk:=s3.toks+([]:List (Str×Value)).length) hc I3 hcl hcl2 fpo3 fpl hns₁ keep4
 have st4:tn 0 h₁:=T.keep _ _ _ st fun b hb o e=>keep4 b o (keep3 b o e)
 have loop:∀s₄:c9,s₄={ s3 with heap:=h₁,toks:=s3.toks+([]:List (Str×Value)).length } ->
   a1U (model X.prog X.w) X.A (.compLoop (.ListComp elt [⟨.Name x px,iter,ifs,0⟩] scope pos) 0 (.ref it) (.ref D) (b0N scope cl s3.heap.objs.size X.env)) (RR (.ref D) s3.heap.objs.size) s₄:=by
  rintro s₄ rfl
  have stat:∀ {H':Hp},(∀b∈fp,H' b=none)->∀b∈fp,a0E (J8 X scope cl s3.heap.objs.size x fp s3 (upd H1 D (.lst []))) [] H' b:=fun hn b hb=>
   ⟨hn b hb,v5 (fpl b hb),fun hf=>by
    rcases o0.mp (I3.stkSub b hf)with e | e
    ·exact(fpo b hb).2.1 e
    ·exact(fpo b hb).2.2.1 e,.inl hb,fun y c e=>(fpo b hb).2.2.2.2.1 y c (hcl y c e),fun p hp=>absurd (show p∈([]:List (Addr×Obj))from hp) (by simp)⟩
  refine a8v (env:=b0N scope cl s3.heap.objs.size X.env) (fun n s'=>∃i ys H',Inv (J8 X scope cl s3.heap.objs.size x fp s3 (upd H1 D (.lst []))) [] (none::σ) H' s'/\tn i s'.heap/\(∀b∈fp,H' b=none)/\W i n ys H') ?_ m0
   ⟨0,[],_,I4,st4,fun b hb=>(fpo3 b hb).1,w0⟩
  rintro n s5 ⟨i,ys,H5,I5,st5,fr5,w5⟩
  obtain⟨hDy,alt⟩:=turn i n ys H5 w5
  rcases alt with ⟨stop,q⟩ | ⟨go,step⟩
  ·refine O8 (T.done (J8 X scope cl s3.heap.objs.size x fp s3 (upd H1 D (.lst []))) rfl rfl rfl hcalm i [] s5 _ H5 (fun _ _=>False) I5 (stat fr5) st5 stop) (fun r s6 ⟨hr,I6⟩=>?_) fun _ _ f=>f
   subst hr
   obtain⟨m6,n6,_⟩:=I6.loc
   have J6:Inv X pins σ H5 s6:=by
    refine I3.call' (ch:=fp) I6.os I6.base I6.hok I6.bare fun b hb=>?_
    obtain⟨_,f1,f2,f3,f4,f5⟩:=fpo3 b hb
    exact⟨f3,f1,f4,f5⟩
   refine hRR D _ s6 H5 m6 J6 n6 I6.free (a3I I3.lt) I3.sz (fun y c e z=>?_) (fun p hp z=>?_) q
   ·obtain⟨v,q⟩:=I3.cell y c e
    exact absurd q.lt (by rw[z];exact D4 _)
   ·exact absurd (h9 (I3.pin p hp).1) (by rw[z];exact D4 _)
  ·refine O8 (T.item (J8 X scope cl s3.heap.objs.size x fp s3 (upd H1 D (.lst []))) rfl rfl rfl hcalm i [] s5 _ H5 (fun _ _=>False) I5 (stat fr5) st5 go) (fun r s6 ⟨u,hr,h6⟩=>?_) fun _ _ f=>f
   subst hr
   refine thn h6 fun _ s6 ⟨xv,H6,I6,r6,y6,st6,fr6⟩=>?_
   have I6':=I6.pinned (stat fr6) (T.obj _ _ st6)
   refine a6U (a3P (i:=0) I6' ?nd rfl (.inl ?loc) r6 (fun s7 I7=>?_) (.inr ?loc))
   case nd=>exact hc.nd
   case loc=>exact a0i hc.own
   have I7:Inv (J8 X scope cl s3.heap.objs.size x fp s3 (upd H1 D (.lst []))) ([]++a4k fp s6.heap) (some xv::σ) H6 s7:=I7
   have again:∀ {s8:c9} {H8:Hp} {ys8:List V},Inv (J8 X scope cl s3.heap.objs.size x fp s3 (upd H1 D (.lst []))) ([]++a4k fp s6.heap) (some xv::σ) H8 s8->(∃m',m'<n/\W (i+1) m' ys8 H8) ->
     ∃m,m<n/\∃i ys H',Inv (J8 X scope cl s3.heap.objs.size x fp s3 (upd H1 D (.lst []))) [] (none::σ) H' s8/\tn i s8.heap/\(∀b∈fp,H' b=none)/\W i m ys H':=by
    rintro s8 H8 ys8 I8 ⟨m',hm,w8⟩
    refine⟨m',hm,i+1,ys8,H8,(I8.unpinned (pins:=[])).weak rfl (fun j v e=>?_),T.keep _ _ _ st6 fun b hb o e=>(I8.pin (b,o) (u5 _ (u5 _ (a0s hb e)))).1,fun b hb=>?_,w8⟩
    ·cases j with
     | zero=>cases e
     | succ j=>exact e
    ·obtain⟨o,e,d⟩:=T.obj _ _ st6 b hb
     exact(I8.pin (b,o) (u5 _ (u5 _ (a0s hb e)))).2.1
   refine thn (ht _ fp s3 _ _ s7 _ H6 _ I7 (step xv H6 y6)) (fun ok s8 ⟨H8,I8,q8⟩=>?_)
   cases ok with
   | false=>exact again I8 (by simpa using q8)
   | true=>
    rw[if_pos rfl]at q8
    rw[if_pos rfl]
    refine thn (he _ fp s3 _ _ s8 _ H8 _ I8 q8) (fun v s9 ⟨y,H9,I9,r9,hD9,hz9,w9⟩=>?_)
    refine O8 (a5L (X:=J8 X scope cl s3.heap.objs.size x fp s3 (upd H1 D (.lst []))) _ s9 _ H9 (.ref D) [y] (.ref D) [v] (fun _ H'=>H'=upd H9 D (.lst (ys++[y]))) I9 rfl (.cons r9 .nil) ⟨D,ys,y,rfl,rfl,hD9,hz9,rfl⟩) (fun _ s10 ⟨_,H10,I10,_,e10⟩=>?_) fun _ _ f=>f
    subst e10
    exact again I10 w9
 exact a8Y (loop _ rfl) (T.self X.A 0 _ _ _ st4 (loop _ rfl))
theorem a6L(hc:O0 X.N X.env.scope scope x)(I:Inv X pins σ H s):∀y∈scope.names,y.2=.free->∃c,X.env.cells.lookup y.1=some c:=by
 intro y hy e
 rcases hc.fr y hy e with q | q
 ·exact I.ok.has y.1 (.inl q)
 ·exact I.ok.has y.1 (.inr q)
theorem c3z{wi:TI}(hc:O0 X.N X.env.scope scope x)(hcalm:X.calm=true)(hi:PI X (.Name x px) iter wi)
  (ht:∀cl C fp s3 H3,PTs (J8 X scope cl C x fp s3 H3) ifs tt) (he:∀cl C fp s3 H3,PE (J8 X scope cl C x fp s3 H3) elt te)
  (hs:∀x,Q0 iter X.env x=pure x:=by intro _;rfl) :
  PE X (.ListComp elt [⟨.Name x px,iter,ifs,0⟩] scope pos) (S3 wi tt te):=by
 intro pins s σ H Q I h
 obtain⟨cl,hclos,hcl,hcl2⟩:=a4u (a6L hc I)
 rw[eval_ListComp]
 refine a2E (use:=none) rfl hs hclos hc.kind hc.names (thn (hi pins s σ H _ I h) fun v s1 h1=>thn h1 fun itv s2 ⟨it,fp,tn,J,H2,e,I2,T,st,fpo,R⟩=>?_)
 subst e
 refine b0y (RR:=fun acc C=>compPost (model X.prog X.w) X.A X.xe none (EP X pins σ Q) acc C) (Q:=Q) hc hcalm hcl hcl2 (ht cl) (he cl) I2 T st fpo R ?_
 intro D C s' H' m I' n f1 f2 f3 f4 f5 q
 exact⟨m,n,fun h' sb=>⟨.ref D,H',I'.turned (t':=s'.toks) (fun b o hb e=>(sb.2 b hb).trans e) f1 f2 (.inr f3) f4 f5,rfl,q⟩⟩
theorem b5Z{wi:TI}{i:Nat}{y:Str}{py spos:Pos}(hN:X.N.Nodup)(hiy:X.N[i]? = some y)(hy:X.env.scope.names.lookup y=some .local)(hc:O0 X.N X.env.scope scope x)(hcalm:X.calm=true)(hi:PI X (.Name x px) iter wi)
  (ht:∀cl C fp s3 H3,PTs (J8 X scope cl C x fp s3 H3) ifs tt) (he:∀cl C fp s3 H3,PE (J8 X scope cl C x fp s3 H3) elt te)
  (hsw:a1w (.ListComp elt [⟨.Name x px,iter,ifs,0⟩] scope pos) (some (.Name y py)) spos.line X.env=pure true:=by rfl)
  (hs:∀x,Q0 iter X.env x=pure x:=by intro _;rfl) :
  PS X (.Assign [.Name y py] (.ListComp elt [⟨.Name x px,iter,ifs,0⟩] scope pos) spos) (fun D σ H=>S3 wi tt te σ H fun v H1=>D.nx (σ.set i (some v)) H1):=by
 intro pins s σ H D I h
 obtain⟨cl,hclos,hcl,hcl2⟩:=a4u (a6L hc I)
 rw[exec_Assign_Name_used _ _ _ _ hsw]
 refine c7 (a7V (c7 ?_))
 show wpAny _ X.A (do let _ <-comprehension (.ListComp elt [⟨.Name x px,iter,ifs,0⟩] scope pos) scope X.env _ (newList []) false (eval iter X.env) (some (b1o (.Name y py) X.env))) _ _ s
 refine c7 (O8 (a2E (use:=some (b1o (.Name y py) X.env)) (Q:=fun _ s'=>SP X pins D .next s') rfl hs hclos hc.kind hc.names
  (thn (hi pins s σ H _ I h) fun v s1 h1=>thn h1 fun itv s2 ⟨it,fp,tn,J,H2,e,I2,T,st,fpo,R⟩=>?_)) (fun _ s' hq=>y9 (y9 hq)) fun _ _ e=>e)
 subst e
 refine b0y (RR:=fun acc C=>compPost (model X.prog X.w) X.A X.xe (some (b1o (.Name y py) X.env)) (fun _ s'=>SP X pins D .next s') acc C) (Q:=fun v H1=>D.nx (σ.set i (some v)) H1) hc hcalm hcl hcl2 (ht cl) (he cl) I2 T st fpo R ?_
 intro E C s' H' m I' n f1 f2 f3 f4 f5 q
 show wpAny _ _ (b1o (.Name y py) X.env (.ref E)) _ _ _
 refine a6U (b1B (v:=.ref E) I' hN hiy (.inl hy) rfl (fun s'' I'' ch=>?_) (.inr hy))
 obtain⟨a,sb,ha⟩:=ch
 have hCa:C≠a:=by
  rcases ha with e | e
  ·rw[e];exact f2
  ·exact fun z=>f4 y a e z.symm
 exact⟨m,n.sameBut sb hCa,fun h' sb'=>⟨_,_,I''.turned (t':=s''.toks) (fun b o hb e=>(sb'.2 b hb).trans e) f1 f2 (.inr f3) f4 f5,q⟩⟩
end
section
theorem OpR.imp{f:Value->Value->Sem Value}{r r':R2}(h:OpR X f r)(i:∀x y H Q,r' x y H Q->r x y H Q):OpR X f r':=fun pins s σ H x y u v Q I rx ry q=>h pins s σ H x y u v Q I rx ry (i _ _ _ _ q)
theorem V5.imp{f:Value}{r r':List V->Hp->VK->Prop}(h:V5 X f r)(i:∀xs H Q,r' xs H Q->r xs H Q):V5 X f r':=fun pins s σ H xs us Q I rx q=>h pins s σ H xs us Q I rx (i _ _ _ q)
theorem IxR.imp{r r':R2}(h:IxR X r)(i:∀x y H Q,r' x y H Q->r x y H Q):IxR X r':=by
 intro value slice pins s σ H x y v u Q I rx ry q hs
 exact h value slice pins s σ H x y v u Q I rx ry (i _ _ _ _ q) hs
theorem SlR.imp{r r':V->Option Int->Option Int->Hp->VK->Prop}(h:SlR X r)(i:∀x lo hi H Q,r' x lo hi H Q->r x lo hi H Q):SlR X r':=fun pins s σ H x v vl vu lo hi sl Q I rx hs pl pu q=>h pins s σ H x v vl vu lo hi sl Q I rx hs pl pu (i _ _ _ _ _ q)
def X3:R2:=fun x y H Q=>match x,y with
 | .int i,.int j=>Q (.int (i+j)) H
 | .str i,.str j=>i.length+j.length<=t6/\Q (.str (i++j)) H
 | .ref a,.ref b=>match H a,H b with
  | some (.lst xs),some (.lst ys)=>xs.length+ys.length<=t6/\∀p,H p=none->Q (.ref p) (upd H p (.lst (xs++ys)))
  | _,_=>False
 | _,_=>False
theorem c3M:OpR X (U1 .Add) X3:=by
 refine(c6S.or (b6i.or c6R)).imp fun x y H Q h=>?_
 unfold X3 at h
 split at h
 ·exact .inl ⟨_,_,rfl,rfl,h⟩
 ·exact .inr (.inl ⟨_,_,rfl,rfl,h.1,h.2⟩)
 ·split at h
  ·exact .inr (.inr ⟨_,_,_,_,rfl,rfl,by assumption,by assumption,h.1,h.2⟩)
  ·exact h.elim
 ·exact h.elim
def q2I(C:Int->Int->Prop)(g:Int->Int->V):R2:=fun x y H Q=>match x,y with
 | .int i,.int j=>C i j/\Q (g i j) H
 | _,_=>False
def b4p(g:Int->Int->V):R2:=fun x y H Q=>match x,y with
 | .int i,.int j=>Q (g i j) H
 | _,_=>False
theorem b2G{f:Value->Value->Sem Value}{C:Int->Int->Prop}{g:Int->Int->V}(h:OpR X f (rI C g)):OpR X f (q2I C g):=h.imp fun x y H Q q=>by
 unfold q2I at q
 split at q
 ·exact⟨_,_,rfl,rfl,q.1,q.2⟩
 ·exact q.elim
theorem a7x{f:Value->Value->Sem Value}{g:Int->Int->V}(h:OpR X f (rI0 g)):OpR X f (b4p g):=h.imp fun x y H Q q=>by
 unfold b4p at q
 split at q
 ·exact⟨_,_,rfl,rfl,q⟩
 ·exact q.elim
abbrev b2C:R2:=b4p fun i j=>.int (i - j)
abbrev b4o:R2:=q2I c4K fun i j=>.int (i * j)
abbrev b0X:R2:=q2I (fun _ j=>0<j) fun i j=>.int (i % j)
abbrev c0N:R2:=q2I c8W fun i j=>.int (i ^ j.toNat)
abbrev c3e:R2:=q2I (fun _ j=>0<j/\j<2 ^ 64) fun i j=>.int (i / j)
abbrev qLt:R2:=b4p fun i j=>.bl (decide (i<j))
abbrev qLe:R2:=b4p fun i j=>.bl (decide (i<=j))
abbrev qGt:R2:=b4p fun i j=>.bl (decide (j<i))
abbrev qGe:R2:=b4p fun i j=>.bl (decide (j<=i))
theorem c3F:OpR X (U1 .Sub) b2C:=a7x c6E
theorem c3H:OpR X (U1 .Mult) b4o:=b2G c6O
theorem c3I:OpR X (U1 .Mod) b0X:=b2G c6P
theorem c3G:OpR X (U1 .Pow) c0N:=b2G c6N
theorem c3L:OpR X (U1 .FloorDiv) c3e:=b2G (opI fun i j _ _ _ _ _ hc q=>by
 have hl:j.natAbs.log2<9000:=by
  have:j.natAbs<2 ^ 64:=by have:=hc.1;have:=hc.2;omega
  by_cases h0:j.natAbs=0
  ·rw[h0];decide +kernel
  ·exact Nat.lt_trans ((Nat.log2_lt h0).mpr this) (by decide)
 refine floordiv_int (by omega) ?_ (.inl (PyProof.noPylong_of_log2 hl))
 rw[Int.fdiv_eq_ediv_of_nonneg _ (by omega)]
 exact q)
theorem c6G:OpR X (z6 .Lt) qLt:=a7x c8x
theorem c6H:OpR X (z6 .LtE) qLe:=a7x c8y
theorem c6K:OpR X (z6 .Gt) qGt:=a7x c8z
theorem c6L:OpR X (z6 .GtE) qGe:=a7x c8A
def qIx:R2:=fun x y H Q=>match x,y with
 | .ref p,.int i=>match H p with
  | some (.lst xs)=>∃v,atI xs i=some v/\Q v H
  | some (.tup xs)=>∃v,atI xs i=some v/\Q v H
  | _=>False
 | .str z,.int i=>z.length<=t6/\∃c,atI z.cps.toList i=some c/\Q (.str ⟨#[c]⟩) H
 | _,_=>False
theorem c9t:IxR X qIx:=c7o.imp fun x y H Q h=>by
 unfold qIx at h
 split at h
 ·split at h
  ·obtain⟨v,e,q⟩:=h
   exact .inl ⟨_,_,_,v,rfl,rfl,SqL.of (by assumption),e,q⟩
  ·obtain⟨v,e,q⟩:=h
   exact .inr (.inl ⟨_,_,_,v,rfl,rfl,SqT.of (by assumption),e,q⟩)
  ·exact h.elim
 ·obtain⟨z,c,e,q⟩:=h
  exact .inr (.inr ⟨_,_,c,rfl,rfl,z,e,q⟩)
 ·exact h.elim
def qSl:V->Option Int->Option Int->Hp->VK->Prop:=fun x lo hi H Q=>match x with
 | .ref a=>match H a with
  | some (.lst xs)=>∀p,H p=none->Q (.ref p) (upd H p (.lst (a4t xs lo hi)))
  | some (.tup xs)=>¬(HT.sIx xs.length 0 lo=0/\HT.sIx xs.length xs.length hi=xs.length)/\∀p,H p=none->Q (.ref p) (upd H p (.tup (a4t xs lo hi)))
  | _=>False
 | _=>False
theorem c9g:SlR X qSl:=(b7o.or c5C).imp fun x lo hi H Q h=>by
 unfold qSl at h
 split at h
 ·split at h
  ·exact .inl ⟨_,_,rfl,SqL.of (by assumption),h⟩
  ·exact .inr ⟨_,_,rfl,SqT.of (by assumption),h.1,h.2⟩
  ·exact h.elim
 ·exact h.elim
def P4:List V->Hp->VK->Prop:=fun xs H Q=>match xs with
 | [.ref p]=>match H p with
  | some (.lst ys)=>Q (.int ys.length) H
  | some (.tup ys)=>Q (.int ys.length) H
  | _=>False
 | [.str z]=>z.length<=t6/\Q (.int z.length) H
 | _=>False
theorem b9p:V5 X (.builtin "len") P4:=(b3i.or b3h).imp fun xs H Q h=>by
 unfold P4 at h
 split at h
 ·split at h
  ·exact .inl ⟨_,_,rfl,.inl (SqL.of (by assumption)),h⟩
  ·exact .inl ⟨_,_,rfl,.inr (SqT.of (by assumption)),h⟩
  ·exact h.elim
 ·exact .inr ⟨_,rfl,h.1,h.2⟩
 ·exact h.elim
def c0P:List V->Hp->VK->Prop:=fun xs H Q=>match xs with
 | [.int i]=>Q (.int (if i<0 then -i else i)) H
 | _=>False
theorem b9u:V5 X (.builtin "abs") c0P:=c2g.imp fun xs H Q h=>by
 unfold c0P at h
 split at h
 ·exact⟨_,rfl,h⟩
 ·exact h.elim
def a6C:V->V->V->Hp->(Hp->Prop)->Prop:=fun o i v H Q=>match o,i with
 | .ref p,.int k=>match H p with
  | some (.lst xs)=>∃j,ixN xs.length k=some j/\Q (upd H p (.lst (xs.set j v)))
  | _=>False
 | _,_=>False
theorem c7V:c2m X a6C:=by
 intro pins s σ H o i v u1 u2 u3 Q I r1 r2 r3 h
 refine c0t pins s σ H o i v u1 u2 u3 Q I r1 r2 r3 ?_
 unfold a6C at h
 split at h
 ·split at h
  ·obtain⟨j,e,q⟩:=h
   exact⟨_,_,_,j,rfl,rfl,by assumption,e,q⟩
  ·exact h.elim
 ·exact h.elim
def a0K(xs ys:List V):Bool:=(u7 (min xs.length ys.length)).all (fun j=>eqV (xs.getD j .non) (ys.getD j .non))&&xs.length == ys.length
def eqO(x y:V)(H:Hp):Option Bool:=if b4a x y=true then some (decide (x=y))else match x,y with
 | .ref a,.ref b=>match H a,H b with
  | some (.tup xs),some (.tup ys)=>if xs.all O7=true/\ys.all O7=true then some (a0K xs ys)else none
  | some (.lst xs),some (.lst ys)=>if xs.all O7=true/\ys.all O7=true then some (a0K xs ys)else none
  | _,_=>none
 | .non,.ref a=>match H a with
  | some (.tup _)=>some false
  | _=>none
 | .ref a,.non=>match H a with
  | some (.tup _)=>some false
  | _=>none
 | _,_=>none
def qEq:R2:=fun x y H Q=>∃b,eqO x y H=some b/\Q (.bl b) H
def qNe:R2:=fun x y H Q=>∃b,eqO x y H=some b/\Q (.bl (!b)) H
theorem a7H{A:D8}{ys:List V}{ws:List Value}(rx:J2 xs us)(ry:J2 ys ws)(fx:xs.all O7=true)(fy:ys.all O7=true) :
  ∀j (h1:j<us.toArray.size) (h2:j<ws.toArray.size),SeqAt.EqAt A s us.toArray[j] ws.toArray[j] (eqV (xs.getD j .non) (ys.getD j .non)):=by
 intro j h1 h2
 have l1:=rx.length
 have l2:=ry.length
 have h1':j<us.length:=by simpa using h1
 have h2':j<ws.length:=by simpa using h2
 have e1:xs[j]? = some (xs[j]'(by omega)):=by simp
 have e2:ys[j]? = some (ys[j]'(by omega)):=by simp
 obtain⟨u,hu,ru⟩:=rx.get e1
 obtain⟨w,hw,rw'⟩:=ry.get e2
 have z1:us.toArray[j]=u:=by
  have:us[j]? = some us[j]:=by simp
  rw[this]at hu
  simpa using hu
 have z2:ws.toArray[j]=w:=by
  have:ws[j]? = some ws[j]:=by simp
  rw[this]at hw
  simpa using hw
 rw[z1,z2]
 have g1:xs.getD j .non=xs[j]'(by omega):=by simp[M3,e1]
 have g2:ys.getD j .non=ys[j]'(by omega):=by simp[M3,e2]
 rw[g1,g2]
 exact c1U ru rw' (J1.mp fx _ (C8 _)) (J1.mp fy _ (C8 _))
theorem c5c{x y:V}{v u:Value}{k:Bool}(I:Inv X pins σ H s)(hu:X.A.units<cLine)(rx:F0 x v)(ry:F0 y u)(hs:¬b4a x y=true)(e:eqO x y H=some k) :
  SeqAt.RcAt X.A s v u k/\SeqAt.RcNeAt X.A s v u (!k):=by
 unfold eqO at e
 rw[if_neg hs]at e
 split at e
 ·rename_i a b
  cases rx
  cases ry
  split at e
  ·rename_i xs ys ha hb
   split at e
   ·rename_i hf
    cases e
    obtain⟨us,r1,t1,_⟩:=I.tuple (SqT.of ha)
    obtain⟨ws,r2,t2,_⟩:=I.tuple (SqT.of hb)
    have l1:=r1.length
    have l2:=r2.length
    have q1:=SeqAt.RcAt.tuples (A:=X.A) t1 t2 hu (a7H r1 r2 hf.1 hf.2)
    have q2:=SeqAt.RcNeAt.tuples (A:=X.A) t1 t2 hu (a7H r1 r2 hf.1 hf.2)
    simp only[o5,<-l1,<-l2]at q1 q2
    exact⟨q1,q2⟩
   ·cases e
  ·rename_i xs ys ha hb
   split at e
   ·rename_i hf
    cases e
    obtain⟨us,r1,t1,_⟩:=I.list (SqL.of ha)
    obtain⟨ws,r2,t2,_⟩:=I.list (SqL.of hb)
    have l1:=r1.length
    have l2:=r2.length
    by_cases hl:us.toArray.size=ws.toArray.size
    ·have q1:=SeqAt.RcAt.lists (A:=X.A) t1.isList t2.isList hl hu (a7H r1 r2 hf.1 hf.2)
     have q2:=SeqAt.RcNeAt.lists (A:=X.A) t1.isList t2.isList hl hu (a7H r1 r2 hf.1 hf.2)
     have hl':xs.length=ys.length:=by simpa[<-l1,<-l2]using hl
     have ef:a0K xs ys=(u7 us.toArray.size).all fun j=>eqV (xs.getD j .non) (ys.getD j .non):=by
      unfold a0K
      rw[hl',b9B,o5,<-l1,hl']
      simp
     rw[ef]
     exact⟨q1,q2⟩
    ·have hl2:(us.toArray.size != ws.toArray.size)=true:=by simpa using hl
     have q1:=SeqAt.RcAt.lists_lengths (A:=X.A) t1.isList t2.isList hl2 hu
     have q2:=SeqAt.RcNeAt.lists_lengths (A:=X.A) t1.isList t2.isList hl2 hu
     have ef:a0K xs ys=false:=by
      unfold a0K
      have:¬xs.length=ys.length:=by simpa[<-l1,<-l2]using hl
      simp[this]
     rw[ef]
     exact⟨q1,q2⟩
   ·cases e
  ·cases e
 ·cases rx
  cases ry
  split at e
  ·cases e
   obtain⟨us,_,t1,_⟩:=I.tuple (SqT.of (by assumption))
   exact⟨SeqAt.RcAt.none_tuple t1 hu,SeqAt.RcNeAt.none_tuple t1 hu⟩
  ·cases e
 ·cases rx
  cases ry
  split at e
  ·cases e
   obtain⟨us,_,t1,_⟩:=I.tuple (SqT.of (by assumption))
   exact⟨SeqAt.RcAt.tuple_none t1 hu,SeqAt.RcNeAt.tuple_none t1 hu⟩
  ·cases e
 ·cases e
theorem c6M(hu:X.A.units<cLine):OpR X (z6 .Eq) qEq:=by
 intro pins s σ H x y v u Q I rx ry h
 obtain⟨k,e,q⟩:=h
 by_cases hs:b4a x y=true
 ·unfold eqO at e
  rw[if_pos hs]at e
  cases e
  exact c8B pins s σ H x y v u Q I rx ry ⟨hs,q⟩
 ·exact(c5c I hu rx ry hs e).1 _ _ _ _ ⟨.bl k,H,I,rfl,q⟩
theorem c1o(hu:X.A.units<cLine):OpR X (z6 .NotEq) qNe:=by
 intro pins s σ H x y v u Q I rx ry h
 obtain⟨k,e,q⟩:=h
 by_cases hs:b4a x y=true
 ·unfold eqO at e
  rw[if_pos hs]at e
  cases e
  exact c8w pins s σ H x y v u Q I rx ry ⟨hs,q⟩
 ·exact(c5c I hu rx ry hs e).2 _ _ _ _ ⟨.bl (!k),H,I,rfl,q⟩
def qIn(neg:Bool):R2:=fun x y H Q=>match x,y with
 | .str i,.str j=>Q (.bl (if neg then !(!(Builtin.Str.occurrences j i 0 j.length 1).isEmpty)else !(Builtin.Str.occurrences j i 0 j.length 1).isEmpty)) H
 | x,.ref p=>match H p with
  | some (.lst xs)=>O7 x=true/\xs.all O7=true/\Q (.bl (if neg then !inV x xs else inV x xs)) H
  | some (.tup xs)=>O7 x=true/\xs.all O7=true/\Q (.bl (if neg then !inV x xs else inV x xs)) H
  | _=>False
 | _,_=>False
theorem c6J:OpR X (z6 .In) (qIn false):=(b8K.or b1K).imp fun x y H Q h=>by
 unfold qIn at h
 split at h
 ·exact .inl ⟨_,_,rfl,rfl,h⟩
 ·split at h
  ·exact .inr ⟨_,_,rfl,.inl (SqL.of (by assumption)),h.1,h.2.1,h.2.2⟩
  ·exact .inr ⟨_,_,rfl,.inr (SqT.of (by assumption)),h.1,h.2.1,h.2.2⟩
  ·exact h.elim
 ·exact h.elim
theorem b8I:OpR X (z6 .NotIn) (qIn true):=(b2O.or b2P).imp fun x y H Q h=>by
 unfold qIn at h
 split at h
 ·exact .inl ⟨_,_,rfl,rfl,h⟩
 ·split at h
  ·exact .inr ⟨_,_,rfl,.inl (SqL.of (by assumption)),h.1,h.2.1,h.2.2⟩
  ·exact .inr ⟨_,_,rfl,.inr (SqT.of (by assumption)),h.1,h.2.1,h.2.2⟩
  ·exact h.elim
 ·exact h.elim
def a2L:V->List V->Hp->VK->Prop:=fun x vs H Q=>match x,vs with
 | .ref l,[y]=>match H l with
  | some (.lst xs)=>xs.length<t6/\Q .non (upd H l (.lst (xs++[y])))
  | _=>False
 | _,_=>False
theorem b6t:MtR X "list.append" a2L:=fun pins s σ H x xs v us Q I rx rv h=>by
 refine a5L pins s σ H x xs v us Q I rx rv ?_
 unfold a2L at h
 split at h
 ·split at h
  ·exact⟨_,_,_,rfl,rfl,by assumption,h.1,h.2⟩
  ·exact h.elim
 ·exact h.elim
def a3A:List V->Option (List Str)
 | []=>some []
 | .str s::r=>(a3A r).map (s :: ·)
 | _=>none
theorem b5G(ss:List Str):a3A (ss.map V.str)=some ss:=by
 induction ss with
 | nil=>rfl
 | cons s r ih=>simp[a3A,ih]
theorem a9S:∀ {xs:List V} {us:List Value} {ss:List Str},J2 xs us->a3A xs=some ss->StrsAre us ss
 | _,_,ss,.nil,e=>by cases e;exact .nil
 | x::xs,_,ss,.cons r t,e=>by
  cases x with
  | str s=>
   obtain⟨k,rfl⟩:=r
   cases e2:a3A xs with
   | none=>simp[a3A,e2]at e
   | some ss2=>
    simp[a3A,e2]at e
    subst e
    exact .cons _ _ (a9S t e2)
  | _=>simp[a3A]at e
def b1J:V->List V->Hp->VK->Prop:=fun x vs H Q=>match x,vs with
 | .str x,[.ref l]=>match H l with
  | some (.lst xs)=>∃ss,a3A xs=some ss/\(ss.map (·.length)).sum+ss.length * x.length<=16777216/\Q (.str (Txt.join x ss)) H
  | _=>False
 | _,_=>False
theorem c1y:MtR X "str.join" b1J:=fun pins s σ H x xs v us Q I rx rv h=>by
 unfold b1J at h
 split at h
 ·split at h
  ·obtain⟨ss,e,hk,q⟩:=h
   obtain⟨t,rfl⟩:=rx
   obtain⟨u,rfl,ru⟩:=rv.one
   cases ru
   obtain⟨its,r,p,hz⟩:=I.list (SqL.of (by assumption))
   exact join_list p.isList (a9S r e) hk fun t' k=>⟨.str _,H,I.tok _,⟨_,rfl⟩,q⟩
  ·exact h.elim
 ·exact h.elim
def D9(x:V)(H:Hp):Option String:=match x with
 | .non=>some "NoneType"
 | .bl _=>some "bool"
 | .int _=>some "int"
 | .str _=>some "str"
 | .ref a=>match H a with
  | some (.lst _)=>some "list"
  | some (.tup _)=>some "tuple"
  | some (.dK _)=>some "dict"
  | some (.dT _)=>some "dict"
  | _=>none
 | _=>none
def a0t(t c:String):Bool:=t == c||(t == "bool" && c == "int")
def a8r:List String:=["int","bool","str","list","tuple","dict"]
theorem c7h(K:Fg):∀t ∈ "NoneType" :: a8r,∀c∈a8r,a0F K (.type t) (.type c)=some (a0t t c):=by
 intro t ht c hc
 simp only[a8r,o0,E9,or_false]at ht hc
 rcases ht with rfl | rfl | rfl | rfl | rfl | rfl | rfl <;> rcases hc with rfl | rfl | rfl | rfl | rfl | rfl <;> kernel_rfl
theorem c7T{K:Fg}{x:V}{t:String}(h:D9 x H=some t):a8z K H x (.type t)/\t ∈ "NoneType" :: a8r:=by
 unfold D9 at h
 split at h
 ·cases h;exact⟨.non,by decide⟩
 ·cases h;exact⟨.bl _,by decide⟩
 ·cases h;exact⟨.int _,by decide⟩
 ·cases h;exact⟨.str _,by decide⟩
 ·split at h
  ·cases h;exact⟨.lst (by assumption),by decide⟩
  ·cases h;exact⟨.tup (by assumption),by decide⟩
  ·cases h;exact⟨.dK (by assumption),by decide⟩
  ·cases h;exact⟨.dT (by assumption),by decide⟩
  ·cases h
 ·cases h
def a4P:List V->Hp->VK->Prop:=fun xs H Q=>match xs with
 | [x,.ty c]=>∃t,D9 x H=some t/\c∈a8r/\Q (.bl (a0t t c)) H
 | _=>False
theorem b9q:V5 X (.builtin "isinstance") a4P:=fun pins s σ H xs us Q I r h=>by
 unfold a4P at h
 split at h
 ·obtain⟨t,e,hc,q⟩:=h
  obtain⟨u,u2,rfl,ru,ru2⟩:=c0d r
  cases ru2
  obtain⟨ty,ht⟩:=c7T (K:=X.K) e
  exact b9b I ru ty (c7h X.K t ht _ hc) fun tk=>⟨.bl _,H,I.tok _,rfl,q⟩
 ·exact h.elim
def b8B:V->V->Hp->VK->Prop:=fun x y H Q=>match x,y with
 | .ref p,.int i=>match H p with
  | some (.lst xs)=>0<=i/\∃v,xs[i.toNat]? = some v/\Q v H
  | _=>False
 | _,_=>False
theorem c8J:c7A X b8B:=fun pins s σ H o i ov iv Q I r1 r2 h=>by
 unfold b8B at h
 split at h
 ·split at h
  ·obtain⟨h0,v,e,q⟩:=h
   cases r1
   obtain⟨t,rfl⟩:=r2
   obtain⟨its,r,pl,hz⟩:=I.list (SqL.of (by assumption))
   obtain⟨u,eu,ru⟩:=r.get e
   have hl:=(z4.mp e).1
   have hn:=a6J
   exact wpAny_getItem_list pl.isList h0 (by omega) (by simpa using eu) ⟨v,H,I,ru,q⟩
  ·exact h.elim
 ·exact h.elim
def qIs:R2:=fun x y H Q=>y=.non/\Q (.bl (decide (x=.non))) H
def b5Y:R2:=fun x y H Q=>y=.non/\Q (.bl (!decide (x=.non))) H
theorem c6I:OpR X (z6 .Is) qIs:=c6Q
theorem b8J:OpR X (z6 .IsNot) b5Y:=c3N
structure F6(P:w4)(w:World)(K:Fg)(mg:Str->Option Value)(base:Heap)(k:Nat)(x:Str)(ps:List Str)(sp:Sp):Prop where
 ex:∃f fd,F8 P w K mg base CX0 k f fd ps sp/\mg x=some (.ref f)/\Q7 K (.ref f)=true/\a2r K fd ps []
theorem c6s{k j:Nat}{x:Str}{ps:List Str}{sp:Sp}{e:Expr}{es:List Expr}{t:TA}{p:Pos}(C:F6 X.prog X.w X.K X.mg X.base k x ps sp)(hr:S0 j X.A)(hk:k<=j)(hg:Gl X x)(ha:PA X (e::es) t)
  (hdb:(x == ("__debug__" : Str))=false:=by decide) (he:j5 (e::es) X.env=(false,eval e X.env)::j5 es X.env:=by rfl) (hpl:(X9 pos (j5 es X.env)).any (·.1)=false:=by rfl) :
  PE X (.Call (.Name x p) (e::es) [] pos) (t8 sp [] E0 t):=by
 obtain⟨f,fd,F,hm,hkp,hb⟩:=C.ex
 exact c3B F (hr.mono hk) hg hm hkp hb .nil c5i ha hdb he hpl
theorem b9m{P:w4}{K:Fg}{mg:Str->Option Value}{base:Heap}{k:Nat}{x q:Str}{ps:List Str}{sp:Sp}{st:Stmt}{f:Addr}{fd:Q1}(F:Fun K x q st f fd)(O:F8 P w K mg base CX0 k f fd ps sp)
  (hm:mg x=some (.ref f)) (hb:a2r K fd ps []):F6 P w K mg base k x ps sp:=⟨f,fd,O,hm,F.kp,hb⟩
def a8N:List V->Hp->VK->Prop:=fun xs H Q=>match xs with
 | [.ref p]=>match H p with
  | some (.lst ys)=>∀l,H l=none->Q (.ref l) (upd H l (.lst ys))
  | some (.tup ys)=>∀l,H l=none->Q (.ref l) (upd H l (.lst ys))
  | _=>False
 | _=>False
theorem b6U:V5 X (.type "list") a8N:=b3g.imp fun xs H Q h=>by
 unfold a8N at h
 split at h
 ·split at h
  ·exact⟨_,_,rfl,.inl (SqL.of (by assumption)),h⟩
  ·exact⟨_,_,rfl,.inr (SqT.of (by assumption)),h⟩
  ·exact h.elim
 ·exact h.elim
def c3d:List V->Hp->VK->Prop:=fun xs H Q=>match xs with
 | [.int i]=>Q (.int i) H
 | [.bl k]=>Q (.int (if k then 1 else 0)) H
 | _=>False
theorem b9r:V5 X (.type "int") c3d:=b9w.imp fun xs H Q h=>by
 unfold c3d at h
 split at h
 ·exact .inl ⟨_,rfl,h⟩
 ·exact .inr ⟨_,rfl,h⟩
 ·exact h.elim
end
def Its(x:Str):It:=⟨fun i _=>i<x.length,fun i H v H'=>H'=H/\∃c,x.cps[i]? = some c/\v=.str ⟨#[c]⟩,fun i _=>x.length<=i⟩
theorem c0g{P:w4}{K:Fg}{tg:Expr}(x:Str)(t:Tok)(it:Addr):b5m P w K tg (Its x) [it] it (fun i h=>h.IsStrIter it (a3x x) x t i) where
 mem:=by simp
 obj:=fun i h st b hb=>by
  have e:b=it:=by simpa using hb
  subst e
  obtain⟨o,e,c,d⟩:=st
  exact⟨o,e,fun v z=>by rw[d]at z;cases z⟩
 keep:=fun i h h' st k=>let⟨o,ho,r⟩:=st; ⟨o,k it (by simp) o ho,r⟩
 item:=by
  intro X hP hw hK hc i pins s σ H E I hf st hg
  subst hP hw hK
  have hi:i<x.cps.size:=hg
  obtain⟨f0,f1,f2,f3,f4,f5⟩:=hf it (by simp)
  have hx:x.cps[i]? = some x.cps[i]:=by simp[hi]
  have fin:∀h',h'.IsStrIter it (a3x x) x t (i+1)->Heap.SameBut it s.heap h'->∃u,some (Value.str ⟨#[x.cps[i]]⟩ s.toks)=some u /\
    wpAny (model X.prog X.w) X.A (a2P tg (.ref it) u) (fun _ s2=>∃v H',Inv X pins σ H' s2/\F0 v u/\(Its x).yld i H v H'/\s2.heap.IsStrIter it (a3x x) x t (i+1)/\∀b∈[it],H' b=none) E { s with heap:=h',toks:=s.toks+1 }:=by
   intro h' st' sb
   have I1:Inv X pins σ H { s with heap:=h',toks:=s.toks+1 }:=I.turned (t':=s.toks+1) (fun b o hb e=>(sb.2 b hb).trans e) f0 f1 f3 f4 f5
   obtain⟨o,e,c,d⟩:=id st'
   refine⟨_,rfl,b7J (s:={ s with heap:=h',toks:=s.toks+1 }) e c d ?_ ⟨.str ⟨#[x.cps[i]]⟩,H,I1,⟨_,rfl⟩,⟨rfl,_,hx,rfl⟩,st',fun b hb=>(hf b hb).1⟩⟩
   unfold a3x
   split <;> decide
  unfold a3x at st fin ⊢
  split at st
  ·rename_i ha
   simp only[ha]at fin ⊢
   exact wpAny_pyNext_ascii_item st hx fun h' st' sb=>fin h' st' sb
  ·rename_i ha
   simp only[ha]at fin ⊢
   exact wpAny_pyNext_wide_item st hx fun h' st' sb=>fin h' st' sb
 done:=by
  intro X hP hw hK hc i pins s σ H E I hf st hg
  subst hP hw hK
  have hi:x.cps.size<=i:=hg
  obtain⟨f0,f1,f2,f3,f4,f5⟩:=hf it (by simp)
  have hx:x.cps[i]? = none:=by simp[hi]
  unfold a3x at st
  split at st
  ·exact wpAny_pyNext_ascii_end (I.ok.hd hc) st hx fun h' eb=>⟨rfl,I.turned (t':=s.toks) (fun b o hb e=>eb b o hb e) f0 f1 f3 f4 f5⟩
  ·exact wpAny_pyNext_wide_end (I.ok.hd hc) st hx fun h' eb=>⟨rfl,I.turned (t':=s.toks) (fun b o hb e=>eb b o hb e) f0 f1 f3 f4 f5⟩
 self:=fun _ _ _ _ _ st h=>by
  unfold a3x at st
  split at st
  ·exact wpAny_pyIter_striter_ascii st h
  ·exact wpAny_pyIter_striter_wide st h
def c4r(tl:TE):TI:=fun σ H R=>tl σ H fun v H1=>∃x,v=.str x/\R (Its x) H1
section
variable {tg:Expr}
theorem c6n{l:Expr}{tl:TE}(hl:PE X l tl):PI X tg l (c4r tl):=by
 intro pins s σ H R I h
 refine thn (hl pins s σ H _ I h) fun v s1 ⟨y,H1,I1,r1,x,e,q1⟩=>?_
 subst e
 obtain⟨t,rfl⟩:=r1
 refine wpAny_pyIter_strU ?_
 have k:∀b u,s1.heap.get? b=some u->(s1.heap.push { cls:=.type (a3x x),data:=.fields #[.str x t,.int 0 0] }).get? b=some u:=fun b u q=>d4 _ q
 refine⟨s1.heap.objs.size,[s1.heap.objs.size],_,Its x,H1,rfl,I1.kept (t':=s1.toks) k,c0g x t _,⟨_,C3 _ rfl,rfl,rfl⟩,fun b hb=>?_,q1⟩
 have e:b=s1.heap.objs.size:=by simpa using hb
 subst e
 exact I1.fpOk (j9 _) I1.fresh
def W6:List V->Option (List Bool)
 | []=>some []
 | .bl b::r=>(W6 r).map (b :: ·)
 | _=>none
theorem a8y:∀ {xs:List V} {bs:List Bool} {i:Nat} {x:V},W6 xs=some bs->xs[i]? = some x->∃b,bs[i]? = some b/\x=.bl b
 | [],_,_,_,_,h=>by simp at h
 | y::r,bs,i,x,e,h=>by
  cases y with
  | bl b=>
   cases e2:W6 r with
   | none=>simp[W6,e2]at e
   | some bs2=>
    simp[W6,e2]at e
    subst e
    cases i with
    | zero=>simp at h;exact⟨b,rfl,h.symm⟩
    | succ i=>
     obtain⟨b',h1,h2⟩:=a8y (i:=i) e2 (by simpa using h)
     exact⟨b',by simpa using h1,h2⟩
  | _=>simp[W6]at e
theorem a8x:∀ {xs:List V} {bs:List Bool},W6 xs=some bs->xs.length=bs.length
 | [],_,e=>by cases e;rfl
 | y::r,bs,e=>by
  cases y with
  | bl b=>
   cases e2:W6 r with
   | none=>simp[W6,e2]at e
   | some bs2=>
    simp[W6,e2]at e
    subst e
    simp[a8x e2]
  | _=>simp[W6]at e
theorem b9y(bs:List Bool):((u7 bs.length).all fun i=>(bs[i]?).getD true)=bs.all id:=by
 rw[a3i,J1,J1]
 constructor
 ·intro h b hb
  obtain⟨i,hi,rfl⟩:=List.mem_iff_getElem.mp hb
  have:=h i (by simpa using hi)
  simpa[hi]using this
 ·intro h i hi
  have hl:i<bs.length:=by simpa using hi
  have:=h bs[i] (C8 _)
  simpa[hl]using this
def b2F:List V->Hp->VK->Prop:=fun vs H Q=>match vs with
 | [.ref l]=>match H l with
  | some (.lst xs)=>∃bs,W6 xs=some bs/\Q (.bl (bs.all id)) H
  | _=>False
 | _=>False
theorem b9t(hc:X.calm=true):V5 X (.builtin "all") b2F:=fun pins s σ H xs us Q I r h=>by
 unfold b2F at h
 split at h
 ·split at h
  ·rename_i l _ ys hl
   obtain⟨bs,e,q⟩:=h
   obtain⟨u,rfl,ru⟩:=a4H r
   cases ru
   obtain⟨its,rv,pl,hz⟩:=I.list (SqL.of hl)
   have hlt:l<s.heap.objs.size:=by obtain⟨_,e,_⟩:=pl.isList;exact h9 e
   have hlen:=rv.length
   have hbl:=a8x e
   refine call_all_walk (a6T pl.isList ?_)
   refine⟨s.heap.objs.size,[s.heap.objs.size,l],[s.heap.objs.size],its.toArray.size,_,_,fun i=>(bs[i]?).getD true,rfl,Walks.list (A:=X.A.in1) (I.ok.hd hc) _ l (v5 hlt) its.toArray,
    ⟨⟨_,C3 _ rfl,rfl,rfl⟩,pl.isList.push _⟩,fun i v s' Q' E' hP hQ=>?_,fun h' tk hk=>?_⟩
   ·have hP:its[i]? = some v:=by simpa using hP
    have hi:i<ys.length:=by rw[hlen];exact(z4.mp hP).1
    have ey:ys[i]? = some ys[i]:=by simp[hi]
    obtain⟨b,eb,ez⟩:=a8y e ey
    obtain⟨u,eu,ru⟩:=rv.get ey
    rw[hP]at eu
    cases eu
    rw[ez]at ru
    cases ru
    simp only[eb,a2v]at hQ
    exact M8 hQ
   ·have e2:((u7 its.toArray.size).all fun i=>(bs[i]?).getD true)=bs.all id:=by
     rw[o5,<-hlen,hbl]
     exact b9y bs
    rw[e2]
    exact⟨.bl _,H,I.kept (t':=tk) fun b x e=>hk b x (fun hm=>by rw[g6.mp hm]at e;exact D4 _ (h9 e)) (d4 _ e),rfl,q⟩
  ·exact h.elim
 ·exact h.elim
end
section
theorem Inv.turnedL{h':Heap}{t':Nat}(I:Inv X pins σ H s)(k:∀b o,b∉fp->s.heap.get? b=some o->h'.get? b=some o)(hf:∀b∈fp,a0E X pins H b) :
  Inv X pins σ H { s with heap:=h',toks:=t' }:=by
 have nit:∀b u,H b=some u->b∉fp:=fun b u e z=>by rw[(hf b z).1]at e;cases e
 refine I.step (g':=s.gens) (d':=s.drawn) (ch:=fp) (fun b hb=>?_) (fun b o _ _ hc e _=>k b o hc e) (fun b o _ _ hc e _=>⟨o.slots,k b o hc e⟩) (fun _ _ _ _ n=>n)
  (fun b o hc e=>⟨o,k b o hc e⟩) (fun _ _ e=>e) (fun _ _ _ e=>e) (fun b ps e=>⟨#[],by rw[e];simp⟩) (fun m hm=>?_) (fun b u e=>?_) I.bare
 ·obtain⟨_,f1,_,f3,f4,f5⟩:=hf b hb
  exact⟨f3,f1,f4,f5⟩
 ·obtain⟨o,es,ep,ho,r⟩:=hm
  exact⟨o,es,ep,k _ o (fun z=>(hf _ z).2.1 rfl) ho,r⟩
 ·refine(I.hok b u e).stay (fun c v hc q=>k c v ?_ q) (fun _ q=>q) fun _ _ q=>q
  rcases hc with z | z
  ·rw[z];exact nit b u e
  ·exact nit c _ z
theorem Inv.pairL{h':Heap}{t':Nat}{x y:V}{u v:Value}(I:Inv X pins σ H s)(hf:∀b∈fp,a0E X pins H b)(fl:∀b∈fp,b≠s.heap.objs.size)
  (rx:F0 x u) (ry:F0 y v) (ht:h'.get? s.heap.objs.size=some { cls:=.type "tuple",data:=.seq #[u,v] }) (k:∀b o,b∉fp->s.heap.get? b=some o->h'.get? b=some o) :
  Inv X pins σ (upd H s.heap.objs.size (.tup [x,y])) { s with heap:=h',toks:=t' }:=by
 have I1:Inv X pins σ (upd H s.heap.objs.size (.tup [x,y])) { s with heap:=s.heap.push { cls:=.type "tuple",data:=.seq #[u,v] },toks:=s.toks }:=
  I.laid (fun b u e=>d4 _ e) (j9 _) ⟨by show 2<=t6;decide,[u,v],.cons rx (.cons ry .nil),⟨_,C3 _ rfl,rfl,_,rfl⟩⟩
 refine Inv.turnedL (s:={ s with heap:=s.heap.push { cls:=.type "tuple",data:=.seq #[u,v] },toks:=s.toks }) (fp:=fp) I1 (fun b o hb e=>?_) fun b hb=>⟨by rw[j7 (fl b hb)];exact(hf b hb).1,(hf b hb).2⟩
 by_cases hz:b=s.heap.objs.size
 ·subst hz
  have e2:=C3 s.heap (o:={ cls:=.type "tuple",data:=.seq #[u,v] }) rfl
  rw[show(s.heap.push { cls:=.type "tuple",data:=.seq #[u,v] }).get? s.heap.objs.size=some o from e]at e2
  cases e2
  exact ht
 ·refine k b o hb ?_
  have e:(s.heap.push { cls:=.type "tuple",data:=.seq #[u,v] }).get? b=some o:=e
  rwa [Heap.get?_push_ne _ _ _ hz]at e
def Ite(K:Fg)(a:Addr):It:=
 ⟨fun i H=>∃xs x,SqL K H a xs/\xs[i]? = some x,fun i H v H'=>∃p x,H p=none/\v=.ref p/\H'=upd H p (.tup [.int i,x])/\∀xs,SqL K H a xs->xs[i]? = some x,fun i H=>∃xs,SqL K H a xs/\xs.length<=i⟩
theorem b8n{P:w4}{K:Fg}{x1}(a e it:Addr)(hne:e≠it):b5m P w K (.Tuple elts x1 tp) (Ite K a) [e,it] e (fun i h=>(∃old,IsEnum h e it i old)/\h.IsListIter it a i) where
 mem:=by simp
 obj:=fun i h st b hb=>by
  obtain⟨⟨old,he⟩,o,e1,c,d⟩:=st
  rcases o0.mp hb with rfl | hb
  ·exact⟨_,he,fun v z=>by
    have z':Data.fields _=Data.cell v:=z
    cases z'⟩
  ·have:b=it:=by simpa using hb
   subst this
   exact⟨o,e1,fun v z=>by rw[d]at z;cases z⟩
 keep:=fun i h h' st k=>by
  obtain⟨⟨old,he⟩,hi⟩:=st
  exact⟨⟨old,k e (by simp) _ he⟩,hi.at fun o q=>k it (by simp) o q⟩
 item:=by
  intro X hP hw hK hc i pins s σ H E I hf st hg
  subst hP hw hK
  obtain⟨⟨old,he⟩,hit⟩:=st
  obtain⟨xs,x,hq,hx⟩:=hg
  obtain⟨its,rv,p,hz⟩:=I.list hq
  obtain⟨u,hu,ru⟩:=rv.get hx
  refine wpAny_pyNext_enum_item he hit p.isList (x:=u) (by simpa using hu) hne fun h1 ho hit1 hT hsz hk=>?_
  refine⟨_,rfl,?_⟩
  refine wpAny_letOwnedTupleGo_enum (s:={ s with heap:=h1,toks:=s.toks+1 }) ho fun h2 he2 hs2=>?_
  have hs2:Heap.SameBut e h1 h2:=hs2
  have le:e≠s.heap.objs.size:=v5 (h9 he)
  have li:it≠s.heap.objs.size:=by obtain⟨_,q,_⟩:=hit;exact v5 (h9 q)
  have fl:∀b∈[e,it],b≠s.heap.objs.size:=fun b hb=>by
   rcases o0.mp hb with rfl | hb
   ·exact le
   ·have:b=it:=by simpa using hb
    subst this;exact li
  have I2:=I.pairL (h':=h2) (t':=s.toks+1) (x:=.int i) (y:=x) (u:=.int i s.toks) (v:=u) hf fl ⟨_,rfl⟩ ru ((hs2.2 _ (Ne.symm le)).trans hT) fun b o hb q=>by
   have n1:b≠e:=fun z=>hb (by simp[z])
   have n2:b≠it:=fun z=>hb (by simp[z])
   exact(hs2.2 b n1).trans (hk b o n1 n2 q)
  refine⟨.ref s.heap.objs.size,_,I2,rfl,⟨_,x,I.fresh,rfl,rfl,fun ys hy=>by rw[I.list_inj hy hq];exact hx⟩,⟨⟨u,by simpa using he2⟩,hit1.at fun o q=>(hs2.2 it (Ne.symm hne)).trans q⟩,fun b hb=>?_⟩
  rw[j7 (fl b hb)];exact(hf b hb).1
 done:=by
  intro X hP hw hK hc i pins s σ H E I hf st hg
  subst hP hw hK
  obtain⟨⟨old,he⟩,hit⟩:=st
  obtain⟨xs,hq,hx⟩:=hg
  obtain⟨its,rv,p,hz⟩:=I.list hq
  obtain⟨f0,f1,f2,f3,f4,f5⟩:=hf it (by simp)
  have hl:=rv.length
  exact wpAny_pyNext_enum_end (I.ok.hd hc) he hit p.isList (by simp;omega) fun h' eb=>⟨rfl,I.turned (t':=s.toks) (fun b o hb e=>eb b o hb e) f0 f1 f3 f4 f5⟩
 self:=fun _ _ _ _ _ st h=>by
  obtain⟨⟨old,he⟩,_⟩:=st
  exact wpAny_pyIter_enum he h
def a8S(K:Fg)(ta:TA):TI:=fun σ H R=>ta σ H fun vs H1=>∃a,vs=[.ref a]/\(∃xs,SqL K H1 a xs)/\R (Ite K a) H1
theorem c3u{x1}{a:Expr}{ta:TA}{p:Pos}(hg:Gl X "enumerate")(hm:X.mg "enumerate" = none)(ha:PA X [a] ta)(hs:j5 [a] X.env=[(false,eval a X.env)]:=by rfl) :
  PI X (.Tuple elts x1 tp) (.Call (.Name "enumerate" p) [a] [] pos) (a8S X.K ta):=by
 intro pins s σ H R I h
 refine Call_ (a8q I hg hm boot_enumerate (Z8 (thn (ha pos pins s σ H _ I h) fun us s1 ⟨vs,H1,I1,r1,q1⟩=>?_) hs rfl))
 obtain⟨b,e,⟨xs,hq⟩,q⟩:=q1
 subst e
 cases r1 with
 | cons r rr=>
  cases rr
  cases r
  obtain⟨its,rv,pl,hz⟩:=I1.list hq
  refine call_enumerate_list pl.isList fun h' he hit hsz hk=>?_
  have I2:Inv X pins σ H1 { s1 with heap:=h' }:=I1.kept (t':=s1.toks) hk
  refine wpAny_pyIter_enum he ⟨_,[s1.heap.objs.size+1,s1.heap.objs.size],_,_,H1,rfl,I2,b8n b (s1.heap.objs.size+1) s1.heap.objs.size (Nat.succ_ne_self _),⟨⟨_,he⟩,hit⟩,fun c hc=>?_,q⟩
  rcases o0.mp hc with rfl | hc
  ·exact I1.fpOk (by omega) (I1.hok.fresh (by omega))
  ·have:c=s1.heap.objs.size:=by simpa using hc
   subst this
   exact I1.fpOk (j9 _) (I1.hok.fresh (j9 _))
def Itz(K:Fg)(a b:Addr):It:=
 ⟨fun i H=>∃xs ys x y,SqL K H a xs/\SqL K H b ys/\xs[i]? = some x/\ys[i]? = some y,fun i H v H'=>∃p x y,H p=none/\v=.ref p/\H'=upd H p (.tup [x,y])/\(∀xs,SqL K H a xs->xs[i]? = some x)/\∀ys,SqL K H b ys->ys[i]? = some y,
  fun i H=>∃xs ys,SqL K H a xs/\SqL K H b ys/\(xs.length<=i\/ys.length<=i)⟩
theorem S8{h:Heap}{a b:Addr}{o o':Obj}(h1:h.get? a=some o)(h2:h.get? b=some o')(hc:o.cls≠o'.cls):a≠b:=fun z=>by
 subst z;rw[h1]at h2;cases h2;exact hc rfl
theorem c0f{P:w4}{K:Fg}{x1}(a b z TI TO i1 i2:Addr)(n1:TI≠z)(n2:TO≠z)(n3:i1≠z)(n4:i2≠z)(n5:TI≠TO)(n6:TI≠i1)(n7:TI≠i2)(n8:TO≠i1)(n9:TO≠i2)(n10:i1≠i2) :
  b5m P w K (.Tuple elts x1 tp) (Itz K a b) [z,TI,TO,i1,i2] z (fun i h=>IsZip h z TI TO .none/\IsPair h TI (.ref i1) (.ref i2)/\(∃u v,IsPair h TO u v)/\h.IsListIter i1 a i/\h.IsListIter i2 b i) where
 mem:=by simp
 obj:=fun i h st c hb=>by
  obtain⟨hz,hTI,⟨u,v,hTO⟩,⟨o1,e1,c1,d1⟩,⟨o2,e2,c2,d2⟩⟩:=st
  simp only[o0,E9,or_false]at hb
  rcases hb with rfl | rfl | rfl | rfl | rfl
  ·exact⟨_,hz,fun v z=>by
    have z':Data.fields _=Data.cell v:=z
    cases z'⟩
  ·exact⟨_,hTI,fun v z=>by
    have z':Data.seq _ _=Data.cell v:=z
    cases z'⟩
  ·exact⟨_,hTO,fun v z=>by
    have z':Data.seq _ _=Data.cell v:=z
    cases z'⟩
  ·exact⟨o1,e1,fun v z=>by rw[d1]at z;cases z⟩
  ·exact⟨o2,e2,fun v z=>by rw[d2]at z;cases z⟩
 keep:=fun i h h' st k=>by
  obtain⟨hz,hTI,⟨u,v,hTO⟩,h1,h2⟩:=st
  exact⟨k z (by simp) _ hz,k TI (by simp) _ hTI,⟨u,v,k TO (by simp) _ hTO⟩,h1.at fun o q=>k i1 (by simp) o q,h2.at fun o q=>k i2 (by simp) o q⟩
 item:=by
  intro X hP hw hK hc i pins s σ H E I hf st hg
  subst hP hw hK
  obtain⟨hz,hTI,⟨u,v,hTO⟩,h1,h2⟩:=st
  obtain⟨xs,ys,x,y,hqa,hqb,hx,hy⟩:=hg
  obtain⟨ia,ra,pa,za⟩:=I.list hqa
  obtain⟨ib,rb,pb,zb⟩:=I.list hqb
  obtain⟨ux,hux,rux⟩:=ra.get hx
  obtain⟨uy,huy,ruy⟩:=rb.get hy
  obtain⟨oa,la,ca,_⟩:=id pa.isList
  obtain⟨ob,lb,cb,_⟩:=id pb.isList
  obtain⟨o1,e1,c1,_⟩:=id h1
  obtain⟨o2,e2,c2,_⟩:=id h2
  have D:ZipApart z TI TO i1 i2 a b:=⟨n1,n2,n3,n4,n5,n6,n7,n8,n9,n10,
   S8 la hz (by rw[ca];intro z;injection z with z;revert z;decide),S8 la hTO (by rw[ca];intro z;injection z with z;revert z;decide),S8 la e1 (by rw[ca,c1];intro z;injection z with z;revert z;decide),S8 la e2 (by rw[ca,c2];intro z;injection z with z;revert z;decide),
   S8 lb hz (by rw[cb];intro z;injection z with z;revert z;decide),S8 lb hTO (by rw[cb];intro z;injection z with z;revert z;decide),S8 lb e1 (by rw[cb,c1];intro z;injection z with z;revert z;decide),S8 lb e2 (by rw[cb,c2];intro z;injection z with z;revert z;decide)⟩
  refine wpAny_pyNext_zip_item D hz hTI hTO h1 h2 pa.isList pb.isList (x:=ux) (y:=uy) (by simpa using hux) (by simpa using huy) fun h3 a1 a2 a3 a4 a5 a6 hk=>?_
  refine⟨_,rfl,?_⟩
  refine wpAny_letOwnedTupleGo_zip (s:={ s with heap:=h3 }) a1 fun h4 hz4 hs4=>?_
  have hs4:Heap.SameBut z h3 h4:=hs4
  have lz:z≠s.heap.objs.size:=v5 (h9 hz)
  have fl:∀c∈[z,TI,TO,i1,i2],c≠s.heap.objs.size:=fun c hc=>by
   simp only[o0,E9,or_false]at hc
   rcases hc with rfl | rfl | rfl | rfl | rfl
   ·exact lz
   ·exact v5 (h9 hTI)
   ·exact v5 (h9 hTO)
   ·exact v5 (h9 e1)
   ·exact v5 (h9 e2)
  have I2:=I.pairL (h':=h4) (t':=s.toks) (x:=x) (y:=y) (u:=ux) (v:=uy) hf fl rux ruy ((hs4.2 _ (Ne.symm lz)).trans a5) fun c o hc q=>by
   have m1:c≠z:=fun z=>hc (by simp[z])
   have m3:c≠TO:=fun z=>hc (by simp[z])
   have m4:c≠i1:=fun z=>hc (by simp[z])
   have m5:c≠i2:=fun z=>hc (by simp[z])
   exact(hs4.2 c m1).trans (hk c o m1 m3 m4 m5 q)
  refine⟨.ref s.heap.objs.size,_,I2,rfl,⟨_,x,y,I.fresh,rfl,rfl,fun zs hy=>by rw[I.list_inj hy hqa];exact hx,fun zs hy'=>by rw[I.list_inj hy' hqb];exact hy⟩,
   ⟨hz4,hs4.extBut _ _ n1 (hk _ _ n1 n5 n6 n7 hTI),⟨_,_,hs4.extBut _ _ n2 a2⟩,a3.extBut hs4.extBut n3,a4.extBut hs4.extBut n4⟩,fun c hc=>?_⟩
  rw[j7 (fl c hc)];exact(hf c hc).1
 done:=by
  intro X hP hw hK hc i pins s σ H E I hf st hg
  subst hP hw hK
  obtain⟨hz,hTI,⟨u,v,hTO⟩,h1,h2⟩:=st
  obtain⟨xs,ys,hqa,hqb,hx⟩:=hg
  obtain⟨ia,ra,pa,za⟩:=I.list hqa
  obtain⟨ib,rb,pb,zb⟩:=I.list hqb
  obtain⟨oa,la,ca,_⟩:=id pa.isList
  obtain⟨ob,lb,cb,_⟩:=id pb.isList
  obtain⟨o1,e1,c1,_⟩:=id h1
  obtain⟨o2,e2,c2,_⟩:=id h2
  have D:ZipApart z TI TO i1 i2 a b:=⟨n1,n2,n3,n4,n5,n6,n7,n8,n9,n10,
   S8 la hz (by rw[ca];intro z;injection z with z;revert z;decide),S8 la hTO (by rw[ca];intro z;injection z with z;revert z;decide),S8 la e1 (by rw[ca,c1];intro z;injection z with z;revert z;decide),S8 la e2 (by rw[ca,c2];intro z;injection z with z;revert z;decide),
   S8 lb hz (by rw[cb];intro z;injection z with z;revert z;decide),S8 lb hTO (by rw[cb];intro z;injection z with z;revert z;decide),S8 lb e1 (by rw[cb,c1];intro z;injection z with z;revert z;decide),S8 lb e2 (by rw[cb,c2];intro z;injection z with z;revert z;decide)⟩
  have la':=ra.length
  have lb':=rb.length
  have hend:ia.toArray[i]? = none\/ib.toArray[i]? = none:=by
   rcases hx with hx | hx
   ·left;simp;omega
   ·right;simp;omega
  refine wpAny_pyNext_zip_end (I.ok.hd hc) D hz hTI hTO h1 h2 pa.isList pb.isList hend fun h' hk=>⟨rfl,?_⟩
  refine I.turnedL (t':=s.toks) (fp:=[z,TI,TO,i1,i2]) (fun c o hc q=>?_) hf
  exact hk c o (fun z=>hc (by simp[z])) (fun z=>hc (by simp[z])) (fun z=>hc (by simp[z])) (fun z=>hc (by simp[z])) q
 self:=fun _ _ _ _ _ st h=>wpAny_pyIter_zip st.1 h
def c1M(K:Fg)(ta:TA):TI:=fun σ H R=>ta σ H fun vs H1=>∃a b,vs=[.ref a,.ref b]/\(∃xs,SqL K H1 a xs)/\(∃xs,SqL K H1 b xs)/\R (Itz K a b) H1
theorem c6m{x1}{a b:Expr}{ta:TA}{p:Pos}(hg:Gl X "zip")(hm:X.mg "zip" = none)(ha:PA X [a,b] ta)(hs:j5 [a,b] X.env=[(false,eval a X.env),(false,eval b X.env)]:=by rfl)(hs2:j5 [b] X.env=[(false,eval b X.env)]:=by rfl) :
  PI X (.Tuple elts x1 tp) (.Call (.Name "zip" p) [a,b] [] pos) (c1M X.K ta):=by
 intro pins s σ H R I h
 refine Call_ (a8q I hg hm boot_zip (Z8 (thn (ha pos pins s σ H _ I h) fun us s1 ⟨vs,H1,I1,r1,q1⟩=>?_) (by rw[hs,hs2]) (by rw[hs2];rfl)))
 obtain⟨c,d,e,⟨xs,hq⟩,⟨ys,hq'⟩,q⟩:=q1
 subst e
 cases r1 with
 | cons r rr=>
  cases rr with
  | cons r' rr=>
   cases rr
   cases r
   cases r'
   obtain⟨ia,ra,pa,za⟩:=I1.list hq
   obtain⟨ib,rb,pb,zb⟩:=I1.list hq'
   refine call_zip_2 pa.isList pb.isList fun h' hz hTI hTO h1 h2 hsz hk=>?_
   have I2:Inv X pins σ H1 { s1 with heap:=h' }:=I1.kept (t':=s1.toks) hk
   have N:∀n:Nat,n+2≠n+4/\n+3≠n+4/\n≠n+4/\n+1≠n+4/\n+2≠n+3/\n+2≠n/\n+2≠n+1/\n+3≠n/\n+3≠n+1/\n≠n+1:=fun n=>by omega
   obtain⟨m1,m2,m3,m4,m5,m6,m7,m8,m9,m10⟩:=N s1.heap.objs.size
   refine wpAny_pyIter_zip hz ⟨_,[s1.heap.objs.size+4,s1.heap.objs.size+2,s1.heap.objs.size+3,s1.heap.objs.size,s1.heap.objs.size+1],_,_,H1,rfl,I2,
    c0f c d (s1.heap.objs.size+4) (s1.heap.objs.size+2) (s1.heap.objs.size+3) s1.heap.objs.size (s1.heap.objs.size+1) m1 m2 m3 m4 m5 m6 m7 m8 m9 m10,⟨hz,hTI,⟨_,_,hTO⟩,h1,h2⟩,fun y hy=>?_,q⟩
   have:s1.heap.objs.size<=y:=by
    simp only[o0,E9,or_false]at hy
    rcases hy with rfl | rfl | rfl | rfl | rfl
    ·exact a5B _ _
    ·exact a5B _ _
    ·exact a5B _ _
    ·exact j9 _
    ·exact a5B _ _
   exact I1.fpOk this (I1.hok.fresh this)
end
def b2Z(x y:Str)(N:List Str):List Str:=N.map fun z=>if z=x then ("." : Str)++x else if z=y then ("." : Str)++y else z
def T0(X:Cx)(scope:Scope)(cl:List (Str×Addr))(C:Addr)(x y:Str)(fp:List Addr)(s3:c9)(H3:Hp):Cx:=
 { X with N:=x::y::b2Z x y X.N,s₀:=s3,H₀:=H3,env:=b0N scope cl C X.env,outer:=X.stack,stack:=X.stack,ex:=fp,fn:=fun _=>false,pn:=[],xe:=fun _ _=>False }
structure a4z(N:List Str)(osc sc:Scope)(x y:Str):Prop where
 kind:sc.kind=.function
 cell:∀y∈sc.names,y.2≠.cell
 names:∀y∈sc.names,y.2=.local->sc.names.lookup y.1=some .local
 own:sc.names.lookup x=some .local
 own2:sc.names.lookup y=some .local
 fr:∀y∈sc.names,y.2=.free->osc.names.lookup y.1=some .cell\/osc.names.lookup y.1=some .free
 see:∀z∈b2Z x y N,sc.names.lookup z≠some .local
 dot:sc.names.lookup (("." : Str)++x)=none
 dot2:sc.names.lookup (("." : Str)++y)=none
 nd:(x::y::b2Z x y N).Nodup
def a7Y(K:Fg)(wi:TI)(tt:TT)(te:TE):TE:=fun σ H Q=>wi σ H fun J H1=>∀D,H1 D=none->∃W:Nat->Nat->List V->Hp->Prop,
 (∃m,W 0 m [] (upd H1 D (.lst [])))/\∀i m ys H2,W i m ys H2->H2 D=some (.lst ys) /\
  ((J.stop i H2 /\ Q (.ref D) H2) \/ (J.go i H2 /\ ∀ x H3,J.yld i H2 x H3 -> ∃ a u v,x = .ref a /\ SqT K H3 a [u,v] /\ tt (some u :: some v :: σ) H3 fun ok H4 => if ok = true then
    te (some u::some v::σ) H4 (fun y H5=>H5 D=some (.lst ys)/\ys.length<t6/\∃m',m'<m/\W (i+1) m' (ys++[y]) (upd H5 D (.lst (ys++[y]))))
    else ∃m',m'<m/\W (i+1) m' ys H4))
section
variable {x x2:Str}{px py2 pt:Pos}{kt}
theorem b9i{s3:c9}{cl:List (Str×Addr)}{h4:Heap}{tk:Nat}(hc:a4z X.N X.env.scope scope x x2)(I:Inv X pins σ H s3)
  (hcl:∀y c,cl.lookup y=some c->X.env.cells.lookup y=some c) (hcl2:∀y,(y,NameKind.free)∈scope.names->(cl.lookup y).isSome=true)
  (fpo:∀b∈fp,a0E X pins H b) (fpl:∀b∈fp,b<s3.heap.objs.size)
  (hn:h4.Ns s3.heap.objs.size (fun _=>none)) (k:∀b o,s3.heap.get? b=some o->h4.get? b=some o) :
  Inv (T0 X scope cl s3.heap.objs.size x x2 fp s3 H) [] (none::none::σ) H { s3 with heap:=h4,toks:=tk }:=by
 have low:∀x y,(T0 X scope cl s3.heap.objs.size x x2 fp s3 H).env.cells.lookup y=cl.lookup y:=fun _ _=>rfl
 have below:∀y c,cl.lookup y=some c->c<s3.heap.objs.size:=fun y c e=>by
  obtain⟨v,q⟩:=I.cell y c (hcl y c e)
  exact q.lt
 have kinds:∀y,((T0 X scope cl s3.heap.objs.size x x2 fp s3 H).env.kindOf y=some .cell\/(T0 X scope cl s3.heap.objs.size x x2 fp s3 H).env.kindOf y=some .free)->scope.names.lookup y=some .free:=by
  intro y hy
  rcases hy with hy | hy
  ·rcases P0 hy with q | ⟨q,_⟩
   ·exact absurd rfl (hc.cell _ (D6 q))
   ·exact q
  ·rcases P0 hy with q | ⟨q,z⟩
   ·exact q
   ·cases z
 refine⟨⟨I.ok.mod,?_,I.ok.glob,I.ok.blt,j9 _,fun y z c h1 h2=>?_,fun y hy=>?_,fun y c h=>?_,I.ok.hd,I.ok.frames,.inl rfl,fun b hb=>⟨?_,fun y c e z=>?_⟩,fun b o e=>I.bs b o e,F3 I.ok.bsz I.sz,fun b o e hb=>?_,fun b hb hf=>?_,I.stack,I.stkFree⟩,
  rfl,I.bare,Un.kept k,⟨_,hn,fun i y v h1 h2 h3=>?_⟩,fun y c e=>?_,I.fresh,fun y c e=>?_,fun p hp=>absurd (show p∈([]:List (Addr×Obj))from hp) (by simp),I.hok.kept k,?_⟩
 ·exact hc.kind
 ·exact I.ok.inj y z c (hcl _ _ h1) (hcl _ _ h2)
 ·have:=hcl2 y (D6 (kinds y hy))
  exact X7.mp this
 ·cases h
 ·exact v5 (fpl b hb)
 ·exact(fpo b hb).2.2.2.2.1 y c (hcl y c e) z
 ·rcases(fpo b hb).2.2.2.1 with q | q
  ·exact I.ok.noex b o e q
  ·exact absurd (v0 (h9 (I.ok.bs b o e).1) q) (D4 _)
 ·rcases o0.mp (I.stkSub b hf)with e | e
  ·exact(fpo b hb).2.1 e
  ·exact(fpo b hb).2.2.1 e
 ·-- the names
  have h1:(x::x2::b2Z x x2 X.N)[i]? = some y:=h1
  cases i with
  | zero=>cases h2
  | succ i=>
   cases i with
   | zero=>cases h2
   | succ i=>
   have h1:(b2Z x x2 X.N)[i]? = some y:=h1
   have h2:σ[i]? = some (some v):=h2
   have my:y∈b2Z x x2 X.N:=a0N h1
   have h3:(a6o scope X.env).names.lookup y=some .local\/(a6o scope X.env).names.lookup y=some .cell\/(a6o scope X.env).names.lookup y=some .free:=h3
   have hf:scope.names.lookup y=some .free:=by
    rcases h3 with q | q
    ·rcases P0 q with q | ⟨_,z⟩
     ·exact absurd q (hc.see y my)
     ·cases z
    ·exact kinds y q
   have hy:X.N[i]? = some y:=by
    unfold b2Z at h1
    rw[c8]at h1
    cases e:X.N[i]? with
    | none=>rw[e]at h1;cases h1
    | some z=>
     rw[e]at h1
     by_cases ez:z=x
     ·rw[a5A,if_pos ez]at h1
      have h1:=Option.some.inj h1
      subst h1
      rw[hc.dot]at hf
      cases hf
     ·rw[a5A,if_neg ez]at h1
      by_cases ez2:z=x2
      ·rw[if_pos ez2]at h1
       have h1:=Option.some.inj h1
       subst h1
       rw[hc.dot2]at hf
       cases hf
      ·rw[if_neg ez2]at h1
       exact h1
   obtain⟨m,_,hl⟩:=I.loc
   obtain⟨c,hcc⟩:=X7.mp (hcl2 y (D6 hf))
   have vis:Vis X.env.scope y:=by
    rcases hc.fr _ (D6 hf) rfl with q | q
    ·exact .inr (.inl q)
    ·exact .inr (.inr q)
   obtain⟨u,ru,lk⟩:=hl i y v hy h2 vis
   refine⟨u,ru,.inr ⟨?_,c,hcc,?_⟩⟩
   ·rcases h3 with q | q
    ·rcases P0 q with q | ⟨_,z⟩
     ·exact absurd q (hc.see y my)
     ·cases z
    ·exact q
   ·have hce:=hcl y c hcc
    rcases lk with ⟨q,_⟩ | ⟨_,c',e',z⟩
    ·rcases hc.fr _ (D6 hf) rfl with q' | q'
     ·have q:X.env.scope.names.lookup y=some .local:=q
      rw[show X.env.scope.names.lookup y=some NameKind.cell from q']at q
      cases q
     ·have q:X.env.scope.names.lookup y=some .local:=q
      rw[show X.env.scope.names.lookup y=some NameKind.free from q']at q
      cases q
    ·rw[e']at hce
     cases hce
     obtain⟨o,ho,hd⟩:=z
     exact⟨o,k _ _ ho,hd⟩
 ·obtain⟨v,o,ho,hd⟩:=I.cell y c (hcl y c e)
  exact⟨v,o,k _ _ ho,hd⟩
 ·exact I.freeC y c (hcl y c e)
 ·show(none::none::σ).length=(x::x2::b2Z x x2 X.N).length
  have:=I.len
  simp[b2Z,this]
theorem b4Z{H1:Hp}{s2:c9}{cl:List (Str×Addr)}{it:Addr}{tn:Nat->Heap->Prop}{J:It}{Q:VK}{E:Value->c9->Prop}
  {RR:Value->Addr->b1p->c9->Prop} (hc:a4z X.N X.env.scope scope x x2) (hcalm:X.calm=true)
  (hcl:∀y c,cl.lookup y=some c->X.env.cells.lookup y=some c) (hcl2:∀y,(y,NameKind.free)∈scope.names->(cl.lookup y).isSome=true)
  (ht:∀C fp s3 H3,PTs (T0 X scope cl C x x2 fp s3 H3) ifs tt) (he:∀C fp s3 H3,PE (T0 X scope cl C x x2 fp s3 H3) elt te)
  (I:Inv X pins σ H1 s2) (T:b5m X.prog X.w X.K (.Tuple [.Name x px,.Name x2 py2] kt pt) J fp it tn) (st:tn 0 s2.heap) (fpo:∀b∈fp,a0E X pins H1 b)
  (h:∀D,H1 D=none->∃W:Nat->Nat->List V->Hp->Prop,
   (∃m,W 0 m [] (upd H1 D (.lst [])))/\∀i m ys H2,W i m ys H2->H2 D=some (.lst ys) /\
   ((J.stop i H2 /\ Q (.ref D) H2) \/ (J.go i H2 /\ ∀ x H3,J.yld i H2 x H3 -> ∃ a u v,x = .ref a /\ SqT X.K H3 a [u,v] /\ tt (some u :: some v :: σ) H3 fun ok H4 => if ok = true then
     te (some u::some v::σ) H4 (fun y H5=>H5 D=some (.lst ys)/\ys.length<t6/\∃m',m'<m/\W (i+1) m' (ys++[y]) (upd H5 D (.lst (ys++[y]))))
     else ∃m',m'<m/\W (i+1) m' ys H4)))
  (hRR:∀D C s' H' m,Inv X pins σ H' s'->s'.heap.Ns C m->H' C=none->C≠X.env.locals->X.s₀.heap.objs.size<=C->(∀y c,X.env.cells.lookup y=some c->c≠C)->(∀p∈X.pn++pins,p.1≠C)->Q (.ref D) H'->RR (.ref D) C (.ok .next) s') :
  wpAny (model X.prog X.w) X.A (newList []) (fun acc s₃=>wpAny (model X.prog X.w) X.A (newFunctionEnv scope X.env.globals cl [] X.env.qual none .none (some X.env)) (fun cenv s₄=>
   a1U (model X.prog X.w) X.A (.compStart (.ListComp elt [⟨.Tuple [.Name x px,.Name x2 py2] kt pt,iter,ifs,0⟩] scope pos) 0 (.ref it) acc { cenv with scope:=a6o scope X.env }) (RR acc cenv.locals) s₄) E s₃) E s2:=by
 refine P9 (hd:=by size_fits) ?_
 have I3:=I.lnew (ys:=[]) (its:=[]) (t':=s2.toks) .nil (by show 0<=t6;exact L5 _)
 obtain⟨W,⟨m0,w0⟩,turn⟩:=h _ I.fresh
 generalize hD:s2.heap.objs.size=D at I3 w0 turn ⊢
 generalize hs3:({ s2 with heap:=s2.heap.push { cls:=.type "list",data:=.seq ([]:List Value).toArray } }:c9)=s3
 have hs3':({ s2 with heap:=s2.heap.push { cls:=.type "list",data:=.seq ([]:List Value).toArray },toks:=s2.toks }:c9)=s3:=hs3
 rw[hs3']at I3
 have keep3:∀b o,s2.heap.get? b=some o->s3.heap.get? b=some o:=fun b o e=>by rw[<-hs3];exact d4 _ e
 have fpl:∀b∈fp,b<s3.heap.objs.size:=fun b hb=>by
  obtain⟨o,e,_⟩:=T.obj _ _ st b hb
  exact h9 (keep3 b o e)
 have fpD:∀b∈fp,b≠D:=fun b hb z=>by
  obtain⟨o,e,_⟩:=T.obj _ _ st b hb
  exact absurd (h9 e) (by rw[z,hD];exact D4 _)
 have fpo3:∀b∈fp,a0E X pins (upd H1 D (.lst [])) b:=fun b hb=>⟨by rw[j7 (fpD b hb)];exact(fpo b hb).1,(fpo b hb).2⟩
 show wpAny _ _ _ _ _ s3
 refine b0R hc.cell (by intro y hy;simp at hy) (fun h₁ hns₁ hsb₁=>?_) hc.kind
 dsimp only[newEnv]at hns₁ hsb₁ ⊢
 have keep4:∀b o,s3.heap.get? b=some o->h₁.get? b=some o:=fun b o e=>hsb₁.extBut b o (v5 (h9 e)) (d4 _ e)
 have I4:=b9i (tk:=s3.toks+([]:List (Str×Value)).length) hc I3 hcl hcl2 fpo3 fpl hns₁ keep4
 have st4:tn 0 h₁:=T.keep _ _ _ st fun b hb o e=>keep4 b o (keep3 b o e)
 have loop:∀s₄:c9,s₄={ s3 with heap:=h₁,toks:=s3.toks+([]:List (Str×Value)).length } ->
   a1U (model X.prog X.w) X.A (.compLoop (.ListComp elt [⟨.Tuple [.Name x px,.Name x2 py2] kt pt,iter,ifs,0⟩] scope pos) 0 (.ref it) (.ref D) (b0N scope cl s3.heap.objs.size X.env)) (RR (.ref D) s3.heap.objs.size) s₄:=by
  rintro s₄ rfl
  have stat:∀ {H':Hp},(∀b∈fp,H' b=none)->∀b∈fp,a0E (T0 X scope cl s3.heap.objs.size x x2 fp s3 (upd H1 D (.lst []))) [] H' b:=fun hn b hb=>
   ⟨hn b hb,v5 (fpl b hb),fun hf=>by
    rcases o0.mp (I3.stkSub b hf)with e | e
    ·exact(fpo b hb).2.1 e
    ·exact(fpo b hb).2.2.1 e,.inl hb,fun y c e=>(fpo b hb).2.2.2.2.1 y c (hcl y c e),fun p hp=>absurd (show p∈([]:List (Addr×Obj))from hp) (by simp)⟩
  refine a8v (env:=b0N scope cl s3.heap.objs.size X.env) (fun n s'=>∃i ys H',Inv (T0 X scope cl s3.heap.objs.size x x2 fp s3 (upd H1 D (.lst []))) [] (none::none::σ) H' s'/\tn i s'.heap/\(∀b∈fp,H' b=none)/\W i n ys H') ?_ m0
   ⟨0,[],_,I4,st4,fun b hb=>(fpo3 b hb).1,w0⟩
  rintro n s5 ⟨i,ys,H5,I5,st5,fr5,w5⟩
  obtain⟨hDy,alt⟩:=turn i n ys H5 w5
  rcases alt with ⟨stop,q⟩ | ⟨go,step⟩
  ·refine O8 (T.done (T0 X scope cl s3.heap.objs.size x x2 fp s3 (upd H1 D (.lst []))) rfl rfl rfl hcalm i [] s5 _ H5 (fun _ _=>False) I5 (stat fr5) st5 stop) (fun r s6 ⟨hr,I6⟩=>?_) fun _ _ f=>f
   subst hr
   obtain⟨m6,n6,_⟩:=I6.loc
   have J6:Inv X pins σ H5 s6:=by
    refine I3.call' (ch:=fp) I6.os I6.base I6.hok I6.bare fun b hb=>?_
    obtain⟨_,f1,f2,f3,f4,f5⟩:=fpo3 b hb
    exact⟨f3,f1,f4,f5⟩
   refine hRR D _ s6 H5 m6 J6 n6 I6.free (a3I I3.lt) I3.sz (fun y c e z=>?_) (fun p hp z=>?_) q
   ·obtain⟨v,q⟩:=I3.cell y c e
    exact absurd q.lt (by rw[z];exact D4 _)
   ·exact absurd (h9 (I3.pin p hp).1) (by rw[z];exact D4 _)
  ·refine O8 (T.item (T0 X scope cl s3.heap.objs.size x x2 fp s3 (upd H1 D (.lst []))) rfl rfl rfl hcalm i [] s5 _ H5 (fun _ _=>False) I5 (stat fr5) st5 go) (fun r s6 ⟨u,hr,h6⟩=>?_) fun _ _ f=>f
   subst hr
   refine thn h6 fun _ s6 ⟨xv,H6,I6,r6,y6,st6,fr6⟩=>?_
   have I6':=I6.pinned (stat fr6) (T.obj _ _ st6)
   obtain⟨pa,u1,u2,rfl,hsq,step⟩:=step xv H6 y6
   have hpg:PG (T0 X scope cl s3.heap.objs.size x x2 fp s3 (upd H1 D (.lst []))) (.Tuple [.Name x px,.Name x2 py2] kt pt) (a9f X.K 2 (a0I (u4 0) (a0I (u4 1) a9h))):=
    c0X (X:=T0 X scope cl s3.heap.objs.size x x2 fp s3 (upd H1 D (.lst []))) hcalm (b0d (b2J (i:=0) hc.nd rfl (.inl (a0i hc.own)) (.inr (a0i hc.own))) (b0d (b2J (i:=1) hc.nd rfl (.inl (a0i hc.own2)) (.inr (a0i hc.own2))) b7B))
   refine thn (hpg _ s6 (none::none::σ) H6 (.ref pa) u (fun σ' H'=>σ'=some u1::some u2::σ/\H'=H6) I6' r6 ⟨pa,[u1,u2],rfl,hsq,rfl,_,_,rfl,_,_,rfl,rfl,rfl,rfl⟩) fun _ s7 ⟨σ7,H7,I7,e7,e7'⟩=>?_
   subst e7 e7'
   have again:∀ {s8:c9} {H8:Hp} {ys8:List V},Inv (T0 X scope cl s3.heap.objs.size x x2 fp s3 (upd H1 D (.lst []))) ([]++a4k fp s6.heap) (some u1::some u2::σ) H8 s8->(∃m',m'<n/\W (i+1) m' ys8 H8) ->
     ∃m,m<n/\∃i ys H',Inv (T0 X scope cl s3.heap.objs.size x x2 fp s3 (upd H1 D (.lst []))) [] (none::none::σ) H' s8/\tn i s8.heap/\(∀b∈fp,H' b=none)/\W i m ys H':=by
    rintro s8 H8 ys8 I8 ⟨m',hm,w8⟩
    refine⟨m',hm,i+1,ys8,H8,(I8.unpinned (pins:=[])).weak rfl (fun j v e=>?_),T.keep _ _ _ st6 fun b hb o e=>(I8.pin (b,o) (u5 _ (u5 _ (a0s hb e)))).1,fun b hb=>?_,w8⟩
    ·cases j with
     | zero=>cases e
     | succ j=>
      cases j with
      | zero=>cases e
      | succ j=>exact e
    ·obtain⟨o,e,d⟩:=T.obj _ _ st6 b hb
     exact(I8.pin (b,o) (u5 _ (u5 _ (a0s hb e)))).2.1
   refine thn (ht _ fp s3 _ _ s7 _ _ _ I7 step) (fun ok s8 ⟨H8,I8,q8⟩=>?_)
   cases ok with
   | false=>exact again I8 (by simpa using q8)
   | true=>
    rw[if_pos rfl]at q8
    rw[if_pos rfl]
    refine thn (he _ fp s3 _ _ s8 _ H8 _ I8 q8) (fun v s9 ⟨y,H9,I9,r9,hD9,hz9,w9⟩=>?_)
    refine O8 (a5L (X:=T0 X scope cl s3.heap.objs.size x x2 fp s3 (upd H1 D (.lst []))) _ s9 _ H9 (.ref D) [y] (.ref D) [v] (fun _ H'=>H'=upd H9 D (.lst (ys++[y]))) I9 rfl (.cons r9 .nil) ⟨D,ys,y,rfl,rfl,hD9,hz9,rfl⟩) (fun _ s10 ⟨_,H10,I10,_,e10⟩=>?_) fun _ _ f=>f
    subst e10
    exact again I10 w9
 exact a8Y (loop _ rfl) (T.self X.A 0 _ _ _ st4 (loop _ rfl))
theorem b4X(hc:a4z X.N X.env.scope scope x x2)(I:Inv X pins σ H s):∀y∈scope.names,y.2=.free->∃c,X.env.cells.lookup y.1=some c:=by
 intro y hy e
 rcases hc.fr y hy e with q | q
 ·exact I.ok.has y.1 (.inl q)
 ·exact I.ok.has y.1 (.inr q)
theorem c1c{wi:TI}(hc:a4z X.N X.env.scope scope x x2)(hcalm:X.calm=true)(hi:PI X (.Tuple [.Name x px,.Name x2 py2] kt pt) iter wi)
  (ht:∀cl C fp s3 H3,PTs (T0 X scope cl C x x2 fp s3 H3) ifs tt) (he:∀cl C fp s3 H3,PE (T0 X scope cl C x x2 fp s3 H3) elt te)
  (hs:∀x,Q0 iter X.env x=pure x:=by intro _;rfl) :
  PE X (.ListComp elt [⟨.Tuple [.Name x px,.Name x2 py2] kt pt,iter,ifs,0⟩] scope pos) (a7Y X.K wi tt te):=by
 intro pins s σ H Q I h
 obtain⟨cl,hclos,hcl,hcl2⟩:=a4u (b4X hc I)
 rw[eval_ListComp]
 refine a2E (use:=none) rfl hs hclos hc.kind hc.names (thn (hi pins s σ H _ I h) fun v s1 h1=>thn h1 fun itv s2 ⟨it,fp,tn,J,H2,e,I2,T,st,fpo,R⟩=>?_)
 subst e
 refine b4Z (RR:=fun acc C=>compPost (model X.prog X.w) X.A X.xe none (EP X pins σ Q) acc C) (Q:=Q) hc hcalm hcl hcl2 (ht cl) (he cl) I2 T st fpo R ?_
 intro D C s' H' m I' n f1 f2 f3 f4 f5 q
 exact⟨m,n,fun h' sb=>⟨.ref D,H',I'.turned (t':=s'.toks) (fun b o hb e=>(sb.2 b hb).trans e) f1 f2 (.inr f3) f4 f5,rfl,q⟩⟩
end
section
variable {x x2:Str}{px py2 pt:Pos}{kt:Nat}
end
section
def c0O:List V->Hp->VK->Prop:=fun xs H Q=>match xs with
 | [.int i,.int j]=>Q (.int (if j<i then j else i)) H
 | _=>False
theorem b9o(hc:X.calm=true):V5 X (.builtin "min") c0O:=(b9v hc).imp fun xs H Q h=>by
 unfold c0O at h
 split at h
 ·exact⟨_,_,rfl,h⟩
 ·exact h.elim
theorem b9x:∀bs:List Bool,((u7 bs.length).any fun i=>(bs[i]?).getD false)=bs.any id:=by
 intro bs
 induction bs with
 | nil=>rfl
 | cons b r ih=>
  rw[z9,List.range_succ_eq_map,a1u,List.any_map,a1u]
  rw[<-ih]
  rfl
def b2E:List V->Hp->VK->Prop:=fun vs H Q=>match vs with
 | [.ref l]=>match H l with
  | some (.lst xs)=>∃bs,W6 xs=some bs/\Q (.bl (bs.any id)) H
  | _=>False
 | _=>False
theorem b9s(hc:X.calm=true):V5 X (.builtin "any") b2E:=fun pins s σ H xs us Q I r h=>by
 unfold b2E at h
 split at h
 ·split at h
  ·rename_i l _ ys hl
   obtain⟨bs,e,q⟩:=h
   obtain⟨u,rfl,ru⟩:=a4H r
   cases ru
   obtain⟨its,rv,pl,hz⟩:=I.list (SqL.of hl)
   have hlt:l<s.heap.objs.size:=by obtain⟨_,e,_⟩:=pl.isList;exact h9 e
   have hlen:=rv.length
   have hbl:=a8x e
   refine call_any_walk (a6T pl.isList ?_)
   refine⟨s.heap.objs.size,[s.heap.objs.size,l],[s.heap.objs.size],its.toArray.size,_,_,fun i=>(bs[i]?).getD false,rfl,Walks.list (A:=X.A.in1) (I.ok.hd hc) _ l (v5 hlt) its.toArray,
    ⟨⟨_,C3 _ rfl,rfl,rfl⟩,pl.isList.push _⟩,fun i v s' Q' E' hP hQ=>?_,fun h' tk hk=>?_⟩
   ·have hP:its[i]? = some v:=by simpa using hP
    have hi:i<ys.length:=by rw[hlen];exact(z4.mp hP).1
    have ey:ys[i]? = some ys[i]:=by simp[hi]
    obtain⟨b,eb,ez⟩:=a8y e ey
    obtain⟨u,eu,ru⟩:=rv.get ey
    rw[hP]at eu
    cases eu
    rw[ez]at ru
    cases ru
    simp only[eb,a2v]at hQ
    exact M8 hQ
   ·have e2:((u7 its.toArray.size).any fun i=>(bs[i]?).getD false)=bs.any id:=by
     rw[o5,<-hlen,hbl]
     exact b9x bs
    rw[e2]
    exact⟨.bl _,H,I.kept (t':=tk) fun b x e=>hk b x (fun hm=>by rw[g6.mp hm]at e;exact D4 _ (h9 e)) (d4 _ e),rfl,q⟩
  ·exact h.elim
 ·exact h.elim
def a1G:List V->Option (List Int)
 | []=>some []
 | .int i::r=>(a1G r).map (i :: ·)
 | _=>none
theorem b0t(ns:List Int):a1G (ns.map V.int)=some ns:=by
 induction ns with
 | nil=>rfl
 | cons s r ih=>simp[a1G,ih]
theorem a3u:∀ {xs:List V} {us:List Value} {ss:List Int},J2 xs us->a1G xs=some ss->b9P us ss
 | _,_,ss,.nil,e=>by cases e;exact .nil
 | x::xs,_,ss,.cons r t,e=>by
  cases x with
  | int s=>
   obtain⟨k,rfl⟩:=r
   cases e2:a1G xs with
   | none=>simp[a1G,e2]at e
   | some ss2=>
    simp[a1G,e2]at e
    subst e
    exact .cons _ _ (a3u t e2)
  | _=>simp[a1G]at e
def a5J:List V->Hp->VK->Prop:=fun vs H Q=>match vs with
 | [.ref l]=>match H l with
  | some (.lst xs)=>∃ns,a1G xs=some ns/\ns.length<64/\∀(p:Addr) (ms:List Int),ms.Perm ns->ms.Pairwise (· <= ·)->H p=none->Q (.ref p) (upd H p (.lst (ms.map V.int)))
  | _=>False
 | _=>False
theorem b3f:V5 X (.builtin "sorted") a5J:=fun pins s σ H xs us Q I r h=>by
 unfold a5J at h
 split at h
 ·split at h
  ·rename_i l _ ys hl
   obtain⟨ns,e,hn,q⟩:=h
   obtain⟨u,rfl,ru⟩:=a4H r
   cases ru
   obtain⟨its,rv,pl,hz⟩:=I.list (SqL.of hl)
   have hi:=a3u rv e
   have hil:=hi.length
   refine sorted_ints pl.isList hi (by omega) fun out ns' a1 a2 a3=>?_
   obtain⟨c,he⟩:=sortedAll_at s.heap its out
   have hl':=a2.length_eq
   refine⟨.ref _,_,I.laid (t':=s.toks) (a:=s.heap.objs.size+1) (o:=.lst (ns'.map V.int)) (fun b ob q=>sortedAll_old q) (a4O _) ?_,rfl,q _ ns' a2 a3 (I.hok.fresh (a4O _))⟩
   refine⟨by rw[b5,sizeLine_eq];omega,out.toList,c,a7W a1,?_⟩
   exact he
  ·exact h.elim
 ·exact h.elim
def a8h:V->List V->Hp->VK->Prop:=fun x vs H Q=>match x,vs with
 | .ref l,[.int k]=>match H l with
  | some (.lst xs)=>∃ns,a1G xs=some ns/\ns.length<10000/\k∈ns/\Q (.int (ns.idxOf k:Nat)) H
  | _=>False
 | _,_=>False
theorem b8V:MtR X "list.index" a8h:=fun pins s σ H x xs v us Q I rx rv h=>by
 unfold a8h at h
 split at h
 ·split at h
  ·rename_i l k _ ys hl
   obtain⟨ns,e,hn,hk,q⟩:=h
   cases rx
   obtain⟨u,rfl,⟨t,rfl⟩⟩:=rv.one
   obtain⟨its,r,pl,hz⟩:=I.list (SqL.of hl)
   have hi:=a3u r e
   obtain⟨⟨cls,dd,data,sl⟩,ho,hc,n,hd⟩:=id pl.isList
   simp only at hc hd
   subst hc hd
   have hlen:=hi.length
   have hj:ns.idxOf k<ns.length:=b5r.mpr hk
   refine a6V a1r ⟨_,ho,rfl⟩ b3x (b2g _ _)
    (b0K l its.toArray n dd sl (.int k t) (isInt k) (ns.idxOf k) (by simpa[hlen]using hj) (by omega) ?_ ?_) ⟨ho,fun y hy=>(eq_isInt k t hi y (by simpa using hy)).at _ _,⟨.int _,H,I.tok _,⟨_,rfl⟩,q⟩⟩
   ·show isInt k its[ns.idxOf k]=true
    rw[isInt_at k hi _ (by omega) hj]
    simpa using List.getElem_idxOf hj
   ·intro j hjs hlt
    show isInt k its[j]=false
    rw[isInt_at k hi j (by simpa using hjs) (by omega)]
    exact ne_of_lt_idxOf hlt _
  ·exact h.elim
 ·exact h.elim
def a4j:V->List V->Hp->VK->Prop:=fun x vs H Q=>match x,vs with
 | .ref l,[.ref b]=>match H l,H b with
  | some (.lst xs),some (.lst zs)=>xs.length+zs.length<=t6/\Q .non (upd H l (.lst (xs++zs)))
  | _,_=>False
 | _,_=>False
theorem b6s:MtR X "list.extend" a4j:=fun pins s σ H x xs v us Q I rx rv h=>by
 refine b8W pins s σ H x xs v us Q I rx rv ?_
 unfold a4j at h
 split at h
 ·split at h
  ·exact⟨_,_,_,_,rfl,rfl,by assumption,by assumption,h.1,h.2⟩
  ·exact h.elim
 ·exact h.elim
def b8A:V->List V->Hp->VK->Prop:=fun x vs H Q=>match x,vs with
 | .ref l,[]=>match H l with
  | some (.lst xs)=>∃y,xs[xs.length - 1]? = some y/\Q y (upd H l (.lst xs.dropLast))
  | _=>False
 | _,_=>False
theorem c4d:MtR X "list.pop" b8A:=fun pins s σ H x xs v us Q I rx rv h=>by
 refine c7b pins s σ H x xs v us Q I rx rv ?_
 unfold b8A at h
 split at h
 ·split at h
  ·obtain⟨y,e,q⟩:=h
   exact⟨_,_,y,rfl,rfl,by assumption,e,q⟩
  ·exact h.elim
 ·exact h.elim
def a8g:List V->Hp->VK->Prop:=fun xs H Q=>match xs with
 | [.ref p]=>match H p with
  | some (.dK kvs)=>∀l,H l=none->Q (.ref l) (upd H l (.lst (kvs.map fun kv=>kV kv.1)))
  | _=>False
 | _=>False
theorem c8H{P:w4}{k:Key}{u:Value}(r:(W4 P w).is k u=true):F0 (kV k) u:=by
 rcases T8 (show b0q k u=true from r)with ⟨i,t,rfl,rfl⟩ | ⟨x,t,rfl,rfl⟩
 ·exact⟨t,rfl⟩
 ·exact⟨t,rfl⟩
theorem b7f:∀ {xs:List V} {us:List Value},xs.length=us.length->(∀(i:Nat) x u,xs[i]? = some x->us[i]? = some u->F0 x u)->J2 xs us
 | [],[],_,_=>.nil
 | x::xs,u::us,hl,h=>.cons (h 0 x u rfl rfl) (b7f (by simpa using hl) fun i y v a b=>h (i+1) y v (by simpa using a) (by simpa using b))
 | [],u::us,hl,_=>by cases hl
 | x::xs,[],hl,_=>by cases hl
theorem c5m:∀ {l:List (Key×V)} {la:List (Key×Value)} {i:Nat} {k:Key} {x:Value},KV l la->la[i]? = some (k,x)->∃y,l[i]? = some (k,y)
 | p::l,q::la,0,k,x,h,e=>by
  have h:Paired _ _ _:=h
  cases h with
  | cons h t=>
   cases e
   exact⟨p.2,by rw[b7a];rw[show k=p.1 from h.1.symm]⟩
 | p::l,q::la,i+1,k,x,h,e=>by
  have h:Paired _ _ _:=h
  cases h with
  | cons h t => 
   obtain⟨y,hy⟩:=c5m (i:=i) (show KV l la from t) (by simpa using e)
   exact⟨y,by simpa using hy⟩
 | [],la,i,k,x,h,e=>by
  have h:Paired _ _ _:=h
  cases h
  cases e
 | p::l,[],i,k,x,h,e=>by
  have h:Paired _ _ _:=h
  cases h
theorem b5i(hc:X.calm=true):V5 X (.type "list") a8g:=fun pins s σ H xs us Q I r h=>by
 unfold a8g at h
 split at h
 ·split at h
  ·rename_i p _ kvs hp
   obtain⟨u,rfl,ru⟩:=a4H r
   cases ru
   obtain⟨hz,hS,vs,rk,hD⟩:=c1Z I.hok hp
   obtain⟨ep,hat⟩:=hD.dictAt
   have hl:=Paired.length rk
   refine PySem.W.kdl_call (PySem.W.kdl_dict (knd:=W4 X.prog X.w) (kvs:=vs) (ep:=ep) hS) (I.ok.hd hc) hat (by omega) fun h' tk acc c hk ha hit=>?_
   refine⟨.ref _,_,I.laid (t':=tk) (a:=s.heap.objs.size) (o:=.lst (kvs.map fun kv=>kV kv.1)) hk (j9 _) ?_,rfl,h _ (I.hok.fresh (j9 _))⟩
   refine⟨by rw[b5];exact hz,acc.toList,c,?_,by simpa using ha⟩
   refine b7f (by have:=hit.1;rw[b5];simp;omega) fun i x u a b=>?_
   obtain⟨k,y,e1,e2⟩:=hit.2 i u (by rw[<-a2w];exact b)
   obtain⟨z,e3⟩:=c5m rk e1
   rw[c8,e3]at a
   cases a
   exact c8H e2
  ·exact h.elim
 ·exact h.elim
inductive Dq(K:Fg)(H:Hp):Nat->V->V->Prop
 | flat {n:Nat} {x:V}:O7 x=true->Dq K H n x x
 | tup {n:Nat} {a b:Addr} {xs ys:List V}:SqT K H a xs->SqT K H b ys->xs.length=ys.length->(∀(j:Nat) x y,xs[j]? = some x->ys[j]? = some y->Dq K H n x y)->Dq K H (n+1) (.ref a) (.ref b)
 | lst {n:Nat} {a b:Addr} {xs ys:List V}:SqL K H a xs->SqL K H b ys->xs.length=ys.length->(∀(j:Nat) x y,xs[j]? = some x->ys[j]? = some y->Dq K H n x y)->Dq K H (n+1) (.ref a) (.ref b)
def c6c(K:Fg):R2:=fun x y H Q=>∃a b xs ys,x=.ref a/\y=.ref b/\SqT K H a xs/\SqT K H b ys/\xs.all O7=true/\ys.all O7=true/\Q (.bl (a0K xs ys)) H
theorem c3K{k:Nat}(hr:S0 k X.A):OpR X (z6 .Eq) (c6c X.K):=by
 intro pins s σ H x y v u Q I rx ry ⟨a,b,xs,ys,e1,e2,ha,hb,fx,fy,q⟩
 have hu:=hr.units
 subst e1 e2
 cases rx
 cases ry
 obtain⟨us,r1,t1,_⟩:=I.tuple ha
 obtain⟨ws,r2,t2,_⟩:=I.tuple hb
 have l1:=r1.length
 have l2:=r2.length
 have q1:=SeqAt.RcAt.tuples (A:=X.A) t1 t2 (by omega) (a7H r1 r2 fx fy)
 simp only[o5,<-l1,<-l2]at q1
 exact q1 _ _ _ _ ⟨.bl (a0K xs ys),H,I,rfl,q⟩
def c6b(K:Fg):R2:=fun x y H Q=>∃p xs,y=.ref p/\SqT K H p xs/\O7 x=true/\xs.all O7=true/\Q (.bl (inV x xs)) H
theorem c3J:OpR X (z6 .In) (c6b X.K):=b1K.imp fun x y H Q ⟨p,xs,e,h1,h2,h3,q⟩=>⟨p,xs,e,.inr h1,h2,h3,q⟩
theorem c0U{e c:Option Expr}:PS X (.Raise e c pos) (fun _ _ _=>False):=fun _ _ _ _ _ _ h=>h.elim
structure c5q(P:w4)(w:World)(K:Fg)(mg:Str->Option Value)(base:Heap)(k:Nat)(x:Str)(C:Addr)(ps:List Str)(sp:Sp):Prop where
 ex:∃f fd,F8 P w K mg base CX0 k f fd ps sp/\mg x=some (.ref C)/\Mk K C f/\a2r K fd ps []
structure a9v(P:w4)(w:World)(K:Fg)(mg:Str->Option Value)(base:Heap)(k:Nat)(m:Str)(C:Addr)(ps:List Str)(sp:Sp):Prop where
 ex:∃f fd,F8 P w K mg base CX0 k f fd ps sp/\Cls K C/\c7B K C m f/\a2r K fd ps []
theorem c6w{pl:Sem Bool}{k j:Nat}{m:Str}{C:Addr}{ps:List Str}{sp:Sp}{o e:Expr}{es:List Expr}{ta:TE}{t:TA}{apos:Pos}(M:a9v X.prog X.w X.K X.mg X.base k m C ps sp)(hr:S0 j X.A)(hk:k<=j)(ho:PE X o ta)(ha:PA X (e::es) t)
  (hst:j5 (e::es) X.env=(false,eval e X.env)::j5 es X.env:=by rfl) (hpl:(X9 pos (j5 es X.env)).any (·.1)=false:=by rfl)
  (ht:eval (.Call (.Attribute o m apos) (e::es) [] pos) X.env=(do
   let ov <-eval o X.env
   b9M apos.atName
   let(f,first) <-a3Z [ov] (b9N ov m pl)
   callWith pos f first (X9 pos (j5 (e::es) X.env)) (b3B pos (a4Y [] X.env))):=by rfl) :
  PE X (.Call (.Attribute o m apos) (e::es) [] pos) (b3U C m sp [] E0 ta t):=by
 obtain⟨f,fd,F,c,hm,hb⟩:=M.ex
 exact c3w (pl:=pl) ho c hm F (hr.mono hk) hb .nil c5i ha hst hpl ht
end
theorem a7v{env:Env}:∀ {names:List (Str×a6a)} {y:Str},names.lookup y=some .free ->
  (names.map fun(n,k)=>if(k == NameKind.free&&env.scope.kind == .function&&env.kindOf n == some .cell)then (n,NameKind.cell)else (n,k)).lookup y=some .cell \/
  (names.map fun(n,k)=>if(k == NameKind.free&&env.scope.kind == .function&&env.kindOf n == some .cell)then (n,NameKind.cell)else (n,k)).lookup y=some .free
 | [],_,h=>by cases h
 | (n,k0)::r,y,h=>by
  have ih := @a7v env r y
  rw[G9]at h
  rw[L6]
  dsimp only
  cases hx:y == n with
  | true=>
   rw[hx]at h
   cases h
   by_cases hc:(NameKind.free == NameKind.free&&env.scope.kind == .function&&env.kindOf n == some .cell)=true
   ·rw[if_pos hc,G9,hx];exact .inl rfl
   ·rw[if_neg hc,G9,hx];exact .inr rfl
  | false=>
   rw[hx]at h
   by_cases hc:(k0 == NameKind.free&&env.scope.kind == .function&&env.kindOf n == some .cell)=true
   ·rw[if_pos hc,G9,hx];exact ih h
   ·rw[if_neg hc,G9,hx];exact ih h
theorem b7K{sc1 sc:Scope}(h:∀y∈sc.names,y.2=.free->sc1.names.lookup y.1=some .free):∀y∈sc.names,y.2=.free->(a6o sc1 env).names.lookup y.1=some .cell\/(a6o sc1 env).names.lookup y.1=some .free:=
 fun y hy e=>a7v (h y hy e)
end L2
namespace PySem
open Sem (wp)
namespace F
end F
section
variable {prog:w4}{w:World}{A:D8}{E:Value->c9->Prop}{h:Heap}{g:Array GenState}{d:Drawn}{t:Nat}{os:OsState}{a:Addr}{xs:Array Value}{n:Nat}{sl:Array (Option Value)}
end
end PySem
namespace PySem
open Sem (wp)
namespace F
end F
section
variable {prog:w4}{w:World}{K:Type}[DecidableEq K]{knd:KeyKind prog w K}{A:D8}{s:c9}{R:b1p->c9->Prop}
end
section
variable {prog:w4}{w:World}{K:Type}[DecidableEq K]{knd:KeyKind prog w K}{A:D8}{E:Value->c9->Prop}{s:c9}
end
end PySem
namespace L2
open PySem PySem.Spec PyProof.Rows
section
variable {X:Cx}
end
section
variable {X:Cx}{tg:Expr}
end
section
variable {X:Cx}
end
section
variable {X:Cx}
def a5k:List V->Hp->VK->Prop:=fun xs H Q=>match xs with
 | [.ref p]=>match H p with
  | some (.lst ys)=>∀l,H l=none->Q (.ref l) (upd H l (.tup ys))
  | _=>False
 | _=>False
theorem b5h:V5 X (.type "tuple") a5k:=b1g.imp fun xs H Q h=>by
 unfold a5k at h
 split at h
 ·split at h
  ·exact⟨_,_,rfl,.inl ⟨SqL.of (by assumption),h⟩⟩
  ·exact h.elim
 ·exact h.elim
end
structure IsC(K:Fg)(C:Addr):Prop where
 cl:Cls K C
 ha:A0 K (.ref C) "__class__" = some (some (.builtin "object.__class__"))
 hn:a3J K (.builtin "object.__class__") "__get__" = some (some (.builtin "getset_descriptor.__get__"))
 htk:b0I K (.builtin "object.__class__")=some true
 hm:a2u K C (.type "object")=some true
section
variable {P:w4}{w:World}{K:Type}[DecidableEq K]{knd:HeapKind P w K}{A:D8}{E:Value->c9->Prop}{s:c9}
end
section
variable {X:Cx}
end
end L2
namespace PySem
open Sem (wp)
section
variable {prog:w4}{w:World}{A:D8}{E:Value->c9->Prop}{s:c9}
end
end PySem
namespace L2
open PySem PySem.Spec PyProof.Rows
section
variable {X:Cx}
end
end L2
namespace PySem
open Sem (wp)
section
variable {prog:w4}{w:World}{K:Type}[DecidableEq K]{knd:HeapKind prog w K}{A:D8}{s:c9}{R:b1p->c9->Prop}
end
section
variable {prog:w4}{w:World}{K:Type}[DecidableEq K]{knd:HeapKind prog w K}{A:D8}{E:Value->c9->Prop}{s:c9}
end
end PySem
namespace L2
open PySem PySem.Spec PyProof.Rows
variable{X:Cx}{pins:List (Addr×Obj)}{σ:St}{H:Hp}{s:c9}
section
end
section
variable {a:Addr}
end
abbrev XE:=List Key×Addr×V
section
variable {a b:Addr}{xs:List XE}{k:List Key}
end
section
variable {i o:Expr}{ti to:TE}
end
section
end
def Fly(h:Heap)(x T:Addr)(cls:Value)(dx:Option Addr)(fl:Value):Prop:=
 ∃oe vs oT ts,h.get? x=some oe/\(oe.cls=cls/\oe.dict=dx/\vs[2]? = some .none)/\oe.data=.fields vs/\vs[1]? = some (.ref T)/\T≠x/\h.get? T=some oT/\oT.data=.fields ts/\ts[3]? = some fl
def c8V(h:Heap)(x:Addr)(cls:Value)(dx:Option Addr):Prop:=∃oe vs,h.get? x=some oe/\(oe.cls=cls/\oe.dict=dx/\vs[2]? = some .none)/\oe.data=.fields vs/\vs[1]? = some .none
def Chg(fs:List Addr)(x T:Addr)(h h':Heap):Prop:=∀b o,h.get? b=some o->b≠x->b≠T->(b∉fs->h'.get? b=some o)/\∃sl,h'.get? b=some { o with slots:=sl }
section
variable {M:Model}{A:D8}{E:Value->c9->Prop}{base:Heap}{env:Env}{outer:List Env}{L x T:Addr}{cls fl:Value}{dx:Option Addr}
theorem b4S{oe:Obj}{vs:Array Value}{head:Value}{had:Bool}{Q:Unit->c9->Prop}(hfr:A.frames=some (env::outer))(hl:s.heap.FunFrames base (env::outer))(hf:env.frame=some L)(hx:s.heap.get? x=some oe)(hd:oe.data=.fields vs)(hsz:1<vs.size)(h2:vs[2]? = some .none)
  (nf:x∉frs (env::outer)) (h:∀h' T,s.heap.objs.size<=T->Fly h' x T oe.cls oe.dict (rawInt L)->Chg (frs (env::outer)) x T s.heap h'->Q () { s with heap:=h' }) :
  wpAny M A (do let a <-frameOf env;let pl <-entryPlaceOf L had;let b <-EntryCells.newEntry head a .none (rawInt L) .none pl;setField (.ref x) 1 b) Q E s:=by
 refine c7 (wpAny_frameOf_fun hfr hl hf fun h1 k1=>?_)
 refine c7 (wpAny_entryPlaceOf fun pl hpl=>?_)
 unfold EntryCells.newEntry newFields
 refine c7 (P9 ?_ (hpl.sizeOk5 _ _ _ _ _))
 have x1:h1.get? x=some oe:=(k1.2.1 x nf).trans hx
 obtain⟨ob,hob⟩:∃ob:Obj,ob={ cls:=.type "traceback",dict:=none,data:=.fields ([head,.ref L,.none,rawInt L,.none]++(if pl.isEmpty then g7 6 Value.none else pl)).toArray }:=⟨_,rfl⟩
 rw[<-hob]
 have ho3:∃ts,ob.data=.fields ts/\ts[3]? = some (rawInt L):=by
  subst hob
  refine⟨_,rfl,?_⟩
  first | (simp;done) | (rcases hpl with rfl | ⟨_,_,_,_,_,_,_,rfl⟩ <;> simp)
 have hnf:ob.isFreed=false:=by subst hob;rfl
 have x2:=d4 (h:=h1) ob x1
 have nT:h1.objs.size≠x:=a3I (h9 x1)
 refine wpAny_setField x2 hd hsz (h _ h1.objs.size (b0L k1.1.symm) ?_ fun b o e n1 n2=>?_)
 ·have d3:=Obj.data_mapFields hd (·.setIfInBounds 1 (Value.ref h1.objs.size))
  obtain⟨ts,t1,t2⟩:=ho3
  exact⟨_,_,ob,ts,W8 _ x2 (Obj.isFreed_of_fields d3),⟨Obj.cls_mapFields _ _,by obtain⟨c,d,dt,sl⟩:=oe;cases dt <;> rfl,by rw[Array.getElem?_setIfInBounds_ne (by decide)];exact h2⟩,d3,by simp[hsz],nT,by rw[M4 _ _ nT.symm];exact C3 h1 hnf,t1,t2⟩
 ·have go:∀o',h1.get? b=some o'->((h1.push ob).update x (Obj.mapFields (·.setIfInBounds 1 (Value.ref h1.objs.size)))).get? b=some o':=fun o' e'=>by
   rw[M4 _ _ (Ne.symm n1)];exact d4 _ e'
  refine⟨fun hb=>go o ((k1.2.1 b hb).trans e),?_⟩
  obtain⟨sl,e2⟩:=k1.2.2 b o e
  exact⟨sl,go _ e2⟩
theorem c4a{Q:Unit->c9->Prop}(hfr:A.frames=some (env::outer))(hl:s.heap.FunFrames base (env::outer))(hf:env.frame=some L)(nf:x∉frs (env::outer))
  (hx:c8V s.heap x cls dx\/∃T,Fly s.heap x T cls dx .none/\T∉frs (env::outer))
  (h:∀h' T',s.heap.objs.size<=T'->Fly h' x T' cls dx (rawInt L)->(∀b o,s.heap.get? b=some o->b≠x->(∀T,Fly s.heap x T cls dx .none->b≠T)->(b∉frs (env::outer)->h'.get? b=some o)/\∃sl,h'.get? b=some { o with slots:=sl })->(∀b o,s.heap.get? b=some o->∃o',h'.get? b=some o')->Q () { s with heap:=h' }) :
  wpAny M A (noteFrame (.ref x) env) Q E s:=by
 rcases hx with ⟨oe,vs,he,⟨rfl,rfl,h2⟩,hd,h1⟩ | ⟨T,⟨oe,vs,oT,ts,he,⟨rfl,rfl,h2⟩,hd,h1,hTx,hT,hdT,h3⟩,nfT⟩
 ·unfold noteFrame
  simp only[hf]
  refine c7 (a2x he hd h1 ?_)
  rw[if_neg (by decide)]
  refine b4S hfr hl hf he hd (a0M.mp h1).1 h2 nf fun h' T' t1 t2 t3=>h h' T' t1 t2 (fun b o e n _=>t3 b o e n fun z=>D4 _ (v0 (h9 e) (by rw[z];exact t1))) fun b o e=>?_
  by_cases hb:b=x
  ·obtain⟨o',_,_,_,q,_⟩:=t2
   exact⟨o',by rw[hb];exact q⟩
  ·obtain⟨_,sl,q⟩:=t3 b o e hb fun z=>D4 _ (v0 (h9 e) (by rw[z];exact t1))
   exact⟨_,q⟩
 ·unfold noteFrame
  simp only[hf]
  refine c7 (a2x he hd h1 ?_)
  rw[if_pos (show(Value.ref T != Value.none)=true from by simp)]
  refine c7 (a2x hT hdT h3 ?_)
  rw[if_neg (show ¬((Value.none == rawInt L)=true)from by simp[rawInt])]
  refine c7 (wpAny_setField hT hdT (a0M.mp h3).1 ?_)
  have oth:∀b,b≠T->(s.heap.update T (Obj.mapFields (·.setIfInBounds 3 Value.none))).get? b=s.heap.get? b:=fun b hb=>M4 _ _ (Ne.symm hb)
  have tT:∃o',(s.heap.update T (Obj.mapFields (·.setIfInBounds 3 Value.none))).get? T=some o':=⟨_,W8 _ hT (Obj.isFreed_of_fields (Obj.data_mapFields hdT _))⟩
  have isT:∀T2,Fly s.heap x T2 oe.cls oe.dict .none->T2=T:=fun T2 ⟨oe',vs',_,_,a1,_,a2,a3,_⟩=>by
   rw[he]at a1;cases a1
   rw[hd]at a2;cases a2
   rw[h1]at a3;cases a3
   rfl
  have hsz:(s.heap.update T (Obj.mapFields (·.setIfInBounds 3 Value.none))).objs.size=s.heap.objs.size:=b0Q ..
  refine b4S hfr (hl.of_keeps fun b o hb hnf=>⟨o,(oth b fun q=>by rw[q,hT]at hb;cases hb;exact hnf ts hdT).trans hb,rfl⟩) hf ((oth x (Ne.symm hTx)).trans he) hd (a0M.mp h1).1 h2 nf fun h' T' t1 t2 t3=>h h' T' (by rw[<-hsz];exact t1) t2 (fun b o e n n2=>?_) fun b o e=>?_
  ·have nb:b≠T:=n2 T ⟨oe,vs,oT,ts,he,⟨rfl,rfl,h2⟩,hd,h1,hTx,hT,hdT,h3⟩
   exact t3 b o ((oth b nb).trans e) n fun z=>D4 _ (v0 (h9 e) (by rw[z,<-hsz];exact t1))
  ·by_cases hb:b=x
   ·obtain⟨o',_,_,_,q,_⟩:=t2
    exact⟨o',by rw[hb];exact q⟩
   ·by_cases hbT:b=T
    ·obtain⟨o',q⟩:=tT
     rw[hbT]
     obtain⟨_,sl,q2⟩:=t3 T o' q hTx fun z=>D4 _ (v0 (h9 q) (F3 t1 (b0L z.symm)))
     exact⟨_,q2⟩
    ·obtain⟨_,sl,q2⟩:=t3 b o ((oth b hbT).trans e) hb fun z=>D4 _ (v0 (h9 e) (by rw[z,<-hsz];exact t1))
     exact⟨_,q2⟩
theorem b9f{Q:Unit->c9->Prop}(hx:Fly s.heap x T cls dx fl)(h:∀h',Fly h' x T cls dx .none->(∀b,b≠T->h'.get? b=s.heap.get? b)->h'.objs.size=s.heap.objs.size->Q () { s with heap:=h' }):wpAny M A (setFlight (.ref x) none) Q E s:=by
 obtain⟨oe,vs,oT,ts,he,hc,hd,h1,hTx,hT,hdT,h3⟩:=hx
 have hsz:3<ts.size:=(a0M.mp h3).1
 have oth:∀b,b≠T->(s.heap.update T (Obj.mapFields (·.setIfInBounds 3 Value.none))).get? b=s.heap.get? b:=fun b hb=>M4 _ _ (Ne.symm hb)
 refine wpAny_setFlight_none he hd h1 hT hdT hsz (h _ ⟨oe,vs,_,_,(oth x (Ne.symm hTx)).trans he,hc,hd,h1,hTx,W8 _ hT (Obj.isFreed_of_fields (Obj.data_mapFields hdT _)),Obj.data_mapFields hdT _,by simp[hsz]⟩ oth (b0Q ..))
end
section
variable {x T:Addr}{cls fl:Value}{dx:Option Addr}
theorem Inv.flown{h':Heap}{ch:List Addr}(I:Inv X pins σ H s)(hch:∀b∈ch,a0E X pins H b)
  (k:∀b o,s.heap.get? b=some o->b∉ch->(b∉frs X.stack->h'.get? b=some o)/\∃sl,h'.get? b=some { o with slots:=sl }):Inv X pins σ H { s with heap:=h' }:=by
 have nc:∀c u,H c=some u->c∉ch:=fun c u e z=>by
  have:=(hch c z).1
  rw[e]at this;cases this
 have nf:∀c u,H c=some u->c∉frs X.stack:=fun c u e z=>by
  have:=I.stkFree c z
  rw[e]at this;cases this
 refine I.call (H':=H) (g':=s.gens) (t':=s.toks) (d':=s.drawn) (ch:=ch) ⟨fun b o e n hb hc=>(k b o e hc).1 hb,fun b o e n hb hc=>(k b o e hc).2,fun b o e n hc=>n,fun b o e hc=>let⟨_,q⟩:=(k b o e hc).2; ⟨_,q⟩,fun _ _ e=>e,fun _ _ _ e=>e,fun b ps e=>⟨#[],by rw[e];simp⟩⟩ (fun b u e=>?_) I.bare fun b hb=>?_
 ·refine(I.hok b u e).stay (fun c v hc q=>?_) (fun _ q=>q) fun _ _ q=>q
  rcases hc with z | z
  ·subst z
   exact(k c v q (nc c u e)).1 (nf c u e)
  ·exact(k c v q (nc c _ z)).1 (nf c _ z)
 ·obtain⟨_,n1,_,n3,n4,n5⟩:=hch b hb
  exact⟨n3,n1,n4,n5⟩
theorem a0E.nst(I:Inv X pins σ H s)(f:a0E X pins H x):x∉frs X.stack:=fun z=>by
 rcases o0.mp (I.stkSub x z)with e | e
 ·exact f.2.1 e
 ·exact f.2.2.1 e
structure Out(X:Cx)(pins:List (Addr×Obj))(σ:St)(H:Hp)(s:c9)(x:Addr)(cls:Value)(dx:Option Addr):Prop where
 inv:Inv X pins σ H s
 fx:a0E X pins H x
 fl:c8V s.heap x cls dx\/∃T,a0E X pins H T/\Fly s.heap x T cls dx .none
structure c7E(X:Cx)(pins:List (Addr×Obj))(σ:St)(H:Hp)(s:c9)(x:Addr)(cls:Value)(dx:Option Addr)(fl:Value):Prop where
 inv:Inv X pins σ H s
 fx:a0E X pins H x
 fl:∃T,a0E X pins H T/\Fly s.heap x T cls dx fl
theorem b4z{M:Model}{E:Value->c9->Prop}{Q:Unit->c9->Prop}(hst:X.stack=X.env::X.outer)(hf:X.env.frame=some X.env.locals)(o:Out X pins σ H s x cls dx)(h:∀s',c7E X pins σ H s' x cls dx (rawInt X.env.locals)->Q () s'):wpAny M X.A (noteFrame (.ref x) X.env) Q E s:=by
 have I:=o.inv
 have hl:=I.stack
 have hfr:=I.ok.frames
 have nx:=o.fx.nst I
 rw[hst]at hl hfr nx
 refine c4a hfr hl hf nx (o.fl.imp id fun⟨T,f1,f2⟩=>⟨T,f2,by rw[<-hst];exact f1.nst I⟩) fun h' T' t1 t2 t3 t4=>?_
 have nT:H T'=none:=I.hok.fresh t1
 rcases o.fl with f | ⟨T,f1,f2⟩
 ·have J:Inv X pins σ H { s with heap:=h' }:=I.flown (ch:=[x]) (fun b hb=>by rw[g6.mp hb];exact o.fx) fun b ob e n=>by
   rw[hst]
   refine t3 b ob e (fun z=>n (by simp[z])) fun T g z=>?_
   obtain⟨oe,vs,a1,_,a2,a3⟩:=f
   obtain⟨oe',vs',_,_,b1,_,b2,b3,_⟩:=g
   rw[a1]at b1;cases b1
   rw[a2]at b2;cases b2
   rw[a3]at b3;cases b3
  exact h _ ⟨J,o.fx,T',I.fpOk t1 nT,t2⟩
 ·have J:Inv X pins σ H { s with heap:=h' }:=I.flown (ch:=[x,T]) (fun b hb=>by
   simp only[o0,E9,or_false]at hb
   rcases hb with rfl | rfl
   ·exact o.fx
   ·exact f1) fun b ob e n=>by
   rw[hst]
   refine t3 b ob e (fun z=>n (by simp[z])) fun T2 f z=>n ?_
   obtain⟨oe,vs,_,_,a1,_,a2,a3,_⟩:=f2
   obtain⟨oe',vs',_,_,b1,_,b2,b3,_⟩:=f
   rw[a1]at b1;cases b1
   rw[a2]at b2;cases b2
   rw[a3]at b3;cases b3
   simp[z]
  exact h _ ⟨J,o.fx,T',I.fpOk t1 nT,t2⟩
theorem a6K{M:Model}{A:D8}{E:Value->c9->Prop}{Q:Unit->c9->Prop}(o:c7E X pins σ H s x cls dx fl)(h:∀s',c7E X pins σ H s' x cls dx .none->Q () s'):wpAny M A (setFlight (.ref x) none) Q E s:=by
 obtain⟨T,f1,f2⟩:=o.fl
 refine b9f f2 fun h' g1 g2 g3=>h _ ⟨o.inv.flown (ch:=[T]) (fun b hb=>by rw[g6.mp hb];exact f1) fun b ob e n=>?_,o.fx,T,f1,g1⟩
 have q:=(g2 b fun z=>n (by simp[z])).trans e
 exact⟨fun _=>q,ob.slots,q⟩
end
def CX1(P:w4)(w:World):CXT:=fun outer H s E e s'=>∃x T cls dx H',e=.ref x/\s'.os=s.os/\a9B s'.gens/\Un (frs outer) [] H H' s.heap s'.heap/\HOk P w H' s'.heap/\(s.heap.objs.size<=x/\s.heap.objs.size<=T)/\(H' x=none/\H' T=none)/\Fly s'.heap x T cls dx .none/\E cls dx H'
def Wi(X:Cx)(E:St->XK):Prop:=∀(pins:List (Addr×Obj)) (σ:St) (H:Hp) (s:c9) (x:Addr) (cls:Value) (dx:Option Addr),Out X pins σ H s x cls dx->E σ cls dx H->X.xe (.ref x) s
theorem c1n{s':c9}{E:XK}{e:Value}(I:Inv X pins σ H s)(c:CX1 X.prog X.w X.stack H s E e s'):∃x cls dx H',e=.ref x/\Out X pins σ H' s' x cls dx/\E cls dx H':=by
 obtain⟨x,T,cls,dx,H',rfl,os,bare,un,hok,⟨n1,n2⟩,⟨m1,m2⟩,f,e⟩:=c
 have J:Inv X pins σ H' s':=I.call' os un hok bare (ch:=[]) fun b z=>absurd z (by simp)
 exact⟨x,cls,dx,H',rfl,⟨J,I.fpOk n1 m1,.inr ⟨T,I.fpOk n2 m2,f⟩⟩,e⟩
theorem a3y{P:w4}{w:World}{K:Fg}{mg:Str->Option Value}{base:Heap}{N:List Str}{qual:Str}{scope:Scope}{f:Addr}{cd:Value}{A:D8}{outer:List Env}{s₀:c9}{H₀:Hp}{E:XK} :
  Wi (a5T (CX1 P w) P w K mg base N qual scope f cd A outer s₀ H₀ E) fun _=>E:=by
 intro pins σ H s x cls dx o q
 show wpAny _ _ (leaving _ _) _ _ _
 unfold leaving
 refine c7 (b4z (X:=a5T (CX1 P w) P w K mg base N qual scope f cd A outer s₀ H₀ E) rfl rfl o fun s1 h1=>?_)
 refine a6K h1 fun s2 h2=>?_
 obtain⟨T,g1,g2⟩:=h2.fl
 have old:∀b,a0E (a5T (CX1 P w) P w K mg base N qual scope f cd A outer s₀ H₀ E) pins H b->s₀.heap.objs.size<=b:=fun b h=>h.2.2.2.1.elim (fun z=>absurd z (by simp[a5T])) id
 exact⟨x,T,cls,dx,H,rfl,h2.inv.os,h2.inv.bare,h2.inv.base,h2.inv.hok,⟨old _ h2.fx,old _ g1⟩,⟨h2.fx.1,g1.1⟩,g2,q⟩
end L2
namespace L2
open PySem PySem.Spec PyProof.Rows PySem.W
def VEs:List Value:=[.type "ValueError",.type "Exception",.type "BaseException",.type "object"]
def b6j:List Value->Bool
 | .ref _::r=>b6j r
 | l=>l == VEs
theorem b1F(self:Value):∀ {l:List Value},b6j l=true->refuseLoop self "__setattr__" l=pure ()
 | .ref c::r,e=>by rw[refuseLoop_ref];exact b1F self (l:=r) e
 | [],e=>by cases (beq_iff_eq.mp (show(([]:List Value) == VEs)=true from e))
 | .none::r,e=>by have:=beq_iff_eq.mp (show((Value.none::r) == VEs)=true from e);cases this
 | .type n::r,e=>by
  have:=beq_iff_eq.mp (show((Value.type n::r) == VEs)=true from e)
  rw[this]
  exact PySem.F.store_ValueError.passes self
 | .bool n::r,e=>by have:=beq_iff_eq.mp (show((Value.bool n::r) == VEs)=true from e);cases this
 | .int n t::r,e=>by have:=beq_iff_eq.mp (show((Value.int n t::r) == VEs)=true from e);cases this
 | .float n t::r,e=>by have:=beq_iff_eq.mp (show((Value.float n t::r) == VEs)=true from e);cases this
 | .str n t::r,e=>by have:=beq_iff_eq.mp (show((Value.str n t::r) == VEs)=true from e);cases this
 | .bytes n t::r,e=>by have:=beq_iff_eq.mp (show((Value.bytes n t::r) == VEs)=true from e);cases this
 | .builtin n::r,e=>by have:=beq_iff_eq.mp (show((Value.builtin n::r) == VEs)=true from e);cases this
 | .ellipsis::r,e=>by have:=beq_iff_eq.mp (show((Value.ellipsis::r) == VEs)=true from e);cases this
 | .notImplemented::r,e=>by have:=beq_iff_eq.mp (show((Value.notImplemented::r) == VEs)=true from e);cases this
def b2l(K:Frag)(C:Addr):Bool:=(clsIn K C).any fun cd=>b6j cd.mro&&cd.mro.contains (.type "object") && !cd.mro.isEmpty
section
variable {prog:w4}{w:World}{A:D8}{E:Value->c9->Prop}{R:b1p->c9->Prop}{s:c9}{K:Frag}{x C:Addr}{name:Str}{v:Value}
theorem c3E{ox:Obj}{od:Option Obj}{tk:Tok}(X:K.In s.heap)(I:InstAt s.heap x ox C od)(hp:b2l K C=true)(ht:findIn K (.ref C) name=some none)
  (h:wpAny (model prog w) A.in1 (Builtin.ObjectAttr.storeInOwnDict (.ref x) (.ref C) (.str name tk) name v false)
   (fun fin s'=>match fin with | .done f=>R (.ok f) s' | .again c'=>c'.quiet=true/\a1U (model prog w) A c' R s') (fun e s'=>R (.error e) s') s) :
  a1U (model prog w) A (.call (.builtin "object.__setattr__") ⟨[.ref x,.str name tk,v],[]⟩) R s:=by
 have SF:=PySem.F.store_object
 obtain⟨cd,hc,ho⟩:=any_some hp
 simp only[F5,a4D]at ho
 obtain⟨⟨ho,hob⟩,ne⟩:=ho
 have sub:Looks (model prog w) s.heap (isInstance (.ref x) (.type "object")) true:=I.type.andThen (looks_mroIn X (by unfold mroIn;rw[hc,a9x,if_neg (by rw[ne];decide),hob]))
 refine codeAny_call_builtin SF.slot.plain SF.entry (@check_slot (model prog w) _ _ s "object.__setattr__" "object" "__setattr__" (.ref x) [.str name tk,v] [] _ SF.kind SF.split sub (SF.args (.ref x) (.str name tk) v) ?_)
 have hm:Looks (model prog w) s.heap (mroOf (.ref C)) cd.mro:=(looks_clsIn X hc).andThen .now
 rw[osa_eq,refuse_eq]
 refine c7 (c7 (I.type.here (c7 (hm.here ?_))))
 rw[b1F _ ho]
 refine y9 (c7 (I.type.here (c7 ((looks_findIn X ht).here (c7 (y9 ?_))))))
 exact h
end
end L2
namespace L2
open PySem PySem.Spec PyProof.Rows PySem.W
section
variable {prog:w4}{w:World}{A:D8}{E:Value->c9->Prop}{R:b1p->c9->Prop}{s:c9}{K:Frag}{x C:Addr}{name:Str}{v:Value}
theorem c2T{vs:Array Value}{sl:Array (Option Value)}{Q:Unit->c9->Prop}(X:K.In s.heap)(hx:s.heap.get? x=some ⟨.ref C,none,.fields vs,sl⟩)
  (hs:findIn K (.ref C) "__setattr__" = some (some (.builtin "object.__setattr__"))) (hp:b2l K C=true) (ht:findIn K (.ref C) name=some none) (hh:hasDictIn K C=true)
  (h:∀h' tk,h'.get? x=some ⟨.ref C,some s.heap.objs.size,.fields vs,sl⟩->h'.Ns1 s.heap.objs.size (fun y=>if y=name then some v else none)->(∀b o,b≠x->s.heap.get? b=some o->h'.get? b=some o)->Q () { s with heap:=h',toks:=tk }) :
  wpAny (model prog w) A (setAttr (.ref x) name v) Q E s:=by
 have J:InstAt s.heap x ⟨.ref C,none,.fields vs,sl⟩ C none:=⟨hx,rfl,rfl,trivial⟩
 refine set_plain X J hs (c3E (s:={ s with toks:=s.toks+1 }) X J hp ht ?_)
 obtain⟨cd,hc,hd'⟩:=any_some hh
 refine c7 (y9 (c7 (c7 (wpAny_loadPart hx (c7 (Looks.here (s:={ s with toks:=s.toks+1 }) (looks_clsIn X hc) ?_))))))
 rw[hd']
 have hxs:x≠s.heap.objs.size:=v5 (h9 hx)
 have hx1:(s.heap.push { cls:=.type "dict",data:=.dict #[] }).get? x=some ⟨.ref C,none,.fields vs,sl⟩:=d4 _ hx
 refine c7 (wpAny_alloc ?_)
 refine c7 (wpAny_update hx1 ?_)
 refine y9 ?_
 have hgd:((s.heap.push { cls:=.type "dict",data:=.dict #[] }).update x fun o=>{ o with dict:=some s.heap.objs.size }).get? s.heap.objs.size=some { cls:=.type "dict",data:=.dict #[] }:=
  (c2s _ _ _ _ hxs.symm).trans (Heap.get?_push_at rfl rfl)
 have hnd:((s.heap.push { cls:=.type "dict",data:=.dict #[] }).update x fun o=>{ o with dict:=some s.heap.objs.size }).Ns s.heap.objs.size (fun _=>none):=
  ⟨_,#[],_,hgd,rfl,fun e he=>absurd he (by simp),fun _=>rfl⟩
 unfold Builtin.ObjectAttr.storeInDict Builtin.ObjectAttr.newKeyGuard
 refine c7 (y9 (c7 (wpAny_nsSet1 (b9C hnd) fun h' hn' hs'=>?_)))
 obtain⟨oD,esD,epD,hoD,hdD,hcD⟩:=hn'.count (Within.cons name v Within.nil)
 refine c7 (wpAny_lookBehind hoD (by rw[hdD];exact pastItsLine_dict (F3 hcD (by rw[z9,a3h,sizeLine_eq];omega))) ?_)
 refine y9 ?_
 refine h h' _ ((hs'.2 x hxs).trans (W8 _ hx1 rfl)) hn' fun b o nb hb=>?_
 exact(hs'.2 b (v5 (h9 hb))).trans ((c2s _ _ _ _ nb).trans (d4 _ hb))
end
end L2
namespace L2
open PySem PySem.Spec PyProof.Rows PySem.W
variable{h:Heap}
def a8Z(K:Frag)(C:Addr):Bool:=match K.lookup C with
 | some ⟨.type "type",_,.cls cd,sl⟩=>(match cd.mro,sl.toList with
  | .ref C'::bm,[_,_,_,_,some (.builtin n),_]=>C' == C&&n == "ValueError.__new__" && !cd.hasDel&&tailIn K VEs bm
  | _,_=>false)
 | _=>false
theorem b7d{K:Frag}{C:Addr}(X:K.In h)(e:a8Z K C=true):∃bm N nm q bs hd sn sub ab col dd k0 k1 k2 k3 k5,h.get? C=some (excClassObj nm q C N bs bm hd sn sub ab col dd k0 k1 k2 k3 k5 "ValueError.__new__")/\OwnTail h VEs bm:=by
 unfold a8Z at e
 split at e
 ·rename_i dd cd sl ho
  split at e
  ·rename_i C' bm k0 k1 k2 k3 n k5 hm hs
   simp only[F5,beq_iff_eq,a4D]at e
   obtain⟨⟨⟨rfl,rfl⟩,hdel⟩,ht⟩:=e
   obtain⟨nm,bs,mro,ns,qn,hd,sn,sub,ab,col,del⟩:=cd
   dsimp only at hm hdel
   subst hm hdel
   have hsl:sl = #[k0,k1,k2,k3,some (.builtin "ValueError.__new__"),k5]:=by
    obtain⟨l⟩:=sl
    simp only at hs
    rw[hs]
   subst hsl
   exact⟨bm,ns,nm,qn,bs,hd,sn,sub,ab,col,dd,k0,k1,k2,k3,k5,X _ _ ho,tail_of_in X ht⟩
  ·cases e
 ·cases e
section
variable {prog:w4}{w:World}{A:D8}{E:Value->c9->Prop}{s:c9}{K:Frag}{C:Addr}
def a0W(h:Heap)(C:Addr)(rest:List Value):Heap:=(h.push { cls:=.type "tuple",data:=.seq rest.toArray }).push { cls:=.ref C,data:=.fields #[.ref h.objs.size,.none,.none,.none,.bool false,.none] }
theorem a4q{rest:List Value}{b:Addr}{o:Obj}(e:h.get? b=some o):(a0W h C rest).get? b=some o:=d4 _ (d4 _ e)
theorem b0w{rest:List Value}:(a0W h C rest).get? (h.objs.size+1)=some ⟨.ref C,none,.fields #[.ref h.objs.size,.none,.none,.none,.bool false,.none],#[]⟩:=by
 unfold a0W;heap_get
variable {g:Array GenState}{d:Drawn}{t:Nat}{os:OsState}
theorem b0T{fI:Addr}{rest:List Value}{Q:Fin->c9->Prop}(X:K.In h)(hx:a8Z K C=true)(hi:findIn K (.ref C) "__init__" = some (some (.ref fI)))(hf:typeIn K (.ref fI)=some (.type "function"))(hrest:rest.length<=t6)
  (hq:wpAny (model prog w) A (call (.ref fI) (.ref (h.objs.size+1)::rest)) (fun r s'=>r=.none/\Q (.done (.ret (.ref (h.objs.size+1)))) s') E ⟨a0W h C rest,g,d,t,os⟩) :
  wpAny (model prog w) A (Builtin.«type.__call__» ⟨.ref C::rest,[]⟩) Q E ⟨h,g,d,t,os⟩:=by
 obtain⟨bm,N,nm,q,bs,hd,sn,sub,ab,col,dd,k0,k1,k2,k3,k5,hC,T⟩:=b7d X hx
 have F:=PySem.F.excBase_ValueError
 have hBn:VEs.contains (.type "ValueError")=true:=by decide +kernel
 have X1:K.In (a0W h C rest):=X.keeps fun b o e=>a4q e
 repeat (first | with_reducible refine wpAny_loadPart_at hC ?_ | with_reducible refine wpAny_madeBy_exc hC ?_ | wp_step)
 refine codeAny_call_builtin_code (Code.quiet_builtin _ F.quiet) (wpAny_check_new_subU F hBn T hC ?_)
 refine codeAny_exc_new_subU F hBn F T hC ?_ hrest
 show wpAny _ _ _ _ _ ⟨a0W h C rest,g,d,t,os⟩
 have hC1:(a0W h C rest).get? C=some (excClassObj nm q C N bs bm hd sn sub ab col dd k0 k1 k2 k3 k5 "ValueError.__new__"):=a4q hC
 have hget:(a0W h C rest).get? (h.objs.size+1)=some ⟨.ref C,none,.fields #[.ref h.objs.size,.none,.none,.none,.bool false,.none],#[]⟩:=b0w
 have hcC:(Value.ref C::bm).contains (.ref C)=true:=by simp
 unfold isInstance
 repeat (first | with_reducible refine wpAny_loadPart_at hget ?_ | (with_reducible refine wpAny_isSubtype_exc hC1 ?_;rw[hcC]) | wp_step)
 show wpAny _ _ (typeLookup (.ref C) _) _ _ _
 refine(looks_findIn X1 hi).at ?_
 refine W9 (c7 ((bind_fn X1 _ hf).at ?_))
 refine c7 (O8 hq (fun r s' hr=>?_) fun _ _ x=>x)
 obtain⟨rfl,hQ⟩:=hr
 wp_walk
 exact hQ
theorem b3j{fI:Addr}{rest:List Value}{Q:Value->c9->Prop}(X:K.In h)(hx:a8Z K C=true)(hi:findIn K (.ref C) "__init__" = some (some (.ref fI)))(hf:typeIn K (.ref fI)=some (.type "function"))(hrest:rest.length<=t6)
  (hq:wpAny (model prog w) (A.under (.builtin "type.__call__" ⟨.ref C::rest,[]⟩)) (call (.ref fI) (.ref (h.objs.size+1)::rest)) (fun r s'=>r=.none/\Q (.ref (h.objs.size+1)) s') E ⟨a0W h C rest,g,d,t,os⟩) :
  wpAny (model prog w) A (call (.ref C) rest) Q E ⟨h,g,d,t,os⟩:=by
 obtain⟨bm,N,nm,q,bs,hd,sn,sub,ab,col,dd,k0,k1,k2,k3,k5,hC,T⟩:=b7d X hx
 have f1:=tc_lookup
 have f2:=tc_bind (.ref C)
 have hT:(⟨h,g,d,t,os⟩:c9).TypeIs (.ref C) "type" := ⟨_,hC,rfl⟩
 refine wpAny_call (codeAny_of_tree ?_)
 show wpAny _ _ (callAny (.ref C) _) _ _ _
 repeat (any_goals (first | assumption | with_reducible refine wpAny_loadPart_at hC ?_ | wp_step))
 refine⟨rfl,?_⟩
 exact codeAny_call_builtin_at (Code.quiet_builtin _ (by decide +kernel)) entry_typeCall (wpAny_check_type_call_sub hC (b0T X hx hi hf hrest hq))
end
end L2
namespace L2
open PySem PySem.Spec PyProof.Rows PySem.W
def xo(x C:Addr)(dx:Option Addr):HO:=.ext fun h=>∃tu,h.get? x=some ⟨.ref C,dx,.fields #[.ref tu,.none,.none,.none,.bool false,.none],#[]⟩
structure b5l(K:Frag)(C:Addr):Prop where
 xc:a8Z K C=true
 sa:findIn K (.ref C) "__setattr__" = some (some (.builtin "object.__setattr__"))
 ve:b2l K C=true
 hd:hasDictIn K C=true
 kp:keepIn K (.ref C)=true
section
variable {P:w4}{w:World}{X:Cx}{pins:List (Addr×Obj)}{σ:St}{H:Hp}{s:c9}{a C:Addr}{f:Str}
theorem c4W{h:Heap}{dx:Option Addr}(e:∃tu,h.get? a=some ⟨.ref C,dx,.fields #[.ref tu,.none,.none,.none,.bool false,.none],#[]⟩):T9 P w H h a (xo a C dx):=
 ⟨e,let⟨_,q⟩:=e; ⟨_,q⟩,fun _ _ ⟨tu,q⟩ k=>⟨tu,k _ q⟩⟩
theorem c2S{A:D8}{E:Value->c9->Prop}{y:V}{u:Value}{Q:Unit->c9->Prop}(I:Inv X pins σ H s)(e:H a=some (xo a C none))(c:b5l X.K C)(n:findIn X.K (.ref C) f=some none)(ry:F0 y u)
  (h:∀s' d,H d=none->d≠a->Inv X pins σ (upd (upd H d (.xd [(f,y)])) a (xo a C (some d))) s'->Q () s'):wpAny (model X.prog X.w) A (setAttr (.ref a) f u) Q E s:=by
 obtain⟨⟨tu,hx⟩,_⟩:T9 X.prog X.w H s.heap a (xo a C none):=I.hok a _ e
 refine c2T I.kIn hx c.sa c.ve n c.hd fun h' tk e1 e2 e3=>?_
 have hd:H s.heap.objs.size=none:=I.hok.fresh (j9 _)
 have nd:s.heap.objs.size≠a:=a3I (h9 hx)
 have na:∀b u,H b=some u->(∀φ,u≠.ext φ)->b≠a:=fun b u q z1 z2=>by
  subst z2
  rw[e]at q
  cases q
  exact z1 _ rfl
 refine h _ s.heap.objs.size hd nd (I.un (h':=h') (t':=tk) ⟨fun b o q z _ _=>e3 b o (fun z2=>by rw[z2,e]at z;cases z) q,fun b o q z _ _=>⟨o.slots,e3 b o (fun z2=>by rw[z2,e]at z;cases z) q⟩,fun b o q z _=>?_,fun b o q _=>?_,fun b xs q=>?_,fun b o u q=>?_,fun b ps q=>⟨#[],?_⟩⟩ fun b o q=>?_)
 ·rw[j7 (fun z2=>by rw[z2,e]at z;cases z),j7 (v5 (h9 q))];exact z
 ·by_cases hb:b=a
  ·subst hb;exact⟨_,e1⟩
  ·exact⟨o,e3 b o hb q⟩
 ·rw[j7 (na b _ q fun φ z=>by cases z),j7 (d5 q hd)];exact q
 ·rw[j7 (na b _ q fun φ z=>by cases z),j7 (d5 q hd)];exact q
 ·rw[j7 (na b _ q fun φ z=>by cases z),j7 (d5 q hd),q];simp
 ·by_cases hb:b=a
  ·subst hb
   rw[g9]at q
   cases q
   exact c4W ⟨tu,e1⟩
  ·rw[j7 hb]at q
   by_cases hbd:b=s.heap.objs.size
   ·subst hbd
    rw[g9]at q
    cases q
    refine⟨_,e2,fun g=>?_⟩
    by_cases hg:g=f
    ·subst hg
     simp only[if_true]
     show a4Q (V2 g [(g,y)]) (some u)
     simp[V2,a4Q]
     exact ry
    ·simp only[hg,if_false]
     show a4Q (V2 g [(f,y)]) none
     have:(g == f)=false:=beq_eq_false_iff_ne.mpr hg
     simp[V2,this,a4Q]
   ·rw[j7 hbd]at q
    refine(I.hok b o q).stay (fun c v hc z=>e3 c v ?_ z) (fun c z=>?_) fun c xs z=>?_
    ·rcases hc with rfl | hc
     ·exact hb
     ·exact na c _ hc fun φ z=>by cases z
    ·rw[j7 (na c _ z fun φ z=>by cases z),j7 (d5 z hd)];exact z
    ·rw[j7 (na c _ z fun φ z=>by cases z),j7 (d5 z hd)];exact z
end
end L2
namespace L2
open PySem PySem.Spec PyProof.Rows PySem.W
def del(H:Hp)(a:Addr):Hp:=fun b=>if b=a then none else H b
theorem b0x{H:Hp}{a:Addr}:del H a a=none:=by unfold del;rw[if_pos rfl]
theorem a4r{H:Hp}{a b:Addr}(h:b≠a):del H a b=H b:=by unfold del;rw[if_neg h]
def b1D(K:Frag)(ta tv:TE)(f:Str):TS:=fun D σ H=>tv σ H fun y H1=>ta σ H1 fun x H2=>∃a C,x=.ref a/\H2 a=some (xo a C none)/\b5l K C/\findIn K (.ref C) f=some none /\
 ∀d,H2 d=none->d≠a->D.nx σ (upd (upd H2 d (.xd [(f,y)])) a (xo a C (some d)))
section
variable {X:Cx}{pins:List (Addr×Obj)}{σ:St}{H:Hp}{s:c9}{a C:Addr}{f:Str}{o value:Expr}{ta tv:TE}{pos pos':Pos}
theorem c3l(ha:PE X o ta)(hv:PE X value tv)(hs:a1w value (some (.Attribute o f pos')) pos.line X.env=pure false):PS X (.Assign [.Attribute o f pos'] value pos) (b1D X.K ta tv f):=by
 intro pins s σ H D I h
 refine plainObj_wpAny_Assign_Attribute (thn (hv pins s σ H _ I h) fun u s1 ⟨y,H1,I1,ry,q⟩=>thn (ha pins s1 σ H1 _ I1 q) fun ov s2 ⟨x,H2,I2,rx,a,C,ex,ea,c,n,q2⟩=>?_) hs
 subst ex
 obtain rfl:ov=Value.ref a:=rx
 exact c2S I2 ea c n ry fun s3 d d1 d2 I3=>⟨σ,_,I3,q2 d d1 d2⟩
theorem Inv.del{dx:Option Addr}(I:Inv X pins σ H s)(e:H a=some (xo a C dx)):Inv X pins σ (del H a) s:=by
 have na:∀b u,H b=some u->(∀φ,u≠.ext φ)->b≠a:=fun b u q z1 z2=>by
  subst z2
  rw[e]at q
  cases q
  exact z1 _ rfl
 have no:∀b,H b=none->L2.del H a b=none:=fun b q=>by
  by_cases hb:b=a
  ·rw[hb];exact b0x
  ·rw[a4r hb];exact q
 refine⟨I.ok,I.os,I.bare,⟨I.base.keep,I.base.slot,fun b o q z hx=>no b (I.base.free b o q z hx),I.base.there,fun b xs q=>?_,fun b o u q=>?_,fun b ps q=>?_⟩,I.loc,I.cell,no _ I.free,fun x c q=>no _ (I.freeC x c q),fun p hp=>?_,fun b u q=>?_,I.len⟩
 ·have:=I.base.tups b xs q
  rw[a4r (na b _ this fun φ z=>by cases z)];exact this
 ·have:=I.base.frzs b o u q
  rw[a4r (na b _ this fun φ z=>by cases z)];exact this
 ·obtain⟨m,this⟩:=I.base.tbls b ps q
  exact⟨m,by rw[a4r (na b _ this fun φ z=>by cases z)];exact this⟩
 ·obtain⟨p1,p2,p3⟩:=I.pin p hp
  exact⟨p1,no _ p2,p3⟩
 ·have hb:b≠a:=fun z=>by rw[z,b0x]at q;cases q
  rw[a4r hb]at q
  refine(I.hok b u q).stay (fun c v _ z=>z) (fun c z=>?_) fun c xs z=>?_
  ·rw[a4r (na c _ z fun φ z=>by cases z)];exact z
  ·rw[a4r (na c _ z fun φ z=>by cases z)];exact z
end
section
variable {M:Model}{A:D8}{E:Value->c9->Prop}{env:Env}{K:Frag}{C:Addr}
theorem b5V{s:c9}{x:Sem Value}{Q:Flow->c9->Prop}(hh:A.handled=none)(hx:a8Z K C=true)
  (h:wpAny M A x (fun v s1=>∃e tu dx,v=.ref e/\K.In s1.heap/\s1.heap.get? e=some ⟨.ref C,dx,.fields #[.ref tu,.none,.none,.none,.bool false,.none],#[]⟩/\E (.ref e) s1) E s):wpAny M A (raiseStmt env (some x) none) Q E s:=by
 unfold raiseStmt
 refine c7 (O8 h (fun v s1 h1=>?_) fun _ _ x=>x)
 obtain⟨e,tu,dx,rfl,X,he,hE⟩:=h1
 obtain⟨hp,g,d,tk,os⟩:=s1
 obtain⟨bm,N,nm,q,bs,hd,sn,sub,ab,col,dd,k0,k1,k2,k3,k5,hC,T⟩:=b7d X hx
 have hcB:(Value.ref C::bm).contains (.type "BaseException")=true:=by rw[c2C,T.hasType (b:=true) (by decide +kernel),c9e]
 repeat (first | with_reducible refine wpAny_loadPart_at he ?_ | with_reducible refine wpAny_loadPart_at hC ?_ | (with_reducible refine wpAny_isSubtype_exc hC ?_;rw[hcB]) | wp_step)
 exact wpAny_raiseNew_none hh hE
end
end L2
namespace L2
open PySem PySem.Spec PyProof.Rows PySem.W
def a3z(C:Addr)(sp:Sp)(E:St->XK)(t:TA):TS:=fun _ σ H=>t σ H fun vs H1=>vs.length<=t6/\∀a,H1 a=none->sp (.ref a::vs) (upd H1 a (xo a C none)) (fun v H2=>v=.non/\∃dx,H2 a=some (xo a C dx)/\E σ (.ref C) dx (del H2 a)) E0
section
variable {X:Cx}{k:Nat}{f C:Addr}{fd:Q1}{ps:List Str}{sp:Sp}{E:St->XK}{x:Str}{np cpos pos:Pos}{e:Expr}{es:List Expr}{t:TA}
theorem b8C(hc:X.calm=true)(W:Wi X E)(c:b5l X.K C)(hi:findIn X.K (.ref C) "__init__" = some (some (.ref f)))(hf:typeIn X.K (.ref f)=some (.type "function"))(F:F8 X.prog X.w X.K X.mg X.base CX0 k f fd ps sp)(hr:S0 (k+1) X.A)(hg:Gl X x)
  (hm:X.mg x=some (.ref C)) (hb:a2r X.K fd ps []) (ha:PA X (e::es) t) (hdb:(x == ("__debug__" : Str))=false:=by decide) (he:j5 (e::es) X.env=(false,eval e X.env)::j5 es X.env:=by rfl) (hpl:(X9 cpos (j5 es X.env)).any (·.1)=false:=by rfl) :
  PS X (.Raise (some (.Call (.Name x np) (e::es) [] cpos)) none pos) (a3z C sp E t):=by
 intro pins s σ H D I h
 have go:wpAny (model X.prog X.w) X.A (eval (.Call (.Name x np) (e::es) [] cpos) X.env) (fun v s1=>∃e tu dx,v=.ref e/\X.K.In s1.heap/\s1.heap.get? e=some ⟨.ref C,dx,.fields #[.ref tu,.none,.none,.none,.bool false,.none],#[]⟩/\X.xe (.ref e) s1) X.xe s:=by
  refine Z3 (a4m I hg hm ?_ hdb)
  refine Z7 (h₀:=X.base) I.ok.mod.kin c.kp (thn (ha cpos pins s σ H _ I h) fun us s1 ⟨vs,H1,I1,r,hz,q⟩=>⟨I1.kIn,?_⟩) he hpl
  have I2:Inv X pins σ (upd H1 (s1.heap.objs.size+1) (xo (s1.heap.objs.size+1) C none)) { s1 with heap:=a0W s1.heap C us }:=
   I1.laid (a:=s1.heap.objs.size+1) (h':=a0W s1.heap C us) (t':=s1.toks) (fun b u q=>a4q q) (a4O _) (c4W ⟨_,b0w⟩)
  have hq:=q (s1.heap.objs.size+1) (I1.hok.fresh (a4O _))
  have r2:J2 (V.ref (s1.heap.objs.size+1)::vs) (Value.ref (s1.heap.objs.size+1)::us):=.cons rfl r
  have hl:(Value.ref (s1.heap.objs.size+1)::us++[]).length=ps.length:=by
   have e:=r2.length
   rw[F.len _ _ _ _ hq]at e
   rw[L7]
   exact e.symm
  have hbi:=hb { s1 with heap:=a0W s1.heap C us } (Value.ref (s1.heap.objs.size+1)::us) I2.kIn hl
  rw[L7]at hbi
  obtain⟨h1,g1,d1,t1,os1⟩:=s1
  refine b3j (rest:=us) I1.kIn c.xc hi hf (by rw[<-r.length];exact hz) ?_
  refine wpAny_call (a2F (F.run _ X.stack _ _ ⟨Value.ref (h1.objs.size+1)::us,[]⟩ (Value.ref (h1.objs.size+1)::us) _ _ E0 (hr.make C us []) (I2.env0.make C us []) hbi r2 hq) fun r s' hq'=>?_)
  cases r with
  | error e=>exact False.elim hq'
  | ok fl=>
   cases fl with
   | ret u=>
    obtain⟨v,H',I3,rv,ev,dx,e3,q3⟩:=I2.after hq'
    subst ev
    obtain⟨⟨tu,ho⟩,_⟩:T9 X.prog X.w H' s'.heap _ (xo _ C dx):=I3.hok _ _ e3
    refine⟨rv,_,tu,dx,rfl,I3.kIn,ho,W pins σ _ s' _ _ dx ⟨I3.del e3,I1.fpOk (a4O _) b0x,.inl ⟨_,_,ho,⟨rfl,rfl,rfl⟩,rfl,rfl⟩⟩ q3⟩
   | next=>exact False.elim hq'
   | brk=>exact False.elim hq'
   | cont=>exact False.elim hq'
 rw[arm_exec_Raise]
 exact c7 (a7V (b5V (I.ok.hd hc) c.xc (c7 (O8 go (fun v s3 h3=>c7 (a7V (y9 h3))) fun _ _ z=>z))))
end
end L2
namespace L2
open PySem PySem.Spec PyProof.Rows PySem.W
section
variable {X:Cx}{pins:List (Addr×Obj)}{σ:St}{H:Hp}{s:c9}{i:Nat}{n:Str}
theorem b8m{M:Model}{A:D8}{E:Value->c9->Prop}{v:V}{Q:Unit->c9->Prop}(I:Inv X pins σ H s)(hN:X.N.Nodup)(hi:X.N[i]? = some n)(hl:X.env.scope.names.lookup n=some .local)(hv:σ[i]? = some (some v))
  (k:∀s',Inv X pins (σ.set i none) H s'->Q () s'):wpAny M A (unbindName X.env n) Q E s:=by
 obtain⟨m,hm,hL⟩:=I.loc
 have hk:X.env.kindOf n=some .local:=hl
 obtain⟨u,_,q⟩:=hL i n v hi hv (.inl hl)
 have hmn:m n=some u:=by
  rcases q with q | ⟨q,_⟩
  ·exact q.2
  ·rcases q with q | q <;> (rw[hk]at q;cases q)
 refine wpAny_unbindName_local hk hm hmn (by simp[I.ok.kind]) fun h' u' hn' hs=>k _ ?_
 have nl:∀b o,X.s₀.heap.get? b=some o->b≠X.env.locals:=fun b o e=>v5 (v0 (h9 e) I.ok.above)
 refine⟨I.ok,I.os,I.bare,⟨fun b o e z hb hx=>(hs.2 b (nl b o e)).trans (I.base.keep b o e z hb hx),fun b o e z hb hx=>?_,I.base.free,fun b o e hx=>?_,I.base.tups,I.base.frzs,I.base.tbls⟩,⟨_,hn',fun j y v' e1 e2 e3=>?_⟩,fun y c e=>?_,I.free,I.freeC,fun p hp=>?_,fun b o q=>?_,by simpa using I.len⟩
 ·obtain⟨sl,q⟩:=I.base.slot b o e z hb hx
  exact⟨sl,(hs.2 b (nl b o e)).trans q⟩
 ·obtain⟨o',q⟩:=I.base.there b o e hx
  exact⟨o',(hs.2 b (nl b o e)).trans q⟩
 ·have hj:j≠i:=fun z=>by
   subst z
   rw[List.getElem?_set]at e2
   simp only[if_true]at e2
   split at e2 <;> cases e2
  rw[C9 (Ne.symm hj)]at e2
  obtain⟨u2,r,q⟩:=hL j y v' e1 e2 e3
  refine⟨u2,r,?_⟩
  rcases q with ⟨q1,q2⟩ | ⟨q1,c,q2,q3⟩
  ·refine .inl ⟨q1,?_⟩
   have:y≠n:=fun z=>by
    subst z
    exact hj (b0l hN e1 hi)
   simp only[this,if_false]
   exact q2
  ·exact .inr ⟨q1,c,q2,q3.sameBut hs (I.cne y c q2)⟩
 ·obtain⟨w',z⟩:=I.cell y c e
  exact⟨w',z.sameBut hs (I.cne y c e)⟩
 ·obtain⟨e,z,ne,nf,d⟩:=I.pin p hp
  exact⟨(hs.2 p.1 ne).trans e,z,ne,nf,d⟩
 ·refine(I.hok b o q).stay (fun c v' hc z=>(hs.2 c fun z2=>?_).trans z) (fun _ z=>z) fun _ _ z=>z
  rcases hc with rfl | hc
  ·rw[z2,I.free]at q;cases q
  ·rw[z2,I.free]at hc;cases hc
theorem a5O{M:Model}{A:D8}{E:Value->c9->Prop}{pos:Pos}{Q:Unit->c9->Prop}(I:Inv X pins σ H s)(hN:X.N.Nodup)(hi:X.N[i]? = some n)(hl:X.env.scope.names.lookup n=some .local)
  (k:∀s',Inv X pins (σ.set i none) H s'->Q () s'):wpAny M A (do bindName X.env n .none;unbindBehindTheSuite X.env n pos) Q E s:=by
 have hlt:i<σ.length:=by rw[I.len];exact(z4.mp hi).1
 refine c7 (wpAny_bindName (a3P (v:=.non) I hN hi (.inl hl) rfl (fun s1 I1=>?_) (.inr hl)))
 unfold unbindBehindTheSuite
 refine wpAny_onRaise (b8m I1 hN hi hl (D5 hlt) fun s2 I2=>?_)
 rw[List.set_set]at I2
 exact k s2 I2
end
end L2
namespace L2
open PySem PySem.Spec PyProof.Rows PySem.W
theorem b6u{M:Model}{A:D8}{E:Value->c9->Prop}{K:Frag}{h:Heap}{g:Array GenState}{d:Drawn}{t:Nat}{os:OsState}{C C1 e:Addr}{oe:Obj}{Q:Bool->c9->Prop}(X:K.In h)(h1:a8Z K C1=true)(hsub:mroIn K C (.ref C1)=some true)
  (he:h.get? e=some oe) (hcls:oe.cls=.ref C) (hq:Q true ⟨h,g,d,t,os⟩):wpAny M A (excMatches (.ref e) (.ref C1)) Q E ⟨h,g,d,t,os⟩:=by
 obtain⟨bm,N,nm,q,bs,hd,sn,sub,ab,col,dd,k0,k1,k2,k3,k5,hC1,T⟩:=b7d X h1
 have hcB:(Value.ref C1::bm).contains (.type "BaseException")=true:=by rw[c2C,T.hasType (b:=true) (by decide +kernel),c9e]
 have L:=looks_mroIn (M:=M) X hsub
 have f:=tc_notTuple
 unfold excMatches
 repeat (first | (with_reducible refine wpAny_loadPart_at he ?_;rw[hcls]) | with_reducible refine wpAny_loadPart_at hC1 ?_ | (with_reducible refine wpAny_isSubtype_exc hC1 ?_;rw[hcB]) | with_reducible refine L.at ?_ | wp_step)
 exact hq
abbrev Cx.tryB(X:Cx)(pins:List (Addr×Obj))(E:Value->c9->Prop):Cx:={ X with pn:=X.pn++pins,xe:=E }
abbrev Cx.suite(X:Cx)(pins:List (Addr×Obj))(x:Addr)(oe:Obj):Cx:={ X with A:=X.A.mark (some (.ref x)),calm:=false,pn:=X.pn++(pins++[(x,oe)]),xe:=fun _ _=>False }
section
variable {X:Cx}{pins pins':List (Addr×Obj)}{σ:St}{H:Hp}{s:c9}{x:Addr}{oe:Obj}{E:Value->c9->Prop}
theorem Inv.tryB(I:Inv X pins σ H s)(E:Value->c9->Prop):Inv (X.tryB pins E) [] σ H s:=
 ⟨⟨I.ok.mod,I.ok.kind,I.ok.glob,I.ok.blt,I.ok.above,I.ok.inj,I.ok.has,I.ok.cab,I.ok.hd,I.ok.frames,I.ok.stk,I.ok.exf,I.ok.bs,I.ok.bsz,I.ok.noex,I.ok.exfs,I.ok.funs,I.ok.frf⟩,I.os,I.bare,I.base,I.loc,I.cell,I.free,I.freeC,fun p hp=>I.pin p (by simpa using hp),I.hok,I.len⟩
theorem Inv.untryB(I:Inv (X.tryB pins E) pins' σ H s):Inv X pins σ H s:=
 ⟨⟨I.ok.mod,I.ok.kind,I.ok.glob,I.ok.blt,I.ok.above,I.ok.inj,I.ok.has,I.ok.cab,I.ok.hd,I.ok.frames,I.ok.stk,I.ok.exf,I.ok.bs,I.ok.bsz,I.ok.noex,I.ok.exfs,I.ok.funs,I.ok.frf⟩,I.os,I.bare,I.base,I.loc,I.cell,I.free,I.freeC,fun p hp=>I.pin p (A4 _ hp),I.hok,I.len⟩
theorem a0E.untryB{b:Addr}(f:a0E (X.tryB pins E) pins' H b):a0E X pins H b:=⟨f.1,f.2.1,f.2.2.1,f.2.2.2.1,f.2.2.2.2.1,fun p hp=>f.2.2.2.2.2 p (A4 _ hp)⟩
theorem Out.untryB{cls:Value}{dx:Option Addr}(o:Out (X.tryB pins E) pins' σ H s x cls dx):Out X pins σ H s x cls dx:=⟨o.inv.untryB,o.fx.untryB,o.fl.imp id fun⟨T,f1,f2⟩=>⟨T,f1.untryB,f2⟩⟩
theorem Inv.suite(I:Inv X pins σ H s)(f:a0E X pins H x)(he:s.heap.get? x=some oe)(hd:∀v,oe.data≠.cell v):Inv (X.suite pins x oe) [] σ H s:=
 ⟨⟨I.ok.mod,I.ok.kind,I.ok.glob,I.ok.blt,I.ok.above,I.ok.inj,I.ok.has,I.ok.cab,(fun z=>by cases z),I.ok.frames,I.ok.stk,I.ok.exf,I.ok.bs,I.ok.bsz,I.ok.noex,I.ok.exfs,I.ok.funs,I.ok.frf⟩,I.os,I.bare,I.base,I.loc,I.cell,I.free,I.freeC,fun p hp=>by
  have hp:p∈(X.pn++(pins++[(x,oe)]))++[]:=hp
  rw[L7,<-a4C]at hp
  rcases y8.mp hp with z | z
  ·exact I.pin p z
  ·rw[g6.mp z]
   exact⟨he,f.1,f.2.1,f.2.2.1,hd⟩,I.hok,I.len⟩
theorem Inv.unsuite(hh:X.calm=true->X.A.handled=none)(I:Inv (X.suite pins x oe) pins' σ H s):Inv X pins σ H s:=
 ⟨⟨I.ok.mod,I.ok.kind,I.ok.glob,I.ok.blt,I.ok.above,I.ok.inj,I.ok.has,I.ok.cab,hh,I.ok.frames,I.ok.stk,I.ok.exf,I.ok.bs,I.ok.bsz,I.ok.noex,I.ok.exfs,I.ok.funs,I.ok.frf⟩,I.os,I.bare,I.base,I.loc,I.cell,I.free,I.freeC,fun p hp=>I.pin p (by
  show p∈(X.pn++(pins++[(x,oe)]))++pins'
  rw[<-a4C]
  exact A4 _ (A4 _ hp)),I.hok,I.len⟩
end
def b3T(K:Frag)(C1:Addr)(i:Nat)(tb:(St->XK)->TS)(th:Addr->Addr->Option Addr->TS):TS:=fun D σ H=>tb (fun σ' cls dx H'=>∃C,cls=.ref C/\mroIn K C (.ref C1)=some true/\∀x,H' x=none ->
 th x C dx { nx:=fun σ2 H2=>D.nx (σ2.set i none) H2,rt:=D.rt,bk:=fun σ2 H2=>D.bk (σ2.set i none) H2,ct:=fun σ2 H2=>D.ct (σ2.set i none) H2 } (σ'.set i (some (.ref x))) H') D σ H
section
variable {X:Cx}{C1:Addr}{i:Nat}{n c1:Str}{np hpos pos:Pos}{body:List Stmt}{b0:Stmt}{suite:List Stmt}{tb:(St->XK)->TS}{th:Addr->Addr->Option Addr->TS}
theorem c3m(hc:X.calm=true)(hst:X.stack=X.env::X.outer)(hf:X.env.frame=some X.env.locals)(hN:X.N.Nodup)(hi:X.N[i]? = some n)(hl:X.env.scope.names.lookup n=some .local)(hg:Gl X c1)(hm:X.mg c1=some (.ref C1))(h1:a8Z X.K C1=true)
  (hb:∀(E:St->XK) (pins:List (Addr×Obj)) (xe:Value->c9->Prop),Wi (X.tryB pins xe) E->PSs (X.tryB pins xe) body (tb E))
  (hs:∀(pins:List (Addr×Obj)) (x C:Addr) (dx:Option Addr) (oe:Obj) (vs:Array Value),oe.cls=.ref C->oe.dict=dx->oe.data=.fields vs->vs[2]? = some .none->PSs (X.suite pins x oe) (b0::suite) (th x C dx))
  (hdb:(c1 == ("__debug__" : Str))=false:=by decide) :
  PS X (.Try body [.ExceptHandler (some (.Name c1 np)) (some n) (b0::suite) hpos] [] [] pos) (b3T X.K C1 i tb th):=by
 intro pins s σ H D I h
 have hh:=I.ok.hd
 obtain⟨XE,hXE⟩:∃XE:Value->c9->Prop,XE=fun e s1=>wpAny (model X.prog X.w) X.A (noteFrame e X.env) (fun _ s2=>wpAny (model X.prog X.w) X.A (setFlight e none) (fun _ s3=>wpAny (model X.prog X.w) X.A (handleBy e X.env [.ExceptHandler (some (.Name c1 np)) (some n) (b0::suite) hpos]) (SP X pins D) X.xe s3) X.xe s2) X.xe s1:=⟨_,rfl⟩
 refine wpAny_Try_except ?_
 rw[<-hXE]
 have W:Wi (X.tryB pins XE) fun σ' cls dx H'=>∃C,cls=.ref C/\mroIn X.K C (.ref C1)=some true/\∀x,H' x=none ->
   th x C dx { nx:=fun σ2 H2=>D.nx (σ2.set i none) H2,rt:=D.rt,bk:=fun σ2 H2=>D.bk (σ2.set i none) H2,ct:=fun σ2 H2=>D.ct (σ2.set i none) H2 } (σ'.set i (some (.ref x))) H':=by
  rintro pins' σ' H' s' x cls dx o ⟨C,rfl,hsub,hth⟩
  show XE (.ref x) s'
  rw[hXE]
  have o:=o.untryB
  refine b4z hst hf o fun s2 o2=>a6K o2 fun s3 o3=>?_
  refine wpAny_handleBy_cons (codeAny_handlers_test ?_) (by intro q;cases q)
  obtain⟨T,f1,oe,vs,oT,ts,he,⟨hcls,hdx,h2⟩,hd,hr⟩:=o3.fl
  have I3:Inv (X.suite pins x oe) [] σ' H' s3:=o3.inv.suite o3.fx he fun v z=>by rw[hd]at z;cases z
  refine a4m (X:=X.suite pins x oe) I3 hg hm ?_ hdb
  obtain⟨hp3,g3,d3,t3,os3⟩:=s3
  refine b6u I3.kIn h1 hsub he hcls ?_
  refine codeAny_handlers_suite_as ?_
  refine a6K o3 fun s4 o4=>?_
  obtain⟨T4,f4,oe4,vs4,oT4,ts4,he4,⟨hcls4,hdx4,h24⟩,hd4,hr4⟩:=o4.fl
  have I4:Inv (X.suite pins x oe4) [] σ' H' s4:=o4.inv.suite o4.fx he4 fun v z=>by rw[hd4]at z;cases z
  refine a3P (X:=X.suite pins x oe4) (v:=.ref x) I4 hN hi (.inl hl) rfl (fun s5 I5=>?_) (.inr hl)
  refine O8 (hs pins x C dx oe4 vs4 hcls4 hdx4 hd4 h24 [] s5 _ H' _ I5 (hth x o4.fx.1)) (fun f s6 q=>?_) fun _ _ z=>False.elim z
  show wpAny _ _ _ _ _ _
  cases f with
  | next=>
   obtain⟨σ2,H2,I6,q⟩:=q
   exact a5O (I6.unsuite hh) hN hi hl fun s7 I7=>⟨_,_,I7,q⟩
  | brk=>
   obtain⟨σ2,H2,I6,q⟩:=q
   exact a5O (I6.unsuite hh) hN hi hl fun s7 I7=>⟨_,_,I7,q⟩
  | cont=>
   obtain⟨σ2,H2,I6,q⟩:=q
   exact a5O (I6.unsuite hh) hN hi hl fun s7 I7=>⟨_,_,I7,q⟩
  | ret u=>
   obtain⟨v,σ2,H2,I6,r,q⟩:=q
   exact a5O (I6.unsuite hh) hN hi hl fun s7 I7=>⟨v,_,_,I7,r,q⟩
 refine O8 (hb _ pins XE W [] s σ H D (I.tryB XE) h) (fun f s1 q=>?_) fun _ _ z=>z
 cases f with
 | next=>
  obtain⟨σ2,H2,I6,q⟩:=q
  exact a4W ⟨σ2,H2,I6.untryB,q⟩
 | brk=>
  obtain⟨σ2,H2,I6,q⟩:=q
  exact⟨σ2,H2,I6.untryB,q⟩
 | cont=>
  obtain⟨σ2,H2,I6,q⟩:=q
  exact⟨σ2,H2,I6.untryB,q⟩
 | ret u=>
  obtain⟨v,σ2,H2,I6,r,q⟩:=q
  exact⟨v,σ2,H2,I6.untryB,r,q⟩
end
end L2
namespace L2
open PySem PySem.Spec PyProof.Rows PySem.W
section
variable {prog:w4}{w:World}{A:D8}{E:Value->c9->Prop}{s:c9}{K:Frag}{x C:Addr}{ox:Obj}{od:Option Obj}{name:Str}{v:Value}
variable {h:Heap}{g:Array GenState}{d:Drawn}{t:Nat}{os:OsState}
structure c4H(K:Frag)(C:Addr):Prop where
 ga:findIn K (.ref C) "__getattribute__" = some (some (.builtin "BaseException.__getattribute__"))
 gg:findIn K (.ref C) "__getattr__" = some none
 be:mroIn K C (.type "BaseException")=some true
theorem c0b{tk:Tok}{R:b1p->c9->Prop}(X:K.In h)(I:InstAt h x ox C od)(c:c4H K C)(hf:findObj K C od name=some (.value v))(hq:R (.ok (.ret v)) ⟨h,g,d,t,os⟩) :
  a1U (model prog w) A (.call (.builtin "BaseException.__getattribute__") ⟨[.ref x,.str name tk],[]⟩) R ⟨h,g,d,t,os⟩:=by
 have hk:builtinKind "BaseException.__getattribute__" = some .slot:=by decide +kernel
 have hs:splitId "BaseException.__getattribute__" = some ("BaseException","__getattribute__"):=by decide +kernel
 have L0:=I.type (M:=model prog w)
 have L1:=looks_find (M:=model prog w) X I hf
 have sub:Looks (model prog w) h (isInstance (.ref x) (.type "BaseException")) true:=L0.andThen (looks_mroIn X c.be)
 refine codeAny_call_builtin a1s.ga.plain b5p (@check_slot (model prog w) _ _ ⟨h,g,d,t,os⟩ "BaseException.__getattribute__" "BaseException" "__getattribute__" (.ref x) [.str name tk] [] _ hk hs sub (b6Z _ _) ?_)
 refine c7 (y9 (c7 (y9 (c7 (L0.at (c7 (L1.at ?_)))))))
 exact y9 hq
theorem c2L{tk:Tok}{fill expr:Bool}{Q:Value->c9->Prop}(X:K.In h)(I:InstAt h x ox C od)(c:c4H K C)(hf:findObj K C od name=some (.value v))(hh:handedIn v=true)(hq:Q v ⟨h,g,d,t,os⟩) :
  wpAny (model prog w) A (getAttrBy (.ref x) (.str name tk) fill expr) Q E ⟨h,g,d,t,os⟩:=by
 have L0:=I.type (M:=model prog w)
 have L1:=looks_findIn (M:=model prog w) X c.ga
 have L2:=looks_findIn (M:=model prog w) X c.gg
 have f3:=a1s.ga.bind (.ref x)
 have hx0:(expr&&onTheHeap (Value.builtin "BaseException.__getattribute__"))=false:=by cases expr <;> rfl
 have hx2:(Value.builtin "BaseException.__getattribute__" == Value.builtin "object.__getattribute__")=false:=by decide +kernel
 have hx1:(onTheHeap (Value.ref C)&&Value.builtin "BaseException.__getattribute__" == Value.builtin "object.__getattribute__")=false:=by rw[hx2];rfl
 unfold getAttrBy
 refine W9 (c7 (L0.at (c7 (L1.at ?_))))
 show wpAny _ _ (if(onTheHeap (Value.ref C)&&Value.builtin "BaseException.__getattribute__" == Value.builtin "object.__getattribute__")=true then _ else _) _ _ _
 rw[if_neg (by rw[hx1];decide)]
 unfold getAttrByItsOwn hookBefore
 refine c7 (L2.at ?_)
 refine c7 (wpAny_attempt (W9 ?_))
 unfold callGetattribute
 rw[hx0,if_neg (by decide)]
 unfold boundAndCalled
 refine c7 (wpAny_of_eq f3 (wpAny_call (c0b X I c hf ?_)))
 show wpAny _ _ (handedOut v) _ _ _
 rw[handedOut_of hh]
 exact y9 hq
theorem c4u{expr:Bool}{Q:Value->c9->Prop}(X:K.In s.heap)(I:InstAt s.heap x ox C od)(c:c4H K C)(hf:findObj K C od name=some (.value v))(hh:handedIn v=true)(hq:Q v { s with toks:=s.toks+1 }) :
  wpAny (model prog w) A (getAttr (.ref x) name expr) Q E s:=by
 obtain⟨h,g,d,t,os⟩:=s
 unfold getAttr
 exact c7 (wpAny_mkText (c2L X I c hf hh hq))
end
end L2
namespace L2
open PySem PySem.Spec PyProof.Rows PySem.W
structure XIs(K:Frag)(C:Addr):Prop extends c4H K C where
 hd:hasDictIn K C=true
 ha:findIn K (.ref C) "__class__" = some (some (.builtin "object.__class__"))
 hn:specialIn K (.builtin "object.__class__") "__get__" = some (some (.builtin "getset_descriptor.__get__"))
 tk:takesIn K (.builtin "object.__class__")=some true
 ob:mroIn K C (.type "object")=some true
section
variable {prog:w4}{w:World}{A:D8}{E:Value->c9->Prop}{s:c9}{K:Frag}{x C:Addr}{ox:Obj}{od:Option Obj}{name:Str}{v:Value}
variable {h:Heap}{g:Array GenState}{d:Drawn}{t:Nat}{os:OsState}
theorem b3N{tk:Tok}{R:b1p->c9->Prop}(X:K.In h)(I:InstAt h x ox C od)(c:XIs K C)(hq:R (.ok (.ret (.ref C))) ⟨h,g,d,t,os⟩) :
  a1U (model prog w) A (.call (.builtin "BaseException.__getattribute__") ⟨[.ref x,.str "__class__" tk],[]⟩) R ⟨h,g,d,t,os⟩:=by
 have hk:builtinKind "BaseException.__getattribute__" = some .slot:=by decide +kernel
 have hs:splitId "BaseException.__getattribute__" = some ("BaseException","__getattribute__"):=by decide +kernel
 have hf:findObj K C od "__class__" = some (.bind (.builtin "getset_descriptor.__get__") (.builtin "object.__class__")):=by
  obtain⟨cd,hc,_⟩:=any_some c.hd
  unfold findObj
  rw[hc,a9x,c.ha,a9x]
  simp[c.hn,c.tk]
 have L0:=I.type (M:=model prog w)
 have L1:=looks_find (M:=model prog w) X I hf
 have sub:Looks (model prog w) h (isInstance (.ref x) (.type "BaseException")) true:=L0.andThen (looks_mroIn X c.be)
 refine codeAny_call_builtin a1s.ga.plain b5p (@check_slot (model prog w) _ _ ⟨h,g,d,t,os⟩ "BaseException.__getattribute__" "BaseException" "__getattribute__" (.ref x) [.str "__class__" tk] [] _ hk hs sub (b6Z _ _) ?_)
 refine c7 (y9 (c7 (y9 (c7 (L0.at (c7 (L1.at ?_)))))))
 show wpAny _ _ (a3Z [Value.builtin "object.__class__"] (call (.builtin "getset_descriptor.__get__") [.builtin "object.__class__",.ref x,.ref C]) >>= ret) _ _ _
 refine c7 (W9 (wpAny_call (class_get (s:=⟨h,g,d,t,os⟩) (ox:=ox) (od:=od) X I c.ob ?_)))
 exact y9 hq
theorem b8k{tk:Tok}{fill expr:Bool}{Q:Value->c9->Prop}(X:K.In h)(I:InstAt h x ox C od)(c:XIs K C)(hq:Q (.ref C) ⟨h,g,d,t,os⟩) :
  wpAny (model prog w) A (getAttrBy (.ref x) (.str "__class__" tk) fill expr) Q E ⟨h,g,d,t,os⟩:=by
 have L0:=I.type (M:=model prog w)
 have L1:=looks_findIn (M:=model prog w) X c.ga
 have L2:=looks_findIn (M:=model prog w) X c.gg
 have f3:=a1s.ga.bind (.ref x)
 have hx0:(expr&&onTheHeap (Value.builtin "BaseException.__getattribute__"))=false:=by cases expr <;> rfl
 have hx2:(Value.builtin "BaseException.__getattribute__" == Value.builtin "object.__getattribute__")=false:=by decide +kernel
 have hx1:(onTheHeap (Value.ref C)&&Value.builtin "BaseException.__getattribute__" == Value.builtin "object.__getattribute__")=false:=by rw[hx2];rfl
 unfold getAttrBy
 refine W9 (c7 (L0.at (c7 (L1.at ?_))))
 show wpAny _ _ (if(onTheHeap (Value.ref C)&&Value.builtin "BaseException.__getattribute__" == Value.builtin "object.__getattribute__")=true then _ else _) _ _ _
 rw[if_neg (by rw[hx1];decide)]
 unfold getAttrByItsOwn hookBefore
 refine c7 (L2.at ?_)
 refine c7 (wpAny_attempt (W9 ?_))
 unfold callGetattribute
 rw[hx0,if_neg (by decide)]
 unfold boundAndCalled
 refine c7 (wpAny_of_eq f3 (wpAny_call (b3N X I c ?_)))
 show wpAny _ _ (handedOut (.ref C)) _ _ _
 rw[handedOut_of rfl]
 exact y9 hq
theorem c1F(c:XIs K C):KitX K (.ref x) (.ref C) (fun h=>InstAt h x ox C od) where
 ty:=fun _ _ _ I=>I.type
 it:=fun _ _ X _=>by
  obtain⟨cdD,hcD,_⟩:=any_some c.hd
  unfold clsIn at hcD
  split at hcD
  ·rename_i c' d' cd' sl' ho
   intro A' Q' E' s' k q
   unfold isType loadHead
   exact c7 (wpAny_loadPart (k _ _ (X _ _ ho)) (y9 q))
  ·cases hcD
 ne:=fun h tp dd its n sl X htp=>by
  obtain⟨cdD,hcD,_⟩:=any_some c.hd
  refine a9z.mpr fun q=>?_
  have e:C=tp:=Value.ref.inj (beq_iff_eq.mp q)
  subst e
  unfold clsIn at hcD
  split at hcD
  ·rename_i c' d' cd' sl' ho
   have z:=(X _ _ ho).symm.trans htp
   cases z
  ·cases hcD
 ca:=fun {prog w A E Q s} X I k=>by
  obtain⟨h,g,d,t,os⟩:=s
  unfold getAttr? getAttrBy?
  exact c7 (wpAny_mkText (c7 (wpAny_attempt (b8k X I c (y9 k)))))
end
structure b0G(X:Cx)(x C:Addr)(dx:Option Addr):Prop where
 ex:∃oe vs,(x,oe)∈X.pn/\oe.cls=.ref C/\oe.dict=dx/\oe.data=.fields vs/\vs[2]? = some .none
theorem b8p{X:Cx}{pins:List (Addr×Obj)}{x C:Addr}{dx:Option Addr}{oe:Obj}{vs:Array Value}(h1:oe.cls=.ref C)(h2:oe.dict=dx)(h3:oe.data=.fields vs)(h4:vs[2]? = some .none):b0G (X.suite pins x oe) x C dx:=
 ⟨oe,vs,by simp,h1,h2,h3,h4⟩
def c6a(K:Frag)(x C:Addr):List V->Hp->VK->Prop:=fun vs H Q=>∃c u b,vs=[.ref x,c]/\F0 c u/\kitOne K (.ref C) u=some b/\(∀u',F0 c u'->u'=u)/\XIs K C/\Q (.bl b) H
section
variable {X:Cx}{x C:Addr}{dx:Option Addr}{f:Str}{pos:Pos}{e:Expr}{ta:TE}
theorem b4O{pins:List (Addr×Obj)}{σ:St}{H:Hp}{s:c9}(I:Inv X pins σ H s)(hx:b0G X x C dx)(hd:∀d,dx=some d->∃fs,H d=some (.xd fs)):∃oe od,InstAt s.heap x oe C od/\∀d,dx=some d->∃o,od=some o/\s.heap.get? d=some o:=by
 obtain⟨oe,vs,hm,h1,h2,h3,_⟩:=hx.ex
 have ho:=(I.pin (x,oe) (A4 _ hm)).1
 have hn:notCls oe=true:=by unfold notCls;rw[h3]
 cases hdx:dx with
 | none=>exact⟨oe,none,⟨ho,h1,hn,by rw[h2,hdx];trivial⟩,fun d z=>by cases z⟩
 | some d=>
  obtain⟨fs,hf⟩:=hd d hdx
  obtain⟨mA,⟨o,es,ep,e1,r⟩,_⟩:T9 X.prog X.w H s.heap d (.xd fs):=I.hok d _ hf
  exact⟨oe,some o,⟨ho,h1,hn,by rw[h2,hdx];exact e1⟩,fun d' z=>by cases z;exact⟨o,rfl,e1⟩⟩
def b5k(dx:Option Addr)(H:Hp):Prop:=∀d,dx=some d->∃fs,H d=some (.xd fs)
theorem c2f(hx:b0G X x C dx):V5 X (.builtin "isinstance") (fun vs H Q=>b5k dx H/\c6a X.K x C vs H Q):=by
 rintro pins s σ H vs us Q I r ⟨hd,c,u,b,rfl,rc,e,un,xi,q⟩
 obtain⟨u1,u2,rfl,r1,r2⟩:=c0d r
 obtain rfl:u1=Value.ref x:=r1
 obtain rfl:=un _ r2
 obtain⟨oe,od,J,_⟩:=b4O I hx hd
 exact kia_one (c1F xi) I.kIn J e (fun z=>nomatch z) fun tk=>⟨.bl b,H,I.tok tk,rfl,q⟩
def b3S(K:Frag)(x C:Addr)(dx:Option Addr)(ta:TE)(f:Str):TE:=fun σ H Q=>ta σ H fun y H1=>y=.ref x/\∃d fs v,dx=some d/\H1 d=some (.xd fs)/\fs.lookup f=some v/\XIs K C/\findIn K (.ref C) f=some none/\Q v H1
theorem c3v(hx:b0G X x C dx)(he:PE X e ta)(hb:X0 e f X.env (eval e X.env)=eval e X.env:=by rfl):PE X (.Attribute e f pos) (b3S X.K x C dx ta f):=by
 intro pins s σ H Q I h
 refine b7V hb (thn (he pins s σ H _ I h) fun ov s1 ⟨y,H1,I1,ry,ey,d,fs,v,edx,ed,l,xi,na,q⟩=>?_)
 subst ey
 obtain rfl:ov=Value.ref x:=ry
 obtain⟨oe,od,J,hod⟩:=b4O I1 hx fun d' z=>by rw[edx]at z;cases z;exact⟨fs,ed⟩
 obtain⟨o,rfl,ho⟩:=hod d edx
 obtain⟨mA,hns,hr⟩:T9 X.prog X.w H1 s1.heap d (.xd fs):=I1.hok d _ ed
 obtain⟨o',ho',hlk⟩:=b1O hns
 rw[ho]at ho'
 cases ho'
 have hf:=hr f
 rw[l]at hf
 obtain⟨u,hu,ru⟩:∃u,mA f=some u/\F0 v u:=by
  cases hm:mA f with
  | none=>rw[hm]at hf;exact hf.elim
  | some u=>rw[hm]at hf;exact⟨u,rfl,hf⟩
 exact c4u I1.kIn J ⟨xi.ga,xi.gg,xi.be⟩ (findObj_own xi.hd na rfl (by rw[hlk,hu])) (b1T ru) ⟨v,H1,I1.tok _,ru,q⟩
end
end L2
namespace L2
open PySem PySem.Spec PyProof.Rows PySem.W
variable{X:Cx}
theorem b1c:entryFor table "proto.unchain" = some Builtin.«proto.unchain» := entryFor_of_tree (by kernel_rfl)
section
variable {prog:w4}{w:World}{A:D8}{E:Value->c9->Prop}{s:c9}
theorem b0W{α:Type}{e y:Addr}{oe oy:Obj}{vs vy:Array Value}{Q:α->c9->Prop}(hh:A.handled=some (.ref y))(hne:y≠e)(hy:s.heap.get? y=some oy)(hdy:oy.data=.fields vy)(h2:vy[2]? = some .none)
  (he:s.heap.get? e=some oe) (hd:oe.data=.fields vs) (hsz:2<vs.size) (h:E (.ref e) { s with heap:=s.heap.update e (Obj.mapFields (·.setIfInBounds 2 (.ref y))) }):wpAny (model prog w) A (raiseNew (.ref e):Sem α) Q E s:=by
 unfold raiseNew
 refine c7 (wpAny_handled ?_)
 rw[hh]
 show wpAny _ _ (if(Value.ref y != Value.ref e)=true then _ else _) _ _ _
 rw[if_pos (by simp[bne_iff_ne];exact hne)]
 refine c7 (W9 (wpAny_runValue (codeAny_builtin b1c ?_)))
 unfold Builtin.«proto.unchain»
 refine c7 (a2x hy hdy h2 ?_)
 rw[if_pos (by decide)]
 refine y9 ?_
 show wpAny _ _ _ _ _ _
 exact c7 (show wpAny _ _ (setField (.ref e) 2 (.ref y)) _ _ _ from wpAny_setField he hd hsz (wpAny_throw h))
end
structure c8S(P:w4)(w:World)(fp:List Addr)(it:Addr)(tn:Nat->Heap->Prop):Prop where
 obj:∀i h,tn i h->∀b∈fp,∃o,h.get? b=some o/\∀v,o.data≠.cell v
 keep:∀i h h',tn i h->(∀b∈fp,∀o,h.get? b=some o->h'.get? b=some o)->tn i h'
 self:∀(A:D8) (i:Nat) (s:c9) (Q:Value->c9->Prop) (E:Value->c9->Prop),tn i s.heap->Q (.ref it) s->wpAny (model P w) A (pyIter (.ref it)) Q E s
structure c8R(X:Cx)(tg:Expr)(J:It)(fp:List Addr)(it:Addr)(tn:Nat->Heap->Prop):Prop where
 item:∀(i:Nat) (pins:List (Addr×Obj)) (s:c9) (σ:St) (H:Hp) (E:Value->c9->Prop),Inv X pins σ H s->(∀b∈fp,a0E X pins H b)->tn i s.heap->J.go i H ->
  wpAny (model X.prog X.w) X.A (c7P (.ref it)) (fun r s1=>∃u,r=some u /\
   wpAny (model X.prog X.w) X.A (a2P tg (.ref it) u) (fun _ s2=>∃x H',Inv X pins σ H' s2/\F0 x u/\J.yld i H x H'/\tn (i+1) s2.heap/\∀b∈fp,H' b=none) E s1) E s
 done:∀(i:Nat) (pins:List (Addr×Obj)) (s:c9) (σ:St) (H:Hp) (E:Value->c9->Prop),Inv X pins σ H s->(∀b∈fp,a0E X pins H b)->tn i s.heap->J.stop i H ->
  wpAny (model X.prog X.w) X.A (c7P (.ref it)) (fun r s1=>r=none/\Inv X pins σ H s1) E s
section
variable {elt iter:Expr}{x:Str}{px pos:Pos}{ifs:List Expr}{scope:Scope}
theorem b4Y{pins:List (Addr×Obj)}{σ:St}{H1:Hp}{s2:c9}{cl:List (Str×Addr)}{fp:List Addr}{it:Addr}{tn:Nat->Heap->Prop}{J:It}{tt:TT}{te:TE}{Q:VK}{E:Value->c9->Prop}
  {RR:Value->Addr->b1p->c9->Prop} (hc:O0 X.N X.env.scope scope x) 
  (hcl:∀y c,cl.lookup y=some c->X.env.cells.lookup y=some c) (hcl2:∀y,(y,NameKind.free)∈scope.names->(cl.lookup y).isSome=true)
  (ht:∀C fp s3 H3,PTs (J8 X scope cl C x fp s3 H3) ifs tt) (he:∀C fp s3 H3,PE (J8 X scope cl C x fp s3 H3) elt te)
  (I:Inv X pins σ H1 s2) (T:c8S X.prog X.w fp it tn) (TA:∀s3 H3,Inv X pins σ H3 s3->c8R (J8 X scope cl s3.heap.objs.size x fp s3 H3) (.Name x px) J fp it tn) (st:tn 0 s2.heap) (fpo:∀b∈fp,a0E X pins H1 b)
  (h:∀D,H1 D=none->∃W:Nat->Nat->List V->Hp->Prop,
   (∃m,W 0 m [] (upd H1 D (.lst [])))/\∀i m ys H2,W i m ys H2->H2 D=some (.lst ys) /\
   ((J.stop i H2 /\ Q (.ref D) H2) \/ (J.go i H2 /\ ∀ x H3,J.yld i H2 x H3 -> tt (some x :: σ) H3 fun ok H4 => if ok = true then
     te (some x::σ) H4 (fun y H5=>H5 D=some (.lst ys)/\ys.length<t6/\∃m',m'<m/\W (i+1) m' (ys++[y]) (upd H5 D (.lst (ys++[y]))))
     else ∃m',m'<m/\W (i+1) m' ys H4)))
  (hRR:∀D C s' H' m,Inv X pins σ H' s'->s'.heap.Ns C m->H' C=none->C≠X.env.locals->X.s₀.heap.objs.size<=C->(∀y c,X.env.cells.lookup y=some c->c≠C)->(∀p∈X.pn++pins,p.1≠C)->Q (.ref D) H'->RR (.ref D) C (.ok .next) s') :
  wpAny (model X.prog X.w) X.A (newList []) (fun acc s₃=>wpAny (model X.prog X.w) X.A (newFunctionEnv scope X.env.globals cl [] X.env.qual none .none (some X.env)) (fun cenv s₄=>
   a1U (model X.prog X.w) X.A (.compStart (.ListComp elt [⟨.Name x px,iter,ifs,0⟩] scope pos) 0 (.ref it) acc { cenv with scope:=a6o scope X.env }) (RR acc cenv.locals) s₄) E s₃) E s2:=by
 refine P9 (hd:=by size_fits) ?_
 have I3:=I.lnew (ys:=[]) (its:=[]) (t':=s2.toks) .nil (by show 0<=t6;exact L5 _)
 obtain⟨W,⟨m0,w0⟩,turn⟩:=h _ I.fresh
 generalize hD:s2.heap.objs.size=D at I3 w0 turn ⊢
 generalize hs3:({ s2 with heap:=s2.heap.push { cls:=.type "list",data:=.seq ([]:List Value).toArray } }:c9)=s3
 have hs3':({ s2 with heap:=s2.heap.push { cls:=.type "list",data:=.seq ([]:List Value).toArray },toks:=s2.toks }:c9)=s3:=hs3
 rw[hs3']at I3
 have keep3:∀b o,s2.heap.get? b=some o->s3.heap.get? b=some o:=fun b o e=>by rw[<-hs3];exact d4 _ e
 have fpl:∀b∈fp,b<s3.heap.objs.size:=fun b hb=>by
  obtain⟨o,e,_⟩:=T.obj _ _ st b hb
  exact h9 (keep3 b o e)
 have fpD:∀b∈fp,b≠D:=fun b hb z=>by
  obtain⟨o,e,_⟩:=T.obj _ _ st b hb
  exact absurd (h9 e) (by rw[z,hD];exact D4 _)
 have fpo3:∀b∈fp,a0E X pins (upd H1 D (.lst [])) b:=fun b hb=>⟨by rw[j7 (fpD b hb)];exact(fpo b hb).1,(fpo b hb).2⟩
 show wpAny _ _ _ _ _ s3
 refine b0R hc.cell (by intro y hy;simp at hy) (fun h₁ hns₁ hsb₁=>?_) hc.kind
 dsimp only[newEnv]at hns₁ hsb₁ ⊢
 have keep4:∀b o,s3.heap.get? b=some o->h₁.get? b=some o:=fun b o e=>hsb₁.extBut b o (v5 (h9 e)) (d4 _ e)
 have I4:=b4W (tk:=s3.toks+([]:List (Str×Value)).length) hc I3 hcl hcl2 fpo3 fpl hns₁ keep4
 have st4:tn 0 h₁:=T.keep _ _ _ st fun b hb o e=>keep4 b o (keep3 b o e)
 have loop:∀s₄:c9,s₄={ s3 with heap:=h₁,toks:=s3.toks+([]:List (Str×Value)).length } ->
   a1U (model X.prog X.w) X.A (.compLoop (.ListComp elt [⟨.Name x px,iter,ifs,0⟩] scope pos) 0 (.ref it) (.ref D) (b0N scope cl s3.heap.objs.size X.env)) (RR (.ref D) s3.heap.objs.size) s₄:=by
  rintro s₄ rfl
  have stat:∀ {H':Hp},(∀b∈fp,H' b=none)->∀b∈fp,a0E (J8 X scope cl s3.heap.objs.size x fp s3 (upd H1 D (.lst []))) [] H' b:=fun hn b hb=>
   ⟨hn b hb,v5 (fpl b hb),fun hf=>by
    rcases o0.mp (I3.stkSub b hf)with e | e
    ·exact(fpo b hb).2.1 e
    ·exact(fpo b hb).2.2.1 e,.inl hb,fun y c e=>(fpo b hb).2.2.2.2.1 y c (hcl y c e),fun p hp=>absurd (show p∈([]:List (Addr×Obj))from hp) (by simp)⟩
  refine a8v (env:=b0N scope cl s3.heap.objs.size X.env) (fun n s'=>∃i ys H',Inv (J8 X scope cl s3.heap.objs.size x fp s3 (upd H1 D (.lst []))) [] (none::σ) H' s'/\tn i s'.heap/\(∀b∈fp,H' b=none)/\W i n ys H') ?_ m0
   ⟨0,[],_,I4,st4,fun b hb=>(fpo3 b hb).1,w0⟩
  rintro n s5 ⟨i,ys,H5,I5,st5,fr5,w5⟩
  obtain⟨hDy,alt⟩:=turn i n ys H5 w5
  rcases alt with ⟨stop,q⟩ | ⟨go,step⟩
  ·refine O8 ((TA s3 _ I3).done i [] s5 _ H5 (fun _ _=>False) I5 (stat fr5) st5 stop) (fun r s6 ⟨hr,I6⟩=>?_) fun _ _ f=>f
   subst hr
   obtain⟨m6,n6,_⟩:=I6.loc
   have J6:Inv X pins σ H5 s6:=by
    refine I3.call' (ch:=fp) I6.os I6.base I6.hok I6.bare fun b hb=>?_
    obtain⟨_,f1,f2,f3,f4,f5⟩:=fpo3 b hb
    exact⟨f3,f1,f4,f5⟩
   refine hRR D _ s6 H5 m6 J6 n6 I6.free (a3I I3.lt) I3.sz (fun y c e z=>?_) (fun p hp z=>?_) q
   ·obtain⟨v,q⟩:=I3.cell y c e
    exact absurd q.lt (by rw[z];exact D4 _)
   ·exact absurd (h9 (I3.pin p hp).1) (by rw[z];exact D4 _)
  ·refine O8 ((TA s3 _ I3).item i [] s5 _ H5 (fun _ _=>False) I5 (stat fr5) st5 go) (fun r s6 ⟨u,hr,h6⟩=>?_) fun _ _ f=>f
   subst hr
   refine thn h6 fun _ s6 ⟨xv,H6,I6,r6,y6,st6,fr6⟩=>?_
   have I6':=I6.pinned (stat fr6) (T.obj _ _ st6)
   refine a6U (a3P (i:=0) I6' ?nd rfl (.inl ?loc) r6 (fun s7 I7=>?_) (.inr ?loc))
   case nd=>exact hc.nd
   case loc=>exact a0i hc.own
   have I7:Inv (J8 X scope cl s3.heap.objs.size x fp s3 (upd H1 D (.lst []))) ([]++a4k fp s6.heap) (some xv::σ) H6 s7:=I7
   have again:∀ {s8:c9} {H8:Hp} {ys8:List V},Inv (J8 X scope cl s3.heap.objs.size x fp s3 (upd H1 D (.lst []))) ([]++a4k fp s6.heap) (some xv::σ) H8 s8->(∃m',m'<n/\W (i+1) m' ys8 H8) ->
     ∃m,m<n/\∃i ys H',Inv (J8 X scope cl s3.heap.objs.size x fp s3 (upd H1 D (.lst []))) [] (none::σ) H' s8/\tn i s8.heap/\(∀b∈fp,H' b=none)/\W i m ys H':=by
    rintro s8 H8 ys8 I8 ⟨m',hm,w8⟩
    refine⟨m',hm,i+1,ys8,H8,(I8.unpinned (pins:=[])).weak rfl (fun j v e=>?_),T.keep _ _ _ st6 fun b hb o e=>(I8.pin (b,o) (u5 _ (u5 _ (a0s hb e)))).1,fun b hb=>?_,w8⟩
    ·cases j with
     | zero=>cases e
     | succ j=>exact e
    ·obtain⟨o,e,d⟩:=T.obj _ _ st6 b hb
     exact(I8.pin (b,o) (u5 _ (u5 _ (a0s hb e)))).2.1
   refine thn (ht _ fp s3 _ _ s7 _ H6 _ I7 (step xv H6 y6)) (fun ok s8 ⟨H8,I8,q8⟩=>?_)
   cases ok with
   | false=>exact again I8 (by simpa using q8)
   | true=>
    rw[if_pos rfl]at q8
    rw[if_pos rfl]
    refine thn (he _ fp s3 _ _ s8 _ H8 _ I8 q8) (fun v s9 ⟨y,H9,I9,r9,hD9,hz9,w9⟩=>?_)
    refine O8 (a5L (X:=J8 X scope cl s3.heap.objs.size x fp s3 (upd H1 D (.lst []))) _ s9 _ H9 (.ref D) [y] (.ref D) [v] (fun _ H'=>H'=upd H9 D (.lst (ys++[y]))) I9 rfl (.cons r9 .nil) ⟨D,ys,y,rfl,rfl,hD9,hz9,rfl⟩) (fun _ s10 ⟨_,H10,I10,_,e10⟩=>?_) fun _ _ f=>f
    subst e10
    exact again I10 w9
 exact a8Y (loop _ rfl) (T.self X.A 0 _ _ _ st4 (loop _ rfl))
end
section
variable {elt:Expr}{x:Str}{px pos:Pos}{ifs:List Expr}{scope:Scope}{y C:Addr}{dx:Option Addr}
end
section
theorem c1I{its:List Value}{ns:List Int}(hi:b9P its ns):∃zs:Array (Int×Tok),its.toArray=intItems zs/\zs.toList.map (·.1)=ns:=by
 obtain⟨zs,ez⟩:=hi.allInts.items
 refine⟨zs,ez,?_⟩
 rw[<-nums_intItems,<-ez]
 exact hi.numsOf
def b1I:List V->Hp->VK->Prop:=fun vs H Q=>match vs with
 | [.ref l]=>match H l with
  | some (.lst xs)=>∃ns,a1G xs=some ns/\Q (.int ns.sum) H
  | _=>False
 | _=>False
end
mutual
inductive RdP(H:Hp):V->PyData->Prop
 | non:RdP H .non .none
 | bl (b:Bool):RdP H (.bl b) (.bool b)
 | int (i:Int):RdP H (.int i) (.int i)
 | str (s:Str):RdP H (.str s) (.str s)
 | lst {a:Addr} {xs:List V} {ds:List PyData}:H a=some (.lst xs)->b0F H xs ds->RdP H (.ref a) (.list ds)
 | tup {a:Addr} {xs:List V} {ds:List PyData}:H a=some (.tup xs)->b0F H xs ds->RdP H (.ref a) (.tuple ds)
 | dct {a:Addr}:H a=some (.dK [])->RdP H (.ref a) (.dict [])
inductive b0F(H:Hp):List V->List PyData->Prop
 | nil:b0F H [] []
 | cons {x:V} {xs:List V} {d:PyData} {ds:List PyData}:RdP H x d->b0F H xs ds->b0F H (x::xs) (d::ds)
end
section
variable {H H':Hp}{P:w4}{w:World}{h:Heap}
mutual
theorem RdP.same:∀ {x:V} {d:PyData},(∀a o,H a=some o->H' a=some o)->RdP H x d->RdP H' x d
 | _,_,_,.non=>.non
 | _,_,_,.bl b=>.bl b
 | _,_,_,.int i=>.int i
 | _,_,_,.str s=>.str s
 | _,_,k,.lst e r=>.lst (k _ _ e) (b0F.same k r)
 | _,_,k,.tup e r=>.tup (k _ _ e) (b0F.same k r)
 | _,_,k,.dct e=>.dct (k _ _ e)
theorem b0F.same:∀ {xs:List V} {ds:List PyData},(∀a o,H a=some o->H' a=some o)->b0F H xs ds->b0F H' xs ds
 | _,_,_,.nil=>.nil
 | _,_,k,.cons r rs=>.cons (RdP.same k r) (b0F.same k rs)
end
end
section
variable {k:Nat}
end
section
variable {A:D8}{s:c9}
end
section
variable {k:Nat}
end
section
variable {k:Nat}
end
end L2
namespace L2
open PySem PySem.Spec PyProof.Rows PySem.W
section
variable {prog:w4}{w:World}{A:D8}{E:Value->c9->Prop}{s:c9}
theorem a6l{it l y:Addr}{i:Nat}{items:Array Value}{oy:Obj}{vy:Array Value}{Q:Option Value->c9->Prop}(hh:A.handled=some (.ref y))(hy:s.heap.get? y=some oy)(hdy:oy.data=.fields vy)(h2:vy[2]? = some .none)(hyi:y≠it)
  (hit:s.heap.IsListIter it l i) (hl:s.heap.IsList l items) (hx:items[i]? = none) (hQ:∀h',Heap.ExtBut it s.heap h'->Q none { s with heap:=h' }):wpAny (model prog w) A (c7P (.ref it)) Q E s:=by
 obtain⟨o,ho,hc,hd⟩:=id hit
 obtain⟨ol,hol,_,nl,hdl⟩:=hl
 unfold c7P
 refine c7 (wpAny_attempt (c5w (name:=Str.ofString "__next__") hit.typeIs slot_listiter_next
  (wpAny_call_entry slot_listiter_next hit.typeIs entry_listiter_next ?_ (args_listiter_next _))))
 show wpAny _ _ (field (.ref it) 0 >>= _) _ _ s
 refine c7 (a2x ho hd (x:=.ref l) rfl ?_)
 show wpAny _ _ (if(Value.ref l == Value.none)=true then _ else _) _ _ s
 rw[if_neg (show ¬((Value.ref l == Value.none)=true)from u0)]
 show wpAny _ _ (field (.ref it) 1 >>= _) _ _ s
 refine c7 (a2x ho hd (x:=.int i 0) rfl ?_)
 show wpAny _ _ (seqItems? (.ref l) >>= _) _ _ s
 refine c7 (wpAny_seqItems hol hdl ?_)
 simp only[z8,hx]
 refine c7 (wpAny_rule (c7 (wpAny_setField ho hd (by simp) ?_)))
 show wpAny _ _ (newExc (.type "StopIteration") [] >>= _) _ _ _
 refine c7 ?_
 simp only[newExc,newTuple]
 refine c7 (P9 ?_ (by size_fits))
 refine c7 (m:=firstArgMember _ _) (wpAny_of_eq (a:=Value.none) (by first | rfl | (simp only[firstArgMember];rfl)) ?_)
 refine P9 ?_ (by size_fits)
 generalize hh1:s.heap.update it _=h1
 have e1:∀b,b≠it->h1.get? b=s.heap.get? b:=fun b nb=>by rw[<-hh1];exact M4 _ _ (Ne.symm nb)
 have sz:h1.objs.size=s.heap.objs.size:=by rw[<-hh1];exact b0Q ..
 have y1:h1.get? y=some oy:=(e1 y hyi).trans hy
 have ey:((h1.push { cls:=.type "tuple",data:=.seq ([]:List Value).toArray }).push { cls:=.type "StopIteration",data:=.fields (#[Value.ref h1.objs.size,.none,.none,.none,.bool false,.none]++ownMembersOf (.type "StopIteration") []) }).get? y=some oy:=d4 _ (d4 _ y1)
 have ne:y≠(h1.push { cls:=.type "tuple",data:=.seq ([]:List Value).toArray }).objs.size:=by
  rw[a6S]
  exact v5 (c5s (h9 y1))
 refine b0W (show A.in1.handled=some (.ref y)from hh) ne ey hdy h2 (C3 _ rfl) rfl (show 2<6 by decide) ?_
 refine c7 (wpAny_isInstance (T := "StopIteration") (b:=true) ⟨_,W8 _ (C3 _ rfl) rfl,rfl⟩ isSubtype_stop ?_)
 refine y9 (hQ _ fun b o nb hb=>?_)
 have hb1:h1.get? b=some o:=(e1 b nb).trans hb
 rw[M4 _ _ (Ne.symm (by rw[a6S];exact v5 (c5s (h9 hb1))))]
 exact d4 _ (d4 _ hb1)
end
section
variable {X:Cx}{elt:Expr}{x:Str}{px pos:Pos}{ifs:List Expr}{scope:Scope}{y C:Addr}{dx:Option Addr}
theorem c1d{l:Expr}{tl:TE}{tt:TT}{te:TE}(hx:b0G X y C dx)(hh:X.A.handled=some (.ref y))(hc:O0 X.N X.env.scope scope x)(hl:PE X l tl)
  (ht:∀cl C fp s3 H3,PTs (J8 X scope cl C x fp s3 H3) ifs tt) (he:∀cl C fp s3 H3,PE (J8 X scope cl C x fp s3 H3) elt te) (hs:∀x,Q0 l X.env x=pure x:=by intro _;rfl) :
  PE X (.ListComp elt [⟨.Name x px,l,ifs,0⟩] scope pos) (S3 (X4 X.K tl) tt te):=by
 intro pins s σ H Q I h
 obtain⟨cl,hclos,hcl,hcl2⟩:=a4u (a6L hc I)
 rw[eval_ListComp]
 obtain⟨R0,hR0⟩:∃R0:It->Hp->Prop,R0=fun J H1=>∀D,H1 D=none->∃W:Nat->Nat->List V->Hp->Prop,
   (∃m,W 0 m [] (upd H1 D (.lst [])))/\∀i m ys H2,W i m ys H2->H2 D=some (.lst ys) /\
   ((J.stop i H2 /\ Q (.ref D) H2) \/ (J.go i H2 /\ ∀ x H3,J.yld i H2 x H3 -> tt (some x :: σ) H3 fun ok H4 => if ok = true then
     te (some x::σ) H4 (fun y H5=>H5 D=some (.lst ys)/\ys.length<t6/\∃m',m'<m/\W (i+1) m' (ys++[y]) (upd H5 D (.lst (ys++[y]))))
     else ∃m',m'<m/\W (i+1) m' ys H4)):=⟨_,rfl⟩
 have hi:wpAny (model X.prog X.w) X.A (eval l X.env) (fun v s1=>wpAny (model X.prog X.w) X.A (pyIter v) (fun itv s2=>∃it a H',itv=.ref it/\Inv X pins σ H' s2/\s2.heap.IsListIter it a 0/\a0E X pins H' it/\R0 (Itl X.K a) H') X.xe s1) X.xe s:=by
  refine thn (hl pins s σ H _ I h) fun v s1 ⟨z,H1,I1,r1,q1⟩=>?_
  obtain⟨a,e,⟨xs,hq⟩,q⟩:=q1
  subst e
  cases r1
  obtain⟨its,rv,p,hz⟩:=I1.list hq
  refine a6T p.isList ?_
  refine⟨s1.heap.objs.size,a,H1,rfl,I1.kept (t':=s1.toks) fun b o e=>d4 _ e,⟨_,C3 _ rfl,rfl,rfl⟩,I1.fpOk (j9 _) (I1.hok.fresh (j9 _)),by rw[hR0];exact q⟩
 refine a2E (use:=none) rfl hs hclos hc.kind hc.names (thn hi fun v s1 h1=>thn h1 fun itv s2 ⟨it,a,H2,e,I2,st,fpo,R⟩=>?_)
 subst e
 subst hR0
 obtain⟨oe,vs,hm',h1,h2,h3,h4⟩:=hx.ex
 have T:=b1x (P:=X.prog) (w:=X.w) (K:=X.K) (tg:=.Name x px) a it
 refine b4Y (fp:=[it]) (tn:=fun i h=>h.IsListIter it a i) (J:=Itl X.K a) (RR:=fun acc C=>compPost (model X.prog X.w) X.A X.xe none (EP X pins σ Q) acc C) (Q:=Q) hc hcl hcl2 (ht cl) (he cl) I2 ⟨T.obj,T.keep,T.self⟩ (fun s3 H3 I3=>⟨?_,?_⟩) st (fun b hb=>by rw[g6.mp hb];exact fpo) R ?_
 ·intro i pins' s5 σ' H5 E I5 hf st5 hg5
  obtain⟨xs,z,hq,hz⟩:=hg5
  obtain⟨its,rv,p,_⟩:=I5.list hq
  obtain⟨u,hu,ru⟩:=rv.get hz
  obtain⟨f0,f1,f2,f3,f4,f5⟩:=hf it (by simp)
  refine a8X st5 p.isList (x:=u) (by simpa using hu) fun h' st' sb=>?_
  have I6:Inv (J8 X scope cl s3.heap.objs.size x [it] s3 H3) pins' σ' H5 { s5 with heap:=h' }:=I5.turned (t':=s5.toks) (fun b o hb e=>(sb.2 b hb).trans e) f0 f1 f3 f4 f5
  obtain⟨o,e,c,d⟩:=id st'
  exact⟨u,rfl,b7J (s:={ s5 with heap:=h' }) e c d (by decide) ⟨z,H5,I6,ru,⟨rfl,fun ys hy=>by rw[I5.list_inj hy hq];exact hz⟩,st',fun b hb=>(hf b hb).1⟩⟩
 ·intro i pins' s5 σ' H5 E I5 hf st5 hg5
  obtain⟨xs,hq,hge⟩:=hg5
  obtain⟨its,rv,p,_⟩:=I5.list hq
  obtain⟨f0,f1,f2,f3,f4,f5⟩:=hf it (by simp)
  have hlen:=rv.length
  obtain⟨p1,p2,p3,p4,_⟩:=I3.pin (y,oe) (A4 _ hm')
  have nyi:y≠it:=fpo.2.2.2.2.2 (y,oe) (A4 _ hm')
  have hy:s5.heap.get? y=some oe:=I5.base.keep y oe p1 p2 (fun z=>by
   rcases o0.mp (I3.stkSub y z)with e | e
   ·exact p3 e
   ·exact p4 e) fun z=>nyi (g6.mp z)
  exact a6l (A:=X.A) hh hy h3 h4 nyi st5 p.isList (by simp;omega) fun h' eb=>⟨rfl,I5.turned (t':=s5.toks) (fun b o hb e=>eb b o hb e) f0 f1 f3 f4 f5⟩
 ·intro D C s' H' m I' n f1 f2 f3 f4 f5 q
  exact⟨m,n,fun h' sb=>⟨.ref D,H',I'.turned (t':=s'.toks) (fun b o hb e=>(sb.2 b hb).trans e) f1 f2 (.inr f3) f4 f5,rfl,q⟩⟩
end
end L2
namespace L2
open PySem PySem.Spec PyProof.Rows PySem.W
def a9Q(C:Addr)(sp:Sp)(E:St->XK)(t:TA):TE:=fun σ H Q=>t σ H fun vs H1=>∀x dx,H1 x=none->H1 dx=none->dx≠x->sp (.ref x::vs) (upd (upd H1 dx (.own x)) x (.ins C dx [])) (fun v H2=>v=.non/\Q (.ref x) H2) (E σ)
structure a4M(k:Nat)(A:D8):Prop where
 dp:A.depth+3 * k+5<recursionLimit
 un:A.units+16 * k+200<cLine
 gd:A.guards=some []
theorem S0.held{k:Nat}{A:D8}(r:S0 k A)(v:Option Value):a4M k (A.mark v):=⟨r.dp,r.un,r.gd⟩
theorem a4M.free{k:Nat}{A:D8}(r:a4M k A):S0 k ({ A with handled:=none }:D8):=⟨rfl,r.dp,r.un,r.gd⟩
theorem a4M.mono{j k:Nat}{A:D8}(r:a4M k A)(h:j<=k):a4M j A:=⟨by have:=r.dp;omega,by have:=r.un;omega,r.gd⟩
structure b7W(P:w4)(w:World)(K:Frag)(mg:Str->Option Value)(base:Heap)(k:Nat)(f:Addr)(fd:Q1)(ps:List Str)(sp:Sp):Prop where
 len:∀vs H Q E,sp vs H Q E->vs.length=ps.length
 run:∀(A:D8) (outer:List Env) (s:c9) (H:Hp) (args:Args) (us:List Value) (vs:List V) (Q:VK),a4M k A->b3t P w K mg base A outer s H->b5v s fd args (ps.zip us)->J2 vs us->sp vs H Q E0 ->
  a1U (model P w) A (.call (.ref f) args) (CR CX0 outer P w H s Q E0) s
abbrev cxH(P:w4)(w:World)(K:Frag)(mg:Str->Option Value)(base:Heap)(N:List Str)(qual:Str)(scope:Scope)(f:Addr)(cd:Value)(A:D8)(outer:List Env)(s:c9)(H:Hp):Cx:=
 { a5T CX0 P w K mg base N qual scope f cd A outer s H E0 with calm:=false,xe:=fun _ _=>False }
structure a9w(P:w4)(w:World)(K:Frag)(mg:Str->Option Value)(base:Heap)(k:Nat)(x:Str)(ps:List Str)(sp:Sp):Prop where
 ex:∃f fd,b7W P w K mg base k f fd ps sp/\mg x=some (.ref f)/\keepIn K (.ref f)=true/\a2r K fd ps []
section
variable {P:w4}{w:World}{K:Frag}{mg:Str->Option Value}{base:Heap}
theorem Fun.okH{x qual:Str}{st:Stmt}{f:Addr}{fd:Q1}{N ps:List Str}{k:Nat}{sp:Sp}(F:Fun K x qual st f fd)(S:C2 N ps (i8 st))(len:∀vs H Q E,sp vs H Q E->vs.length=ps.length)
  (hbody:∀(cdv:Value) (A:D8) (outer:List Env) (s:c9) (H:Hp) (vs:List V) (Q:VK),a4M k (A.deeper (a4Z qual (i8 st) s.heap.objs.size f cdv))->sp vs H Q E0 ->
   ∃t,PSs (cxH P w K mg base N qual (i8 st) f cdv A outer s H) (a0f st) t/\t { nx:=fun _ H'=>Q .non H',rt:=Q } (a2U N vs) H):b7W P w K mg base (k+1) f fd ps sp:=by
 obtain⟨oc,od,kV,doc,pm,an,cdv,ct,osl,rfl,lk,hcd⟩:=F.ex
 refine⟨len,fun A outer s H args us vs Q hr e0 hb r hsp=>?_⟩
 have hl:=len _ _ _ _ hsp
 have KX:K.In s.heap:=e0.mod.kin.keeps fun b o e=>(e0.bs b o e).1
 have lim:s.heap.NoLimit:=e0.mod.nolimit.keeps fun b o e=>(e0.bs b o e).1
 have hkind:∀y∈ps.zip us,(i8 st).names.lookup y.1=some .local\/((i8 st).names.lookup y.1=some .cell/\((cellsFrom (s.heap.objs.size+1) (i8 st).names []).lookup y.1).isSome=true):=fun⟨n,v⟩ hy=>by
  rcases S.par n (a5Y hy).1 with q | q
  ·exact .inl q
  ·exact .inr ⟨q,a4R _ _ _ (.inl q)⟩
 refine codeAny_call_function (by have:=hr.dp;omega) (KX _ _ lk) rfl S.co S.gen rfl (b9z KX hcd) (hb _ _ _ _ ?_)
 refine wpAny_newFunctionEnv_cells S.kind hkind fun env he s1 x=>?_
 subst he
 refine⟨lim.keeps x.toInCall.keep,codeAny_func ?_⟩
 have e1:b3t P w K mg base ({ A with handled:=none }:D8) outer s H:=⟨e0.frames,e0.mod,e0.bs,e0.bsz,e0.funs,e0.frf,e0.hok,e0.bare⟩
 have I0:Inv (a5T CX0 P w K mg base N qual (i8 st) f cdv ({ A with handled:=none }:D8) outer s H E0) [] (a2U N vs) H s1:=b1S S rfl e1 hl r x
 have I:Inv (cxH P w K mg base N qual (i8 st) f cdv A outer s H) [] (a2U N vs) H s1:=
  ⟨⟨I0.ok.mod,I0.ok.kind,I0.ok.glob,I0.ok.blt,I0.ok.above,I0.ok.inj,I0.ok.has,I0.ok.cab,(fun z=>by cases z),Around.frames_deeper e0.frames,I0.ok.stk,I0.ok.exf,I0.ok.bs,I0.ok.bsz,I0.ok.noex,I0.ok.exfs,I0.ok.funs,I0.ok.frf⟩,I0.os,I0.bare,I0.base,I0.loc,I0.cell,I0.free,I0.freeC,I0.pin,I0.hok,I0.len⟩
 have hd:a4M k (A.deeper (a4Z qual (i8 st) s.heap.objs.size f cdv)):=by
  have q:=(S0.deeper (k:=k) hr.free (a4Z qual (i8 st) s.heap.objs.size f cdv))
  exact⟨q.dp,q.un,q.gd⟩
 obtain⟨t,ht,hq⟩:=hbody cdv A outer s H vs Q hd hsp
 refine O8 (ht [] s1 (a2U N vs) H _ I hq) (fun fl s' hs=>?_) fun e s' z=>False.elim z
 have fin:∀ {σ':St} {H':Hp} {v:V} {u:Value},Inv (cxH P w K mg base N qual (i8 st) f cdv A outer s H) [] σ' H' s'->F0 v u->Q v H'->CE outer P w H s Q u s':=
  fun {σ' H' v u} J rv q=>⟨v,H',J.os,J.bare,J.base,J.hok,rv,q⟩
 cases fl with
 | ret u=>
  obtain⟨v,σ',H',J,rv,q⟩:=hs
  exact fin J rv q
 | next=>
  obtain⟨σ',H',J,q⟩:=hs
  exact fin (v:=V.non) (u:=Value.none) J rfl q
 | brk=>
  obtain⟨_,_,_,q⟩:=hs
  exact False.elim q
 | cont=>
  obtain⟨_,_,_,q⟩:=hs
  exact False.elim q
end
section
variable {X:Cx}{k j:Nat}{C f:Addr}{fd:Q1}{ps:List Str}{sp:Sp}{E:St->XK}{x:Str}{p pos:Pos}{e:Expr}{es:List Expr}{t:TA}
theorem c1g(M:a9w X.prog X.w X.K X.mg X.base k x ps sp)(hr:a4M j X.A)(hk:k<=j)(hg:Gl X x)(ha:PA X (e::es) t)
  (hdb:(x == ("__debug__" : Str))=false:=by decide) (he:j5 (e::es) X.env=(false,eval e X.env)::j5 es X.env:=by rfl) (hpl:(X9 pos (j5 es X.env)).any (·.1)=false:=by rfl) :
  PE X (.Call (.Name x p) (e::es) [] pos) (t8 sp [] E0 t):=by
 intro pins s σ H Q I h
 obtain⟨f,fd,F,hm,hkp,hb⟩:=M.ex
 refine Z3 (a4m I hg hm ?_ hdb)
 refine Z7 (h₀:=X.base) I.ok.mod.kin hkp (thn (ha pos pins s σ H _ I h) fun us s1 ⟨vs,H1,I1,r,q⟩=>⟨I1.kIn,?_⟩) he hpl
 have q:sp vs H1 Q E0:=by have q:sp (vs++[]) H1 Q E0:=q;rwa [L7]at q
 have hl:(us++[]).length=ps.length:=by rw[L7,<-r.length];exact F.len _ _ _ _ q
 have hbi:=hb s1 us I1.kIn hl
 rw[L7]at hbi
 refine wpAny_call (a2F (F.run X.A X.stack s1 H1 ⟨us,[]⟩ us vs Q (hr.mono hk) I1.env0 hbi r q) fun r s' hq=>?_)
 cases r with
 | error e=>exact False.elim hq
 | ok fl=>
  cases fl with
  | ret u=>exact I1.after hq
  | next=>exact False.elim hq
  | brk=>exact False.elim hq
  | cont=>exact False.elim hq
theorem c0Z(W:Wi X E)(M:Mk X.K C f)(F:F8 X.prog X.w X.K X.mg X.base (CX1 X.prog X.w) k f fd ps sp)(hr:S0 (k+1) X.A)(hg:Gl X x)(hm:X.mg x=some (.ref C))(hb:a2r X.K fd ps [])(ha:PA X (e::es) t)
  (hdb:(x == ("__debug__" : Str))=false:=by decide) (he:j5 (e::es) X.env=(false,eval e X.env)::j5 es X.env:=by rfl) (hpl:(X9 pos (j5 es X.env)).any (·.1)=false:=by rfl) :
  PE X (.Call (.Name x p) (e::es) [] pos) (a9Q C sp E t):=by
 intro pins s σ H Q I h
 refine Z3 (a4m I hg hm ?_ hdb)
 refine Z7 (h₀:=X.base) I.ok.mod.kin M.kp (thn (ha pos pins s σ H _ I h) fun us s1 ⟨vs,H1,I1,r,q⟩=>⟨I1.kIn,?_⟩) he hpl
 have hq:=q (s1.heap.objs.size+1) s1.heap.objs.size (I1.hok.fresh (a4O _)) (I1.hok.fresh (j9 _)) (v5 (c7G _))
 have I2:=Inv.made (C:=C) I1
 have r2:J2 (V.ref (s1.heap.objs.size+1)::vs) (Value.ref (s1.heap.objs.size+1)::us):=.cons rfl r
 have hl:(Value.ref (s1.heap.objs.size+1)::us++[]).length=ps.length:=by
  have e:=r2.length
  rw[F.len _ _ _ _ hq]at e
  rw[L7]
  exact e.symm
 have hbi:=hb { s1 with heap:=(s1.heap.push M6).push (S9 C s1.heap.objs.size) } (Value.ref (s1.heap.objs.size+1)::us) I2.kIn hl
 rw[L7]at hbi
 refine wpAny_call (c1B (f:=f) I1.kIn M.makes M.init (beq_iff_eq.mp M.fn) (a2F (F.run _ X.stack _ _ ⟨Value.ref (s1.heap.objs.size+1)::us,[]⟩ (Value.ref (s1.heap.objs.size+1)::us) _ _ (E σ) (hr.make C us [])
  (I2.env0.make C us []) hbi r2 hq) fun r s' hq'=>?_))
 cases r with
 | error e=>
  obtain⟨y,cls,dx,H',rfl,o,q'⟩:=c1n I2 hq'
  exact W pins σ H' s' y cls dx o q'
 | ok fl=>
  cases fl with
  | ret u=>
   obtain⟨v,H',I3,rv,ev,q3⟩:=I2.after hq'
   subst ev
   exact⟨rv,⟨V.ref (s1.heap.objs.size+1),H',I3,rfl,q3⟩⟩
  | next=>exact False.elim hq'
  | brk=>exact False.elim hq'
  | cont=>exact False.elim hq'
end
end L2
namespace Y
open PySem PySem.Spec PyProof.Rows L2
structure y'E(X:Cx)(e:Expr)(t:TE):Prop where h:PE X e t
structure y'A(X:Cx)(e:List Expr)(t:TA):Prop where h:PA X e t
structure y'S(X:Cx)(e:Stmt)(t:TS):Prop where h:PS X e t
structure a5S(X:Cx)(e:List Stmt)(t:TS):Prop where h:PSs X e t
structure y'T(X:Cx)(e:Expr)(t:TT):Prop where h:PT X e t
structure y'W(X:Cx)(e:Expr)(t:TT):Prop where h:PW X e t
structure b8j(X:Cx)(e:List Expr)(t:TT):Prop where h:PTs X e t
structure b2k(X:Cx)(tg e:Expr)(t:TI):Prop where h:PI X tg e t
structure y'G(X:Cx)(e:Expr)(t:TG):Prop where h:PG X e t
structure c2K(X:Cx)(e:List Expr)(t:TGs):Prop where h:PGs X e t
structure y'O(X:Cx)(e:Option Expr)(t:TO):Prop where h:PO X e t
structure W1(X:Cx)(f:Value->Value->Sem Value)(r:R2):Prop where h:OpR X f r
structure c4T(X:Cx)(f:Value->Sem Value)(r:V->Hp->VK->Prop):Prop where h:UnR X f r
structure Y9(X:Cx)(f:Value)(r:List V->Hp->VK->Prop):Prop where h:V5 X f r
structure a8I(X:Cx)(id:String)(r:V->List V->Hp->VK->Prop):Prop where h:MtR X id r
structure c4U(X:Cx)(r:R2):Prop where h:IxR X r
structure b9Z(X:Cx)(r:V->Option Int->Option Int->Hp->VK->Prop):Prop where h:SlR X r
structure b5A(X:Cx)(t:b1h):Prop where h:c2m X t
structure c0a(X:Cx)(t:V->V->Hp->VK->Prop):Prop where h:c7A X t
structure c4V(X:Cx)(op:b9G)(t:TIp):Prop where h:PIp X op t
section
variable {X:Cx}{st:Stmt}{rest:List Stmt}{t u:TS}{e a b c o i:Expr}{es more:List Expr}{te ta tb tc to ti:TE}{tt tu:TT}{tr:TA}{pos p pos':Pos}{x:Str}
theorem t5:a5S X [] E3:=⟨L2.c3k⟩
theorem b4(h1:y'S X st t)(h2:a5S X rest u):a5S X (st::rest) (z7 t u):=⟨L2.c0S h1.h h2.h⟩
theorem c5(h1:y'S X st t):a5S X [st] t:=⟨L2.c3j h1.h⟩
theorem b9Q{n:Nat}(hN:X.N.Nodup)(hi:X.N[n]? = some x)(hx:Loc X.env.scope x)(he:y'E X e te)(hs:a1w e (some (.Name x pos')) pos.line X.env=pure false:=by rfl)(hf:X.fn x=true\/X.env.scope.names.lookup x=some .local:=by first | exact .inl rfl | exact .inr rfl) :
  y'S X (.Assign [.Name x pos'] e pos) (E5 te (u4 n)):=⟨L2.c6h hN hi hx he.h hs hf⟩
theorem Y0{tg:Expr}{g:TG}(he:y'E X e te)(hg:y'G X tg g)(hs:swapsWithSole [tg] e pos.line X.env=pure false:=by rfl)(hw:swappedStores [tg] e X.env=pure none:=by rfl)
  (h1:(a1Q [tg] X.env).map (·.2)=[b1o tg X.env]:=by rfl):y'S X (.Assign [tg] e pos) (E5 te g):=⟨L2.c6l he.h hg.h hs hw h1⟩
theorem b8c{tget:V->V->Hp->VK->Prop}{tip:TIp}{tset:b1h}{op:b9G}(ho:y'E X o to)(hi:y'E X i ti)(hg:c0a X tget)(he:y'E X e te)(hp:c4V X op tip)(hs:b5A X tset)
  (ha:∀ov iv new,augStore i ov iv new=(do a3Z [new,ov,iv] (c5y ov iv new);release [new,ov,iv] [];pure .next):=by intros;rfl):y'S X (.AugAssign (.Subscript o i p) op e pos) (b7n to ti te tget tip tset):=⟨L2.c3p ho.h hi.h hg.h he.h hp.h hs.h ha⟩
theorem w6{la lb:List Stmt}(hc:y'T X c tt)(ha:a5S X la t)(hb:a5S X lb u):y'S X (.If c la lb pos) (K7 tt t u):=⟨L2.c8p hc.h ha.h hb.h⟩
theorem t7(he:y'E X e te):y'S X (.Return (some e) pos) (M5 te):=⟨L2.c6i he.h⟩
theorem O5(he:y'E X e te)(hs:a1w e none pos.line X.env=pure false:=by rfl):y'S X (.Expr e pos) (a0H te):=⟨L2.c3n he.h hs⟩
theorem O4{tg:Expr}{wi:TI}{g:TG}{body:List Stmt}(hp:c7R (model X.prog X.w) X.A X.env X.xe)(hc:X.calm=true)(hi:b2k X tg e wi)(hg:y'G X tg g)(hb:a5S X body t)
  (hs:∀x,Q0 e X.env x=pure x:=by intro _;rfl):y'S X (.For tg e body [] pos) (a2y wi g t):=⟨L2.c6j hp hc hi.h hg.h hb.h hs⟩
theorem b8d{n:Nat}(hN:X.N.Nodup)(hi:X.N[n]? = some x)(hx:Loc X.env.scope x)(hf:X.fn x=true\/X.env.scope.names.lookup x=some .local:=by first | exact .inl rfl | exact .inr rfl):y'G X (.Name x pos) (u4 n):=⟨L2.b2J hN hi hx hf⟩
theorem a1l:c2K X [] a9h:=⟨L2.b7B⟩
theorem L8{g:TG}{gs:TGs}(h1:y'G X e g)(h2:c2K X es gs)(h:(a1Q (e::es) X.env).map (·.2)=b1o e X.env::(a1Q es X.env).map (·.2):=by rfl):c2K X (e::es) (a0I g gs):=⟨L2.b0d h1.h h2.h h⟩
theorem a2i{k n:Nat}{gs:TGs}(hc:X.calm=true)(h:c2K X es gs)(hn:(a1Q es X.env).length=n:=by rfl)(hst:(a1Q es X.env).findIdx? (·.1)=none:=by rfl):y'G X (.Tuple es k pos) (a9f X.K n gs):=⟨L2.c0X hc h.h hn hst⟩
theorem a1x{ts:b1h}(ho:y'E X o to)(hi:y'E X i ti)(hs:b5A X ts)
  (ha:∀v,b1o (.Subscript o i pos) X.env v=(do
   let ov <-a3Z [v] (eval o X.env)
   let iv <-a3Z [v,ov] (eval i X.env)
   b9M pos
   a3Z [v,ov,iv] (c5y ov iv v)
   release [v,ov,iv] []):=by intro _;rfl):y'G X (.Subscript o i pos) (a9g to ti ts):=⟨L2.c6o ho.h hi.h hs.h ha⟩
theorem F4{tg:Expr}(hg:Gl X "range")(hm:X.mg "range" = none)(ha:y'A X [a] tr)(hs:j5 [a] X.env=[(false,eval a X.env)]:=by rfl):b2k X tg (.Call (.Name "range" p) [a] [] pos) (a0u tr):=⟨L2.b8F hg hm ha.h hs⟩
theorem O6{tg:Expr}(h:y'E X e te):b2k X tg e (X4 X.K te):=⟨L2.c3t h.h⟩
theorem J4:y'A X [] c6:=⟨L2.c6D⟩
theorem A5(ha:y'E X e te)(hr:y'A X es tr)(hs:j5 (e::es) X.env=(false,eval e X.env)::j5 es X.env:=by rfl):y'A X (e::es) (a8 te tr):=⟨L2.c3D ha.h hr.h hs⟩
theorem F7:b8j X [] T5:=⟨L2.c3h⟩
theorem b1q(h:y'T X e tt):b8j X [e] tt:=⟨L2.c3g h.h⟩
theorem K9{elt iter:Expr}{px:Pos}{ifs:List Expr}{scope:Scope}{wi:TI}(hc:O0 X.N X.env.scope scope x)(hcalm:X.calm=true)(hi:b2k X (.Name x px) iter wi)
  (ht:∀cl C fp s3 H3,b8j (J8 X scope cl C x fp s3 H3) ifs tt) (he:∀cl C fp s3 H3,y'E (J8 X scope cl C x fp s3 H3) elt te)
  (hs:∀x,Q0 iter X.env x=pure x:=by intro _;rfl):y'E X (.ListComp elt [⟨.Name x px,iter,ifs,0⟩] scope pos) (S3 wi tt te):=
 ⟨L2.c3z hc hcalm hi.h (fun cl C fp s3 H3=>(ht cl C fp s3 H3).h) (fun cl C fp s3 H3=>(he cl C fp s3 H3).h) hs⟩
theorem a6W{elt iter:Expr}{px py spos:Pos}{ifs:List Expr}{scope:Scope}{wi:TI}{n:Nat}{y:Str}(hN:X.N.Nodup)(hiy:X.N[n]? = some y)(hy:X.env.scope.names.lookup y=some .local)(hc:O0 X.N X.env.scope scope x)(hcalm:X.calm=true)(hi:b2k X (.Name x px) iter wi)
  (ht:∀cl C fp s3 H3,b8j (J8 X scope cl C x fp s3 H3) ifs tt) (he:∀cl C fp s3 H3,y'E (J8 X scope cl C x fp s3 H3) elt te)
  (hsw:a1w (.ListComp elt [⟨.Name x px,iter,ifs,0⟩] scope pos) (some (.Name y py)) spos.line X.env=pure true:=by rfl)
  (hs:∀x,Q0 iter X.env x=pure x:=by intro _;rfl) :
  y'S X (.Assign [.Name y py] (.ListComp elt [⟨.Name x px,iter,ifs,0⟩] scope pos) spos) (fun D σ H=>S3 wi tt te σ H fun v H1=>D.nx (σ.set n (some v)) H1):=
 ⟨L2.b5Z hN hiy hy hc hcalm hi.h (fun cl C fp s3 H3=>(ht cl C fp s3 H3).h) (fun cl C fp s3 H3=>(he cl C fp s3 H3).h) hsw hs⟩
theorem a9{n:Int}{j}:y'E X (.Constant (.int n) j pos) (tC (.int n)):=⟨L2.c6y⟩
theorem Q8{v:Bool}{j}:y'E X (.Constant (.bool v) j pos) (tC (.bl v)):=⟨L2.c8v⟩
theorem Y2{j}:y'E X (.Constant .none j pos) (tC .non):=⟨L2.c6v⟩
theorem j3{j}:y'E X (.Constant (.str x) j pos) (tC (.str x)):=⟨L2.c6r⟩
theorem b9(n:Nat)(hN:X.N[n]? = some x:=by rfl)(hv:Vis X.env.scope x:=by first | exact Or.inl rfl | exact Or.inr (Or.inl rfl) | exact Or.inr (Or.inr rfl))(hd:(x == ("__debug__" : Str))=false:=by decide)
  (hcd:(x == ("__classdict__" : Str))=false:=by decide):y'E X (.Name x pos) (b8 n):=⟨L2.c6p hN hv hd hcd⟩
theorem U2{v:V}{u:Value}(hg:Gl X x)(hm:X.mg x=none)(hv:a0G x=some u)(r:F0 v u)(hn:x ≠ "__name__" := by decide)(hd:(x == ("__debug__" : Str))=false:=by decide):y'E X (.Name x pos) (tC v):=⟨L2.c3C hg hm hv r hn hd⟩
theorem K5{v:V}(hm:∃u,X.mg x=some u/\F0 v u)(hg:Gl X x)(hd:(x == ("__debug__" : Str))=false:=by decide):y'E X (.Name x pos) (tC v):=by
 obtain⟨u,h1,h2⟩:=hm
 exact⟨L2.c3x hg h1 h2 hd⟩
theorem y7{op:b9G}{r:R2}(ho:W1 X (U1 op) r)(ha:y'E X a ta)(hb:y'E X b tb):y'E X (.BinOp a op b pos) (tOp r ta tb):=⟨L2.c8s ho.h ha.h hb.h⟩
theorem a3l{op:UnaryOp}{r:V->Hp->VK->Prop}(ho:c4T X (unaryOp op) r)(ha:y'E X a ta):y'E X (.UnaryOp op a pos) (tUn r ta):=⟨L2.c8q ho.h ha.h⟩
theorem b3E(ha:y'E X a ta):y'E X (.UnaryOp .Not a pos) (b1A ta):=⟨L2.c6u ha.h⟩
theorem a3M{op:CmpOp}{r:R2}(ho:W1 X (z6 op) r)(ha:y'E X a ta)(hb:y'E X b tb)(hm:Q5 op b=false):y'E X (.Compare a [op] [b] pos) (tOp r ta tb):=⟨L2.c3A ho.h ha.h hb.h hm⟩
theorem a5C{op:CmpOp}{r:R2}(ho:W1 X (z6 op) r)(ha:y'E X a ta)(hb:y'E X b tb)(hm:Q5 op b=false):y'T X (.Compare a [op] [b] pos) (D7 (tOp r ta tb)):=⟨L2.c3i ho.h ha.h hb.h hm⟩
theorem a9H{op op':CmpOp}{r r':R2}(ho:W1 X (z6 op) r)(ho':W1 X (z6 op') r')(ha:y'E X a ta)(hb:y'E X b tb)(hc:y'E X c tc)
  (hm:c7Q [op,op'] [b,c]=false:=by with_unfolding_all rfl):y'E X (.Compare a [op,op'] [b,c] pos) (a4d r r' ta tb tc):=⟨L2.c1e ho.h ho'.h ha.h hb.h hc.h hm⟩
theorem b5w{op op':CmpOp}{r r':R2}(ho:W1 X (z6 op) r)(ho':W1 X (z6 op') r')(ha:y'E X a ta)(hb:y'E X b tb)(hc:y'E X c tc)
  (hm:c7Q [op,op'] [b,c]=false:=by with_unfolding_all rfl):y'T X (.Compare a [op,op'] [b,c] pos) (D7 (a4d r r' ta tb tc)):=⟨L2.c0R ho.h ho'.h ha.h hb.h hc.h hm⟩
theorem Y1{op}(h:y'E X a te):y'E X (.BoolOp op [a] pos) te:=⟨L2.c6t h.h⟩
theorem U6(ha:y'E X a ta)(hb:y'E X (.BoolOp .And (b::more) pos) tb):y'E X (.BoolOp .And (a::b::more) pos) (a1n ta tb):=⟨L2.c6C ha.h hb.h⟩
theorem c2F(ha:y'E X a ta)(hb:y'E X (.BoolOp .Or (b::more) pos) tb):y'E X (.BoolOp .Or (a::b::more) pos) (c2N ta tb):=⟨L2.c8r ha.h hb.h⟩
theorem a9F(hc:y'T X c tt)(ha:y'E X a ta)(hb:y'E X b tb):y'E X (.IfExp c a b pos) (tIf tt ta tb):=⟨L2.c1a hc.h ha.h hb.h⟩
theorem u6{k}(h:y'A X es tr):y'E X (.Tuple es k pos) (J7 tr):=⟨L2.c6q h.h⟩
theorem o8(h:y'A X es tr):y'E X (.List es pos) (F1 tr):=⟨L2.c6x h.h⟩
theorem a1k:y'O X none a1y:=⟨L2.c3s⟩
theorem a1j(h:y'E X e te):y'O X (some e) (a5f te):=⟨L2.c3r h.h⟩
theorem a0k{lo hi:Option Expr}{tl th:TO}{r:V->Option Int->Option Int->Hp->VK->Prop}(hr:b9Z X r)(he:y'E X e te)(hl:y'O X lo tl)(hu:y'O X hi th):y'E X (.Subscript e (.Slice lo hi none p) pos) (tSl r te tl th):=⟨L2.c0Y hr.h he.h hl.h hu.h⟩
theorem c2H{r:R2}(hr:c4U X r)(ha:y'E X a ta)(hb:y'E X b tb)(hs:b3p b):y'E X (.Subscript a b pos) (tOp r ta tb):=⟨L2.c8t hr.h ha.h hb.h hs⟩
theorem b9S{k j:Nat}{ps:List Str}{sp:Sp}(C:F6 X.prog X.w X.K X.mg X.base k x ps sp)(hr:S0 j X.A)(hk:k<=j)(hg:Gl X x)(ha:y'A X (e::es) tr)
  (hdb:(x == ("__debug__" : Str))=false:=by decide) (he:j5 (e::es) X.env=(false,eval e X.env)::j5 es X.env:=by rfl) (hpl:(X9 pos (j5 es X.env)).any (·.1)=false:=by rfl) :
  y'E X (.Call (.Name x p) (e::es) [] pos) (t8 sp [] E0 tr):=⟨L2.c6s C hr hk hg ha.h hdb he hpl⟩
theorem i9{id:String}{r:List V->Hp->VK->Prop}(hc:Y9 X (.builtin id) r)(hg:Gl X x)(hm:X.mg x=none)(hv:a0G x=some (.builtin id))(ha:y'A X (e::es) tr)(hn:x ≠ "__name__" := by decide)(hdb:(x == ("__debug__" : Str))=false:=by decide)
  (he:j5 (e::es) X.env=(false,eval e X.env)::j5 es X.env:=by rfl) (hpl:(X9 pos (j5 es X.env)).any (·.1)=false:=by rfl):y'E X (.Call (.Name x p) (e::es) [] pos) (tCB r tr):=⟨L2.c1h hc.h hg hm hv ha.h hn hdb he hpl⟩
theorem a0l{id:String}{r:List V->Hp->VK->Prop}(hc:Y9 X (.type id) r)(hg:Gl X x)(hm:X.mg x=none)(hv:a0G x=some (.type id))(ha:y'A X (e::es) tr)(hn:x ≠ "__name__" := by decide)(hdb:(x == ("__debug__" : Str))=false:=by decide)
  (he:j5 (e::es) X.env=(false,eval e X.env)::j5 es X.env:=by rfl) (hpl:(X9 pos (j5 es X.env)).any (·.1)=false:=by rfl):y'E X (.Call (.Name x p) (e::es) [] pos) (tCB r tr):=⟨L2.b8G hc.h hg hm hv ha.h hn hdb he hpl⟩
theorem a2G{ty id:String}{name:Str}{r:V->List V->Hp->VK->Prop}{apos:Pos}(pa:c4R ty)(slot:Slot ty name id)(hty:typeOf (.builtin id)=pure (.type "method_descriptor"))(hm:a8I X id r)(ho:y'E X o to)(ha:y'A X (e::es) tr)
  (hbase:X0 o name X.env (eval o X.env)=eval o X.env:=by rfl)
  (hfew:((X9 pos (j5 (e::es) X.env)).all (fun x => !x.1)&&(b3B pos (a4Y [] X.env)).all (fun x=>x.1.isSome)
   && decide ((e::es).length+([]:List b2i).length+(if([]:List b2i).isEmpty then 0 else 1)<30))=true:=by rfl)
  (hline:(apos.endLine == pos.line)=true:=by rfl) (hs:j5 (e::es) X.env=(false,eval e X.env)::j5 es X.env:=by rfl) (hplain:(X9 pos (j5 es X.env)).any (·.1)=false:=by rfl) :
  y'E X (.Call (.Attribute o name apos) (e::es) [] pos) (tBM X.K ty r to tr):=⟨L2.c8u pa slot hty hm.h ho.h ha.h hbase hfew hline hs hplain⟩
theorem W0(ha:y'T X a tt):y'T X (.UnaryOp .Not a pos) (a5g tt):=⟨L2.c6g ha.h⟩
theorem a1V(ha:y'T X a tt):y'W X (.BoolOp .And [a] pos) tt:=⟨L2.c3f ha.h⟩
theorem U5(ha:y'T X a tt):y'W X (.BoolOp .Or [a] pos) tt:=⟨L2.c6d ha.h⟩
theorem a2h(ha:y'T X a tt)(hb:y'W X (.BoolOp .And (b::more) pos) tu):y'W X (.BoolOp .And (a::b::more) pos) (a9R tt tu):=⟨L2.c6e ha.h hb.h⟩
theorem X6(ha:y'T X a tt)(hb:y'W X (.BoolOp .Or (b::more) pos) tu):y'W X (.BoolOp .Or (a::b::more) pos) (tOr tt tu):=⟨L2.c8o ha.h hb.h⟩
theorem P5(h:y'W X e tt):y'T X e tt:=⟨PW.pt h.h⟩
theorem Q6(h:y'E X e te)(he:∀whole,isTrue e X.env whole=(do let v <-whole;b9M e.pos;a3Z [v] (truthy v)):=by intro _;rfl):y'T X e (tB te):=⟨L2.c6f h.h he⟩
theorem D1:W1 X (U1 .Add) X3:=⟨L2.c3M⟩
theorem a1W:W1 X (U1 .Sub) b2C:=⟨L2.c3F⟩
theorem a2N:W1 X (U1 .Mult) b4o:=⟨L2.c3H⟩
theorem a7a:W1 X (U1 .Mult) b5W:=⟨L2.c6F⟩
theorem a1m:W1 X (U1 .Mod) b0X:=⟨L2.c3I⟩
theorem b1v:W1 X (U1 .FloorDiv) c3e:=⟨L2.c3L⟩
theorem b1u:W1 X (U1 .Pow) c0N:=⟨L2.c3G⟩
theorem C4{k:Nat}(hr:S0 k X.A):W1 X (z6 .Eq) qEq:=⟨L2.c6M hr.units0⟩
theorem a5b{k:Nat}(hr:S0 k X.A):W1 X (z6 .NotEq) qNe:=⟨L2.c1o hr.units0⟩
theorem a4a:Y9 X (.type "list") a8N:=⟨L2.b6U⟩
theorem a0m:W1 X (z6 .Lt) qLt:=⟨L2.c6G⟩
theorem a7b:W1 X (z6 .LtE) qLe:=⟨L2.c6H⟩
theorem a2j:W1 X (z6 .Gt) qGt:=⟨L2.c6K⟩
theorem b9X:W1 X (z6 .GtE) qGe:=⟨L2.c6L⟩
theorem a7c:W1 X (z6 .In) (qIn false):=⟨L2.c6J⟩
theorem b3G:W1 X (z6 .NotIn) (qIn true):=⟨L2.b8I⟩
theorem b9W:W1 X (z6 .Is) qIs:=⟨L2.c6I⟩
theorem b3H:W1 X (z6 .IsNot) b5Y:=⟨L2.b8J⟩
theorem b3L:Y9 X (.type "int") c3d:=⟨L2.b9r⟩
theorem a2S:y'E X (.Dict [] [] pos) a4c:=⟨L2.c1b⟩
theorem b3F{k:Nat}(hr:S0 k X.A)(hi:y'E X i ti)(ho:y'E X o to)(h1:Q5 .In o=false):y'E X (.Compare i [.In] [o] pos) (a7X ti to):=⟨L2.c6A (L2.c1i (b7I hr) hi.h ho.h) h1⟩
theorem a9C{k:Nat}(hr:S0 k X.A)(hi:y'E X i ti)(ho:y'E X o to)(h1:Q5 .In o=false):y'T X (.Compare i [.In] [o] pos) (tB (a7X ti to)):=⟨L2.c0Q (L2.c1i (b7I hr) hi.h ho.h) h1⟩
theorem a3K{k:Nat}(hr:S0 k X.A)(ho:y'E X o to)(hi:y'E X i ti)(hv:y'E X e te)(hs:a1w e (some (.Subscript o i pos')) pos.line X.env=pure false:=by rfl):y'S X (.Assign [.Subscript o i pos'] e pos) (a3r to ti te):=⟨L2.c3o (b7I hr) ho.h hi.h hv.h hs⟩
theorem b9R{tg:Expr}(h:y'E X e te):b2k X tg e (c4r te):=⟨L2.c6n h.h⟩
theorem a8H(hc:X.calm=true):Y9 X (.builtin "all") b2F:=⟨L2.b9t hc⟩
theorem a2g:c4T X (unaryOp .USub) (rU fun i=>.int (-i)):=⟨L2.c5B⟩
theorem c5A:c4U X qIx:=⟨L2.c9t⟩
theorem a6p:b9Z X qSl:=⟨L2.c9g⟩
theorem b8a:b9Z X (c5V X.K):=⟨L2.b7o⟩
theorem a2a:b5A X a6C:=⟨L2.c7V⟩
theorem c2I:c0a X b8B:=⟨L2.c8J⟩
theorem b9Y:c4V X .Add (ipI fun i j=>i+j):=⟨L2.c7q⟩
theorem o9:Y9 X (.builtin "len") P4:=⟨L2.b9p⟩
theorem b3M:Y9 X (.builtin "abs") c0P:=⟨L2.b9u⟩
theorem P3:Y9 X (.builtin "isinstance") a4P:=⟨L2.b9q⟩
theorem a2H:a8I X "list.append" a2L:=⟨L2.b6t⟩
theorem b5z:a8I X "str.join" b1J:=⟨L2.c1y⟩
end
theorem a3N{P:w4}{w:World}{K:Fg}{mg:Str->Option Value}{base:Heap}{x qual:Str}{st:Stmt}{f:Addr}{fd:Q1}{N ps:List Str}{k:Nat}{sp:Sp}(F:Fun K x qual st f fd)(y'S:C2 N ps (i8 st))(len:∀vs H Q y'E,sp vs H Q y'E->vs.length=ps.length)
  (hbody:∀(cdv:Value) (y'A:D8) (outer:List Env) (s:c9) (H:Hp) (vs:List V) (Q:VK) (y'E:XK),S0 k (y'A.deeper (a4Z qual (i8 st) s.heap.objs.size f cdv))->sp vs H Q y'E ->
   ∃t,a5S (a5T CX0 P w K mg base N qual (i8 st) f cdv y'A outer s H y'E).nox (a0f st) t/\t { nx:=fun _ H'=>Q .non H',rt:=Q } (a2U N vs) H):F8 P w K mg base CX0 (k+1) f fd ps sp:=
 F.ok y'S len fun cdv y'A outer s H vs Q y'E hr h=>let⟨t,a,b⟩:=hbody cdv y'A outer s H vs Q y'E hr h; ⟨t,a.h,b⟩
end Y
namespace Y
open PySem PySem.Spec PyProof.Rows L2
section
variable {X:Cx}{st:Stmt}{rest:List Stmt}{t u:TS}{e a b c o i:Expr}{es more:List Expr}{te ta tb tc to ti:TE}{tt tu:TT}{tr:TA}{pos p pos':Pos}{x y:Str}
theorem a3L{elts:List Expr}{x1}{tp:Pos}(hg:Gl X "enumerate")(hm:X.mg "enumerate" = none)(ha:y'A X [a] tr)(hs:j5 [a] X.env=[(false,eval a X.env)]:=by rfl) :
  b2k X (.Tuple elts x1 tp) (.Call (.Name "enumerate" p) [a] [] pos) (a8S X.K tr):=⟨L2.c3u hg hm ha.h hs⟩
theorem b3D{elts:List Expr}{x1}{tp:Pos}(hg:Gl X "zip")(hm:X.mg "zip" = none)(ha:y'A X [a,b] tr)(hs:j5 [a,b] X.env=[(false,eval a X.env),(false,eval b X.env)]:=by rfl)(hs2:j5 [b] X.env=[(false,eval b X.env)]:=by rfl) :
  b2k X (.Tuple elts x1 tp) (.Call (.Name "zip" p) [a,b] [] pos) (c1M X.K tr):=⟨L2.c6m hg hm ha.h hs hs2⟩
theorem a6q{elt iter:Expr}{px py pt:Pos}{kt}{ifs:List Expr}{scope:Scope}{wi:TI}(hc:a4z X.N X.env.scope scope x y)(hcalm:X.calm=true)(hi:b2k X (.Tuple [.Name x px,.Name y py] kt pt) iter wi)
  (ht:∀cl C fp s3 H3,b8j (T0 X scope cl C x y fp s3 H3) ifs tt) (he:∀cl C fp s3 H3,y'E (T0 X scope cl C x y fp s3 H3) elt te)
  (hs:∀x,Q0 iter X.env x=pure x:=by intro _;rfl):y'E X (.ListComp elt [⟨.Tuple [.Name x px,.Name y py] kt pt,iter,ifs,0⟩] scope pos) (a7Y X.K wi tt te):=
 ⟨L2.c1c hc hcalm hi.h (fun cl C fp s3 H3=>(ht cl C fp s3 H3).h) (fun cl C fp s3 H3=>(he cl C fp s3 H3).h) hs⟩
theorem b5x{body:List Stmt}(hp:c7R (model X.prog X.w) X.A X.env X.xe)(hc:y'T X c tt)(hb:a5S X body t):y'S X (.While c body [] pos) (b2m tt t):=⟨L2.c0T hp hc.h hb.h⟩
theorem a2R{e c:Option Expr}:y'S X (.Raise e c pos) (fun _ _ _=>False):=⟨L2.c0U⟩
theorem a9G{f:Str}(he:y'E X e te)(hb:X0 e f X.env (eval e X.env)=eval e X.env:=by rfl):y'E X (.Attribute e f pos) (b8o X.K te f):=⟨L2.c6z he.h hb⟩
theorem a9D{f:Str}(ha:y'E X o to)(hv:y'E X e te)(hs:a1w e (some (.Attribute o f pos')) pos.line X.env=pure false:=by rfl):y'S X (.Assign [.Attribute o f pos'] e pos) (b8y X.K to te f):=⟨L2.c6k ha.h hv.h hs⟩
theorem b9T{pl:Sem Bool}{k j:Nat}{m:Str}{C:Addr}{ps:List Str}{sp:Sp}{apos:Pos}(M:a9v X.prog X.w X.K X.mg X.base k m C ps sp)(hr:S0 j X.A)(hk:k<=j)(ho:y'E X o to)(ha:y'A X (e::es) tr)
  (hst:j5 (e::es) X.env=(false,eval e X.env)::j5 es X.env:=by rfl) (hpl:(X9 pos (j5 es X.env)).any (·.1)=false:=by rfl)
  (ht:eval (.Call (.Attribute o m apos) (e::es) [] pos) X.env=(do
   let ov <-eval o X.env
   b9M apos.atName
   let(f,first) <-a3Z [ov] (b9N ov m pl)
   callWith pos f first (X9 pos (j5 (e::es) X.env)) (b3B pos (a4Y [] X.env))):=by rfl) :
  y'E X (.Call (.Attribute o m apos) (e::es) [] pos) (b3U C m sp [] E0 to tr):=⟨L2.c6w (pl:=pl) M hr hk ho.h ha.h hst hpl ht⟩
theorem b9U{ty id:String}{name:Str}{r:V->List V->Hp->VK->Prop}{apos:Pos}(pa:c4R ty)(slot:Slot ty name id)(hty:typeOf (.builtin id)=pure (.type "method_descriptor"))(hm:a8I X id r)(ho:y'E X o to)
  (hbase:X0 o name X.env (eval o X.env)=eval o X.env:=by rfl) (hline:(apos.endLine == pos.line)=true:=by rfl):y'E X (.Call (.Attribute o name apos) [] [] pos) (c2O X.K ty r to):=⟨L2.c6B pa slot hty hm.h ho.h hbase hline⟩
structure c2J(X:Cx)(pos:Pos)(ks:List (Option Expr))(vs:List Expr)(trs:List (TE×TE)):Prop where h:PPs X pos ks vs trs
theorem b1r:c2J X pos [] [] []:=⟨L2.c3q⟩
theorem a9E{ks:List (Option Expr)}{vs:List Expr}{trs:List (TE×TE)}(hk:y'E X a ta)(hv:y'E X b tb)(hr:c2J X pos ks vs trs):c2J X pos (some a::ks) (b::vs) ((ta,tb)::trs):=⟨L2.c0V hk.h hv.h hr.h⟩
theorem b1t{keys:List (Option Expr)}{values:List Expr}{trs:List (TE×TE)}(h:c2J X pos keys values trs)(hall:keys.all (·.isSome)=true:=by rfl)(hl:keys.length=values.length:=by rfl)(h0:keys≠[]:=by intro z;cases z)
  (h15:keys.length<=15:=by decide):y'E X (.Dict keys values pos) (b3W trs):=⟨L2.c3y h.h hall hl h0 h15⟩
theorem a0j{k:Nat}(hr:S0 k X.A)(hi:y'E X i ti)(ho:y'E X o to)(h1:Q5 .NotIn o=false):y'T X (.Compare i [.NotIn] [o] pos) (tB (a2b ti to)):=⟨L2.c0Q (L2.b8H (b7I hr) hi.h ho.h) h1⟩
theorem b3K(hc:X.calm=true):Y9 X (.builtin "min") c0O:=⟨L2.b9o hc⟩
theorem a8G(hc:X.calm=true):Y9 X (.builtin "any") b2E:=⟨L2.b9s hc⟩
theorem a9I:Y9 X (.builtin "sorted") a5J:=⟨L2.b3f⟩
theorem b0S(hc:X.calm=true):Y9 X (.type "list") a8g:=⟨L2.b5i hc⟩
theorem b3I:a8I X "list.index" a8h:=⟨L2.b8V⟩
theorem a7d:a8I X "list.extend" a4j:=⟨L2.b6s⟩
theorem b8g:a8I X "list.pop" b8A:=⟨L2.c4d⟩
theorem b8f{k:Nat}(hr:S0 k X.A):W1 X (z6 .Eq) (c6c X.K):=⟨L2.c3K hr⟩
theorem b8e:W1 X (z6 .In) (c6b X.K):=⟨L2.c3J⟩
end
end Y
namespace Y
open PySem PySem.Spec PyProof.Rows L2
end Y
namespace Y
open PySem PySem.Spec PyProof.Rows L2
end Y
namespace Y
open PySem PySem.Spec PyProof.Rows L2
end Y
namespace Y
open PySem PySem.Spec PyProof.Rows L2
end Y
namespace Y
open PySem PySem.Spec PyProof.Rows L2
theorem a6b{X:Cx}:Y9 X (.type "tuple") a5k:=⟨L2.b5h⟩
end Y
namespace Y
open PySem PySem.Spec PyProof.Rows L2
section
variable {X:Cx}{e0 e1 e2 e3 e4:Expr}{t0 t1 t2 t3 t4:TE}
theorem j8(h0:y'E X e0 t0)(s0:j5 [e0] X.env=(false,eval e0 X.env)::j5 [] X.env:=by rfl):y'A X [e0] (a8 t0 c6):=(A5 h0 J4 s0)
theorem q9(h0:y'E X e0 t0)(h1:y'E X e1 t1)(s0:j5 [e0,e1] X.env=(false,eval e0 X.env)::j5 [e1] X.env:=by rfl)(s1:j5 [e1] X.env=(false,eval e1 X.env)::j5 [] X.env:=by rfl):y'A X [e0,e1] (a8 t0 (a8 t1 c6)):=(A5 h0 (A5 h1 J4 s1) s0)
theorem a0e(h0:y'E X e0 t0)(h1:y'E X e1 t1)(h2:y'E X e2 t2)(s0:j5 [e0,e1,e2] X.env=(false,eval e0 X.env)::j5 [e1,e2] X.env:=by rfl)(s1:j5 [e1,e2] X.env=(false,eval e1 X.env)::j5 [e2] X.env:=by rfl)(s2:j5 [e2] X.env=(false,eval e2 X.env)::j5 [] X.env:=by rfl):y'A X [e0,e1,e2] (a8 t0 (a8 t1 (a8 t2 c6))):=(A5 h0 (A5 h1 (A5 h2 J4 s2) s1) s0)
theorem a8F(h0:y'E X e0 t0)(h1:y'E X e1 t1)(h2:y'E X e2 t2)(h3:y'E X e3 t3)(s0:j5 [e0,e1,e2,e3] X.env=(false,eval e0 X.env)::j5 [e1,e2,e3] X.env:=by rfl)(s1:j5 [e1,e2,e3] X.env=(false,eval e1 X.env)::j5 [e2,e3] X.env:=by rfl)(s2:j5 [e2,e3] X.env=(false,eval e2 X.env)::j5 [e3] X.env:=by rfl)(s3:j5 [e3] X.env=(false,eval e3 X.env)::j5 [] X.env:=by rfl):y'A X [e0,e1,e2,e3] (a8 t0 (a8 t1 (a8 t2 (a8 t3 c6)))):=(A5 h0 (A5 h1 (A5 h2 (A5 h3 J4 s3) s2) s1) s0)
theorem a6Z(h0:y'E X e0 t0)(h1:y'E X e1 t1)(h2:y'E X e2 t2)(h3:y'E X e3 t3)(h4:y'E X e4 t4)(s0:j5 [e0,e1,e2,e3,e4] X.env=(false,eval e0 X.env)::j5 [e1,e2,e3,e4] X.env:=by rfl)(s1:j5 [e1,e2,e3,e4] X.env=(false,eval e1 X.env)::j5 [e2,e3,e4] X.env:=by rfl)(s2:j5 [e2,e3,e4] X.env=(false,eval e2 X.env)::j5 [e3,e4] X.env:=by rfl)(s3:j5 [e3,e4] X.env=(false,eval e3 X.env)::j5 [e4] X.env:=by rfl)(s4:j5 [e4] X.env=(false,eval e4 X.env)::j5 [] X.env:=by rfl):y'A X [e0,e1,e2,e3,e4] (a8 t0 (a8 t1 (a8 t2 (a8 t3 (a8 t4 c6))))):=(A5 h0 (A5 h1 (A5 h2 (A5 h3 (A5 h4 J4 s4) s3) s2) s1) s0)
end
end Y
local macro_rules | `(tactic| walk_at "sc") => `(tactic| exact ⟨rfl, rfl, rfl, by decide +kernel, rfl, by decide +kernel, by decide +kernel⟩)
namespace Y
open PySem PySem.Spec PyProof.Rows L2
section
variable {X:Cx}{e a b o:Expr}{es:List Expr}{te ta tb to:TE}{tr:TA}{pos p pos':Pos}{x:Str}
theorem v9(n:Nat)(hN:X.N.Nodup)(he:y'E X e te)(hi:X.N[n]? = some x:=by rfl)(hx:Loc X.env.scope x:=by first | exact Or.inl rfl | exact Or.inr rfl)(hs:a1w e (some (.Name x pos')) pos.line X.env=pure false:=by rfl)(hf:X.fn x=true\/X.env.scope.names.lookup x=some .local:=by first | exact .inl rfl | exact .inr rfl) :
  y'S X (.Assign [.Name x pos'] e pos) (E5 te (u4 n)):=b9Q hN hi hx he hs hf
theorem M7(n:Nat)(hN:X.N.Nodup)(hi:X.N[n]? = some x:=by rfl)(hx:Loc X.env.scope x:=by first | exact Or.inl rfl | exact Or.inr rfl)(hf:X.fn x=true\/X.env.scope.names.lookup x=some .local:=by first | exact .inl rfl | exact .inr rfl):y'G X (.Name x pos) (u4 n):=b8d hN hi hx hf
theorem o7{k j:Nat}{ps:List Str}{sp:Sp}(C:F6 X.prog X.w X.K X.mg X.base k x ps sp)(hr:S0 j X.A)(ha:y'A X (e::es) tr)(hk:k<=j:=by decide)(hg:Gl X x:=by rfl)
  (hdb:(x == ("__debug__" : Str))=false:=by decide) (he:j5 (e::es) X.env=(false,eval e X.env)::j5 es X.env:=by rfl) (hpl:(X9 pos (j5 es X.env)).any (·.1)=false:=by rfl) :
  y'E X (.Call (.Name x p) (e::es) [] pos) (t8 sp [] E0 tr):=b9S C hr hk hg ha hdb he hpl
theorem C0(ha:y'E X a ta)(hb:y'E X b tb)(hs:b3p b:=by exact fun _ _=>rfl):y'E X (.Subscript a b pos) (tOp qIx ta tb):=c2H c5A ha hb hs
theorem a5a{op:CmpOp}{r:R2}(ho:W1 X (z6 op) r)(ha:y'E X a ta)(hb:y'E X b tb)(hm:Q5 op b=false:=by exact b6p _):y'E X (.Compare a [op] [b] pos) (tOp r ta tb):=a3M ho ha hb hm
theorem C7{op:CmpOp}{r:R2}(ho:W1 X (z6 op) r)(ha:y'E X a ta)(hb:y'E X b tb)(hm:Q5 op b=false:=by exact b6p _):y'T X (.Compare a [op] [b] pos) (D7 (tOp r ta tb)):=a5C ho ha hb hm
end
end Y
namespace Y
open PySem PySem.Spec PyProof.Rows L2
section
variable {X:Cx}{e o i:Expr}{te to ti:TE}{t:TS}{pos p:Pos}{k:Nat}
end
end Y
namespace Y
open PySem PySem.Spec PyProof.Rows L2
end Y
namespace Y
open PySem PySem.Spec PyProof.Rows L2
section
variable {X:Cx}{i o:Expr}{ti to:TE}{pos:Pos}{k:Nat}
end
end Y
namespace L2
open PySem PySem.Spec PyProof.Rows PySem.W
structure a1K(P:w4)(w:World)(K:Frag)(mg:Str->Option Value)(base:Heap)(k:Nat)(x:Str)(ps:List Str)(sp:Sp):Prop where
 ex:∃f fd,F8 P w K mg base (CX1 P w) k f fd ps sp/\mg x=some (.ref f)/\keepIn K (.ref f)=true/\a2r K fd ps []
structure a3H(P:w4)(w:World)(K:Frag)(mg:Str->Option Value)(base:Heap)(k:Nat)(x:Str)(C:Addr)(ps:List Str)(sp:Sp):Prop where
 ex:∃f fd,F8 P w K mg base CX0 k f fd ps sp/\mg x=some (.ref C)/\b5l K C/\findIn K (.ref C) "__init__" = some (some (.ref f))/\typeIn K (.ref f)=some (.type "function")/\a2r K fd ps []
structure c9x(K:Frag)(mg:Str->Option Value)(x:Str)(C:Addr):Prop where
 ex:mg x=some (.ref C)/\b5l K C/\findIn K (.ref C) "__init__" = some (some (.builtin "ValueError.__init__"))
def a2z(sp:Sp)(E:St->XK)(t:TA):TE:=fun σ H Q=>t σ H fun vs H1=>sp vs H1 Q (E σ)
section
variable {X:Cx}{k j:Nat}{ps:List Str}{sp:Sp}{E:St->XK}{x:Str}{p pos:Pos}{e:Expr}{es:List Expr}{t:TA}
theorem c1f(W:Wi X E)(C:a1K X.prog X.w X.K X.mg X.base k x ps sp)(hr:S0 j X.A)(hk:k<=j)(hg:Gl X x)(ha:PA X (e::es) t)
  (hdb:(x == ("__debug__" : Str))=false:=by decide) (he:j5 (e::es) X.env=(false,eval e X.env)::j5 es X.env:=by rfl) (hpl:(X9 pos (j5 es X.env)).any (·.1)=false:=by rfl) :
  PE X (.Call (.Name x p) (e::es) [] pos) (a2z sp E t):=by
 intro pins s σ H Q I h
 obtain⟨f,fd,F,hm,hkp,hb⟩:=C.ex
 refine Z3 (a4m I hg hm ?_ hdb)
 refine Z7 (h₀:=X.base) I.ok.mod.kin hkp (thn (ha pos pins s σ H _ I h) fun us s1 ⟨vs,H1,I1,r,q⟩=>⟨I1.kIn,?_⟩) he hpl
 have hl:(us++[]).length=ps.length:=by rw[L7,<-r.length];exact F.len _ _ _ _ q
 have hbi:=hb s1 us I1.kIn hl
 rw[L7]at hbi
 refine wpAny_call (a2F (F.run X.A X.stack s1 H1 ⟨us,[]⟩ us vs Q (E σ) (hr.mono hk) I1.env0 hbi r q) fun r s' hq=>?_)
 cases r with
 | error e=>
  obtain⟨y,cls,dx,H',rfl,o,q'⟩:=c1n I1 hq
  exact W pins σ H' s' y cls dx o q'
 | ok fl=>
  cases fl with
  | ret u=>exact I1.after hq
  | next=>exact False.elim hq
  | brk=>exact False.elim hq
  | cont=>exact False.elim hq
end
end L2
namespace Y
open PySem PySem.Spec PyProof.Rows L2
theorem b8h{P:w4}{w:World}{K:Fg}{mg:Str->Option Value}{base:Heap}{x qual:Str}{st:Stmt}{f:Addr}{fd:Q1}{N ps:List Str}{k:Nat}{sp:Sp}(F:Fun K x qual st f fd)(y'S:C2 N ps (i8 st))(len:∀vs H Q y'E,sp vs H Q y'E->vs.length=ps.length)
  (hbody:∀(cdv:Value) (y'A:D8) (outer:List Env) (s:c9) (H:Hp) (vs:List V) (Q:VK) (y'E:XK),S0 k (y'A.deeper (a4Z qual (i8 st) s.heap.objs.size f cdv))->sp vs H Q y'E ->
   ∃t,a5S (a5T (CX1 P w) P w K mg base N qual (i8 st) f cdv y'A outer s H y'E) (a0f st) t/\t { nx:=fun _ H'=>Q .non H',rt:=Q } (a2U N vs) H):F8 P w K mg base (CX1 P w) (k+1) f fd ps sp:=by
 obtain⟨oc,od,kV,doc,pm,an,cdv,ct,osl,rfl,lk,hcd⟩:=F.ex
 refine c5n lk hcd y'S len fun y'A outer s H vs Q y'E hr hsp=>?_
 obtain⟨t,h,q⟩:=hbody cdv y'A outer s H vs Q y'E hr hsp
 exact⟨t,h.h,q⟩
section
variable {X:Cx}{k j:Nat}{C C1:Addr}{dx:Option Addr}{ps:List Str}{sp:Sp}{EE:L2.St->XK}{x c1 n:Str}{p np cpos hpos pos pos':Pos}{e o value elt:Expr}{es ifs:List Expr}{tr:TA}{ta tv te:TE}{tt:TT}{f:Str}{y:Addr}
theorem a5D(ha:y'E X o ta)(hv:y'E X value tv)(hs:a1w value (some (.Attribute o f pos')) pos.line X.env=pure false:=by rfl):y'S X (.Assign [.Attribute o f pos'] value pos) (b1D X.K ta tv f):=⟨L2.c3l ha.h hv.h hs⟩
theorem a6X(M:a3H X.prog X.w X.K X.mg X.base k x C ps sp)(y'W:Wi X EE)(hr:S0 j X.A)(ha:y'A X (e::es) tr)(hk:k+1<=j:=by decide)(hc:X.calm=true:=by rfl)(hg:Gl X x:=by rfl)(hdb:(x == ("__debug__" : Str))=false:=by decide)
  (he:j5 (e::es) X.env=(false,eval e X.env)::j5 es X.env:=by rfl) (hpl:(X9 cpos (j5 es X.env)).any (·.1)=false:=by rfl):y'S X (.Raise (some (.Call (.Name x np) (e::es) [] cpos)) none pos) (a3z C sp EE tr):=by
 obtain⟨g,fd,F,hm,c,hi,hf,hb⟩:=M.ex
 exact⟨L2.b8C hc y'W c hi hf F (hr.mono hk) hg hm hb ha.h hdb he hpl⟩
theorem a6Y(y'W:Wi X EE)(M:a1K X.prog X.w X.K X.mg X.base k x ps sp)(hr:S0 j X.A)(ha:y'A X (e::es) tr)(hk:k<=j:=by decide)(hg:Gl X x:=by rfl)(hdb:(x == ("__debug__" : Str))=false:=by decide)
  (he:j5 (e::es) X.env=(false,eval e X.env)::j5 es X.env:=by rfl) (hpl:(X9 pos (j5 es X.env)).any (·.1)=false:=by rfl):y'E X (.Call (.Name x p) (e::es) [] pos) (a2z sp EE tr):=⟨L2.c1f y'W M hr hk hg ha.h hdb he hpl⟩
theorem b8b{i:Nat}{body suite:List Stmt}{b0:Stmt}{tb:(L2.St->XK)->TS}{th:Addr->Addr->Option Addr->TS}(hc:X.calm=true)(hst:X.stack=X.env::X.outer)(hf:X.env.frame=some X.env.locals)(hN:X.N.Nodup)(hi:X.N[i]? = some n)(hl:X.env.scope.names.lookup n=some .local)(hg:Gl X c1)(hm:X.mg c1=some (.ref C1))(h1:a8Z X.K C1=true)
  (hb:∀(EE:L2.St->XK) (pins:List (Addr×Obj)) (xe:Value->c9->Prop),Wi (X.tryB pins xe) EE->a5S (X.tryB pins xe) body (tb EE))
  (hs:∀(pins:List (Addr×Obj)) (x C:Addr) (dx:Option Addr) (oe:Obj),b0G (X.suite pins x oe) x C dx->a5S (X.suite pins x oe) (b0::suite) (th x C dx)) (hdb:(c1 == ("__debug__" : Str))=false:=by decide) :
  y'S X (.Try body [.ExceptHandler (some (.Name c1 np)) (some n) (b0::suite) hpos] [] [] pos) (b3T X.K C1 i tb th):=
 ⟨L2.c3m hc hst hf hN hi hl hg hm h1 (fun EE pins xe y'W=>(hb EE pins xe y'W).h) (fun pins x C dx oe vs a b c d=>(hs pins x C dx oe (b8p a b c d)).h) hdb⟩
theorem a0Z(hx:b0G X y C dx):Y9 X (.builtin "isinstance") (fun vs H Q=>b5k dx H/\c6a X.K y C vs H Q):=⟨L2.c2f hx⟩
theorem b1s(hx:b0G X y C dx)(he:y'E X e ta)(hb:X0 e f X.env (eval e X.env)=eval e X.env:=by rfl):y'E X (.Attribute e f pos) (b3S X.K y C dx ta f):=⟨L2.c3v hx he.h hb⟩
theorem b9V(hu:X.A.units<cLine):W1 X (z6 .NotEq) qNe:=⟨L2.c1o hu⟩
end
end Y
namespace L2
open PySem PySem.Spec PyProof.Rows PySem.W
structure a8A(P:w4)(w:World)(K:Frag)(mg:Str->Option Value)(base:Heap)(k:Nat)(x:Str)(C:Addr)(ps:List Str)(sp:Sp):Prop where
 ex:∃f fd,F8 P w K mg base (CX1 P w) k f fd ps sp/\mg x=some (.ref C)/\Mk K C f/\a2r K fd ps []
def b3Y(a b:Sp):Sp:=fun vs H Q E=>a vs H Q E0\/b vs H Q E
theorem F8.or{P:w4}{w:World}{K:Frag}{mg:Str->Option Value}{base:Heap}{j k n:Nat}{f:Addr}{fd:Q1}{ps:List Str}{a b:Sp}(F:F8 P w K mg base CX0 j f fd ps a)(G:F8 P w K mg base (CX1 P w) k f fd ps b)(hj:j<=n)(hk:k<=n) :
  F8 P w K mg base (CX1 P w) n f fd ps (b3Y a b):=by
 refine⟨fun vs H Q E h=>h.elim (F.len vs H Q E0) (G.len vs H Q E),fun A outer s H args us vs Q E hr e0 hb r h=>?_⟩
 rcases h with h | h
 ·refine a2F (F.run A outer s H args us vs Q E0 (hr.mono hj) e0 hb r h) fun r s' q=>?_
  cases r with
  | error e=>exact False.elim q
  | ok fl=>cases fl <;> exact q
 ·exact G.run A outer s H args us vs Q E (hr.mono hk) e0 hb r h
theorem a8A.or{P:w4}{w:World}{K:Frag}{mg:Str->Option Value}{base:Heap}{j k n:Nat}{x:Str}{C f:Addr}{fd:Q1}{ps:List Str}{a b:Sp}(F:F8 P w K mg base CX0 j f fd ps a)(G:F8 P w K mg base (CX1 P w) k f fd ps b)(hj:j<=n)(hk:k<=n)
  (hm:mg x=some (.ref C)) (m:Mk K C f) (hb:a2r K fd ps []):a8A P w K mg base n x C ps (b3Y a b):=⟨f,fd,F.or G hj hk,hm,m,hb⟩
end L2
namespace Y
open PySem PySem.Spec PyProof.Rows L2
section
variable {X:Cx}{k j:Nat}{C:Addr}{dx:Option Addr}{ps:List Str}{sp:Sp}{EE:L2.St->XK}{x:Str}{p pos:Pos}{e elt:Expr}{es ifs:List Expr}{tr:TA}{te tl:TE}{tt:TT}{y:Addr}
theorem c2G(y'W:Wi X EE)(M:a8A X.prog X.w X.K X.mg X.base k x C ps sp)(hr:S0 j X.A)(ha:y'A X (e::es) tr)(hk:k+1<=j:=by decide)(hg:Gl X x:=by rfl)(hdb:(x == ("__debug__" : Str))=false:=by decide)
  (he:j5 (e::es) X.env=(false,eval e X.env)::j5 es X.env:=by rfl) (hpl:(X9 pos (j5 es X.env)).any (·.1)=false:=by rfl):y'E X (.Call (.Name x p) (e::es) [] pos) (a9Q C sp EE tr):=by
 obtain⟨f,fd,F,hm,m,hb⟩:=M.ex
 exact⟨L2.c0Z y'W m F (hr.mono hk) hg hm hb ha.h hdb he hpl⟩
theorem c2E(M:a9w X.prog X.w X.K X.mg X.base k x ps sp)(hr:a4M j X.A)(ha:y'A X (e::es) tr)(hk:k<=j:=by decide)(hg:Gl X x:=by rfl)(hdb:(x == ("__debug__" : Str))=false:=by decide)
  (he:j5 (e::es) X.env=(false,eval e X.env)::j5 es X.env:=by rfl) (hpl:(X9 pos (j5 es X.env)).any (·.1)=false:=by rfl):y'E X (.Call (.Name x p) (e::es) [] pos) (t8 sp [] E0 tr):=⟨L2.c1g M hr hk hg ha.h hdb he hpl⟩
theorem b5y{l:Expr}{px:Pos}{scope:Scope}(hx:b0G X y C dx)(hh:X.A.handled=some (.ref y))(hc:O0 X.N X.env.scope scope x)(hl:y'E X l tl)
  (ht:∀cl C fp s3 H3,b8j (J8 X scope cl C x fp s3 H3) ifs tt) (he:∀cl C fp s3 H3,y'E (J8 X scope cl C x fp s3 H3) elt te) (hs:∀x,Q0 l X.env x=pure x:=by intro _;rfl) :
  y'E X (.ListComp elt [⟨.Name x px,l,ifs,0⟩] scope pos) (S3 (X4 X.K tl) tt te):=⟨L2.c1d hx hh hc hl.h (fun a b c d e=>(ht a b c d e).h) (fun a b c d e=>(he a b c d e).h) hs⟩
theorem b3C{sts:List Stmt}:a5S X sts b5F:=⟨L2.b8D⟩
end
theorem b8i{P:w4}{w:World}{K:Fg}{mg:Str->Option Value}{base:Heap}{x qual:Str}{st:Stmt}{f:Addr}{fd:Q1}{N ps:List Str}{k:Nat}{sp:Sp}(F:Fun K x qual st f fd)(y'S:C2 N ps (i8 st))(len:∀vs H Q y'E,sp vs H Q y'E->vs.length=ps.length)
  (hbody:∀(cdv:Value) (y'A:D8) (outer:List Env) (s:c9) (H:Hp) (vs:List V) (Q:VK),a4M k (y'A.deeper (a4Z qual (i8 st) s.heap.objs.size f cdv))->sp vs H Q E0 ->
   ∃t,a5S (cxH P w K mg base N qual (i8 st) f cdv y'A outer s H) (a0f st) t/\t { nx:=fun _ H'=>Q .non H',rt:=Q } (a2U N vs) H):b7W P w K mg base (k+1) f fd ps sp:=
 F.okH y'S len fun cdv y'A outer s H vs Q hr h=>let⟨t,a,b⟩:=hbody cdv y'A outer s H vs Q hr h; ⟨t,a.h,b⟩
end Y
namespace L2
open PySem PySem.Spec PyProof.Rows PySem.W
section
variable {prog:w4}{w:World}{A:D8}{E:Value->c9->Prop}{s:c9}{y:Addr}{oy:Obj}{vy:Array Value}
theorem b5C(hh:A.handled=some (.ref y))(hdy:oy.data=.fields vy)(h2:vy[2]? = some .none)(I ax:Addr)(hne:ax≠I)(hyI:y≠I)(items:Array Value) :
  Walks prog w A I [I,ax,y] [I] items.size (fun i v=>items[i]? = some v) (fun i h=>(h.IsListIter I ax i/\h.IsList ax items)/\h.get? y=some oy) where
 sub:=fun b hb=>by simp at hb;simp[hb]
 frame:=fun _ _ _ st hk=>⟨⟨st.1.1.at fun o e=>hk I (by simp) o e,st.1.2.at fun o e=>hk ax (by simp) o e⟩,hk y (by simp) _ st.2⟩
 item:=fun i s Q E hi st hQ=>by
  refine a8X st.1.1 st.1.2 (x:=items[i]) (by simp[hi]) fun h' hit' hs'=>?_
  exact hQ _ h' s.toks (by simp[hi]) ⟨⟨hit',st.1.2.extBut hs'.extBut hne⟩,(hs'.2 y hyI).trans st.2⟩ fun b o hb e=>hs'.extBut b o (fun h=>hb (by simp[h])) e
 done:=fun s Q E st hQ=>a6l hh st.2 hdy h2 hyI st.1.1 st.1.2 (by simp) fun h' he'=>hQ h' s.toks fun b o hb e=>he' b o (fun h=>hb (by simp[h])) e
 self:=fun _ _ _ _ st hQ=>wpAny_pyIter_listiter st.1.1 hQ
theorem c0o{l:Addr}{xs:Array (Int×Tok)}{Q:Value->c9->Prop}(hh:A.handled=some (.ref y))(hy:s.heap.get? y=some oy)(hdy:oy.data=.fields vy)(h2:vy[2]? = some .none)(hl:s.heap.IsList l (intItems xs))
  (h:∀h' tk t',(∀b o,s.heap.get? b=some o->h'.get? b=some o)->Q (.int (preSum (numAt xs) xs.size) t') { s with heap:=h',toks:=tk }):wpAny (model prog w) A (call (.builtin "sum") [.ref l]) Q E s:=by
 refine call_sum_walkG (iter_intList hl fun s2 e st hfp hlI=>?_)
 subst e
 have hys:y≠s.heap.objs.size:=v5 (h9 hy)
 have hy2:(s.heap.push { cls:=.type "list_iterator",data:=.fields #[.ref l,.int 0 0] }).get? y=some oy:=d4 _ hy
 refine⟨_,_,_,_,_,_,numAt xs,rfl,b5C (A:=A.in1) hh hdy h2 _ l hlI hys (intItems xs),⟨st,hy2⟩,fun b hb=>?_,(fun _ _=>intItems_at),fun h' tk t' hk=>?_⟩
 ·simp only[o0,E9,or_false]at hb
  rcases hb with rfl | rfl | rfl
  ·exact hfp _ (by simp)
  ·exact hfp _ (by simp)
  ·exact h9 hy2
 ·have:=h h' tk t' (old_kept hk)
  simpa[intItems]using this
end
section
variable {X:Cx}{y C:Addr}{dx:Option Addr}
theorem b9n(hx:b0G X y C dx)(hh:X.A.handled=some (.ref y)):V5 X (.builtin "sum") b1I:=fun pins s σ H xs us Q I r h=>by
 obtain⟨oe,vs,hm',h1,h2,h3,h4⟩:=hx.ex
 have hy:=(I.pin (y,oe) (A4 _ hm')).1
 unfold b1I at h
 split at h
 ·split at h
  ·rename_i l _ ys hl
   obtain⟨ns,e,q⟩:=h
   obtain⟨u,rfl,ru⟩:=a4H r
   cases ru
   obtain⟨its,rv,pl,hz⟩:=I.list (SqL.of hl)
   obtain⟨zs,e1,e2⟩:=c1I (a3u rv e)
   have ln:zs.size=ns.length:=by rw[<-e2,b5,a1i]
   have il:=pl.isList
   rw[e1]at il
   refine c0o hh hy h3 h4 il fun h' tk t' kk=>⟨.int (preSum (numAt zs) zs.size),H,I.kept kk,⟨_,rfl⟩,?_⟩
   rw[preSum_eq,e2,M0 (by omega)]
   exact q
  ·exact h.elim
 ·exact h.elim
def b2D:V->List V->Hp->VK->Prop:=fun x vs H Q=>∃l z xs j,x=.ref l/\vs=[.bl z]/\H l=some (.lst xs)/\xs.all O7=true/\xs.length<=100000/\xs[j]? = some (.bl z)/\(∀i y,i<j->xs[i]? = some y->eqV y (.bl z)=false)/\Q (.int (j:Nat)) H
theorem b6r:MtR X "list.index" b2D:=fun pins s σ H x xs v us Q I rx rv h=>by
 obtain⟨l,z,xs,j,rfl,rfl,hl,hf,hz,hj,hno,q⟩:=h
 cases rx
 obtain⟨u,rfl,ru⟩:=rv.one
 obtain rfl:u=Value.bool z:=ru
 obtain⟨its,r,pl,_⟩:=I.list (SqL.of hl)
 obtain⟨⟨cls,dd,data,sl⟩,ho,hc,n,hd⟩:=id pl.isList
 simp only at hc hd
 subst hc hd
 have hlen:=r.length
 have hjl:j<xs.length:=(z4.mp hj).1
 have hat:∀(i:Nat) (hi:i<its.toArray.size),∃y,xs[i]? = some y/\eqU (.bl z) its.toArray[i]=eqV y (.bl z):=fun i hi=>by
  have hi':i<xs.length:=by simp at hi;omega
  have hy:xs[i]? = some xs[i]:=by simp[hi']
  obtain⟨w,hw,rw'⟩:=r.get hy
  have ew:its.toArray[i]=w:=by
   have:its[i]? = some (its[i]'(by simpa using hi)):=by simp
   rw[hw]at this
   cases this
   simp
  refine⟨_,hy,?_⟩
  rw[ew]
  exact b6O rw' (J1.mp hf _ (C8 hi'))
 refine a6V a1r ⟨_,ho,rfl⟩ b3x (b2g _ _)
  (b0K l its.toArray n dd sl (.bool z) (eqU (.bl z)) j (by simp;omega) (by omega) ?_ ?_) ⟨ho,fun y hy=>a3T (x:=.bl z) (v:=.bool z) rfl rfl r hf y (by simpa using hy),⟨.int _,H,I.tok _,⟨_,rfl⟩,q⟩⟩
 ·obtain⟨y,hy,e⟩:=hat j (by simp;omega)
  rw[hj]at hy
  cases hy
  rw[e]
  cases z <;> decide +kernel
 ·intro i hi hlt
  obtain⟨y,hy,e⟩:=hat i hi
  rw[e]
  exact hno i y hlt hy
end
end L2
namespace Y
open PySem PySem.Spec PyProof.Rows L2
theorem b3J{X:Cx}{y C:Addr}{dx:Option Addr}(hx:b0G X y C dx)(hh:X.A.handled=some (.ref y)):Y9 X (.builtin "sum") b1I:=⟨L2.b9n hx hh⟩
theorem b2j{X:Cx}:a8I X "list.index" b2D:=⟨L2.b6r⟩
end Y
namespace RD
open PySem PySem.Spec L2
variable{C a a' b c d dx na p ra:Addr}{H H' H0 H1:Hp}{o:HO}{rs vs xs ys:List V}{D:a8B}{σ:St}{ta te:TE}{tt:TT}{tr:TA}{Q:VK}{r v w y:V}{i j m n t:Nat}{ask z:Bool}{ks l:List Nat}{s:String}{QD:Hp->Prop}{R:It->Hp->Prop}{M N:Nt}{ns:List Int}{as:List Addr}
def z5(b:Addr)(H H':Hp):Prop:=(∀a o,H a=some o->a≠b->H' a=some o)/\∀o,H b=some o->∃o',H' b=some o'
theorem z5.refl(b:Addr)(H:Hp):z5 b H H:=⟨fun _ _ h _=>h,fun o h=>⟨o,h⟩⟩
theorem z5.trans{H2:Hp}(x:z5 b H H1)(y:z5 b H1 H2):z5 b H H2:=
 ⟨fun a o h n=>y.1 a o (x.1 a o h n) n,fun o h=>let⟨o',h'⟩:=x.2 o h;y.2 o' h'⟩
theorem z5.upd(b:Addr)(H:Hp)(o:HO):z5 b H (upd H b o):=⟨fun a u h n=>by rw[j7 n];exact h,fun _ _=>⟨o,g9⟩⟩
theorem z5.new(h:H p=none):z5 b H (L2.upd H p o):=
 ⟨fun a u e _=>by rw[j7 (d5 e h)];exact e,fun u e=>⟨u,by rw[j7 (d5 e h)];exact e⟩⟩
theorem z5.of_same(s:t9 H H'):z5 b H H':=⟨fun a o h _=>s a o h,fun o h=>⟨o,s _ _ h⟩⟩
theorem C5(h:H p=none):t9 H (L2.upd H p o):=fun a u e=>by rw[j7 (d5 e h)];exact e
theorem z5.none(k:z5 b H H')(h:H' p=Option.none):H p=Option.none:=by
 cases e:H p with
 | none=>rfl
 | some o=>
  by_cases z:p=b
  ·subst z
   obtain⟨o',h'⟩:=k.2 o e
   rw[h]at h'
   cases h'
  ·rw[k.1 p o e z]at h
   cases h
theorem z5.tup{b a:Addr}{H H':Hp}{xs ys:List V}(k:z5 b H H')(hb:H b=some (.lst ys))(h:H a=some (.tup xs)):H' a=some (.tup xs):=
 k.1 a _ h (T7 h hb (by intro z;cases z))
structure Bag(H:Hp)(b c:Addr):Prop where
 ex:∃(i0 i1 i2:Int) (ns:List Int),H b=some (.lst [.int i0,.int i1,.int i2,.ref c])/\H c=some (.lst (ns.map V.int))/\0<=i0/\0<=i1/\i1<2147483647/\0<=i2/\∀x∈ns,0<=x
theorem Bag.lst{H:Hp}{b c:Addr}(h:Bag H b c):∃xs,H b=some (.lst xs):=by
 obtain⟨i0,i1,i2,ns,h,_⟩:=h.ex
 exact⟨_,h⟩
theorem Bag.same(h:Bag H b c)(s:t9 H H'):Bag H' b c:=by
 obtain⟨i0,i1,i2,ns,h1,h2,r⟩:=h.ex
 exact⟨i0,i1,i2,ns,s _ _ h1,s _ _ h2,r⟩
theorem Bag.new(h:Bag H b c)(n:H p=none):Bag (L2.upd H p o) b c:=h.same (C5 n)
theorem Bag.put(h:Bag H b c)(n1:p≠b)(n2:p≠c):Bag (L2.upd H p o) b c:=by
 obtain⟨i0,i1,i2,ns,h1,h2,r⟩:=h.ex
 exact⟨i0,i1,i2,ns,by rw[j7 n1.symm];exact h1,by rw[j7 n2.symm];exact h2,r⟩
theorem Bag.nb(h:Bag H b c)(n:H p=none):p≠b/\p≠c:=by
 obtain⟨i0,i1,i2,ns,h1,h2,r⟩:=h.ex
 exact⟨(d5 h1 n).symm,(d5 h2 n).symm⟩
theorem z5.put(k:z5 b H H')(n:H p=Option.none):z5 b H (L2.upd H' p o):=
 ⟨fun a u e z=>by rw[j7 (d5 e n)];exact k.1 a u e z,fun u e=>by
  obtain⟨o',h⟩:=k.2 u e
  exact⟨o',by rw[j7 (d5 e n)];exact h⟩⟩
theorem a3d{α:Type}(a:α)(r:List α):atI (a::r) 0=some a:=by
 have := @a0g α (a::r) 0 a rfl
 simpa using this
theorem a6N{α:Type}(a b:α)(r:List α):atI (a::b::r) 1=some b := @a0g α (a::b::r) 1 b rfl
theorem c4B{α:Type}(a b c:α)(r:List α):atI (a::b::c::r) 2=some c := @a0g α (a::b::c::r) 2 c rfl
theorem c8P{α:Type}(a b c d:α)(r:List α):atI (a::b::c::d::r) 3=some d := @a0g α (a::b::c::d::r) 3 d rfl
theorem a1H{α:Type}{xs:List α}{i:Int}(h0:0<=i)(h1:i<xs.length):∃v,atI xs i=some v/\xs[i.toNat]? = some v:=by
 have hl:i.toNat<xs.length:=by omega
 have e:xs[i.toNat]? = some (xs[i.toNat]'hl):=by simp[hl]
 refine⟨_,?_,e⟩
 have:=a0g e
 rwa [Int.toNat_of_nonneg h0]at this
section
variable {t u:TS}{tb tc to ti:TE}{tu:TT}{QB:Bool->Hp->Prop}{QA:List V->Hp->Prop}{QO:Option Int->Hp->Prop}{x:V}{i j:Int}{r r':R2}{K:Fg}
theorem Y6(h:t { D with nx:=u D } σ H):z7 t u D σ H:=h
theorem Y7{P:St->Hp->Prop}(tail:∀σ H,P σ H->u D σ H)(main:∀nx:St->Hp->Prop,(∀σ H,P σ H->nx σ H)->t { D with nx:=nx } σ H):z7 t u D σ H:=main _ tail
theorem a7s{g:TG}(h:te σ H fun x H1=>g x σ H1 D.nx):E5 te g D σ H:=h
theorem a9o{QS:St->Hp->Prop}(h:QS (σ.set n (some v)) H):u4 n v σ H QS:=h
theorem c5P{QS:St->Hp->Prop}{ts:b1h}(h:to σ H fun o H1=>ti σ H1 fun i H2=>ts o i v H2 fun H3=>QS σ H3):a9g to ti ts v σ H QS:=h
theorem b1C(h:te σ H D.rt):M5 te D σ H:=h
theorem b2y(h:te σ H fun _ H1=>D.nx σ H1):a0H te D σ H:=h
theorem c9k(h:tt σ H fun b H1=>if b=true then t D σ H1 else u D σ H1):K7 tt t u D σ H:=h
theorem c5M(h:D.nx σ H):E3 D σ H:=h
theorem c5H(h:te σ H fun x H'=>∃k,x=.bl k/\QB k H'):D7 te σ H QB:=h
theorem c9i(h:te σ H fun x H'=>∃k,x=.bl k/\QB k H'):tB te σ H QB:=h
theorem c7Y(h:tt σ H fun c H1=>QB (!c) H1):a5g tt σ H QB:=h
theorem c8e(h:tt σ H fun c H1=>if c=true then tu σ H1 QB else QB false H1):a9R tt tu σ H QB:=h
theorem c5K(h:tt σ H fun c H1=>if c=true then QB true H1 else tu σ H1 QB):tOr tt tu σ H QB:=h
theorem c0G(h:ta σ H fun x H1=>∃c,x=.bl c/\if c=true then tb σ H1 Q else Q (.bl false) H1):a1n ta tb σ H Q:=h
theorem c7X(h:ta σ H fun x H1=>∃c,x=.bl c/\if c=true then Q (.bl true) H1 else tb σ H1 Q):c2N ta tb σ H Q:=h
theorem c5L(h:ta σ H fun x H1=>∃c,x=.bl c/\Q (.bl (!c)) H1):b1A ta σ H Q:=h
theorem c8a(h:tt σ H fun c H1=>if c=true then ta σ H1 Q else tb σ H1 Q):tIf tt ta tb σ H Q:=h
theorem b5S(h:ta σ H fun x H1=>tb σ H1 fun y H2=>r x y H2 Q):tOp r ta tb σ H Q:=h
theorem b7u(h:ta σ H fun x H1=>tb σ H1 fun y H2=>r x y H2 fun z H3=>∃k,z=.bl k/\(if k=true then tc σ H3 fun w' H4=>r' y w' H4 Q else Q (.bl false) H3)):a4d r r' ta tb tc σ H Q:=h
theorem c9h{f:V->Hp->VK->Prop}(h:ta σ H fun x H1=>f x H1 Q):tUn f ta σ H Q:=h
theorem c7Z(h:Q (.int (-i)) H):rU (fun i=>.int (-i)) (.int i) H Q:=⟨i,rfl,h⟩
theorem a7o(e:σ[n]? = some (some v))(h:Q v H):b8 n σ H Q:=⟨v,e,h⟩
theorem s_c(h:Q v H):tC v σ H Q:=h
theorem a1c(h:te σ H fun x H1=>tr σ H1 fun xs H2=>QA (x::xs) H2):a8 te tr σ H QA:=h
theorem a8M(h:QA [] H):c6 σ H QA:=h
theorem b5U{sp:Sp}{E:XK}(h:tr σ H fun vs H1=>sp (vs++[]) H1 Q E):t8 sp [] E tr σ H Q:=h
theorem c8b{f:List V->Hp->VK->Prop}(h:tr σ H fun vs H1=>f vs H1 Q):tCB f tr σ H Q:=h
def New(o:HO)(n:Nat)(H:Hp)(Q:VK):Prop:=n<=t6/\∀p,H p=none->Q (.ref p) (upd H p o)
theorem A2(hl:n<=100000)(h:∀p H',H p=none->H' p=some o->t9 H H'->Q (.ref p) H'):New o n H Q:=
 ⟨F3 hl (by rw[a3W];decide),fun p hp=>h p _ hp g9 (C5 hp)⟩
theorem b7r(h:tr σ H fun xs H1=>New (.tup xs) xs.length H1 Q):J7 tr σ H Q:=h
theorem c0D(h:tr σ H fun xs H1=>New (.lst xs) xs.length H1 Q):F1 tr σ H Q:=h
theorem c9j{f:V->Option Int->Option Int->Hp->VK->Prop}{tl th:TO}(h:te σ H fun x H1=>tl σ H1 fun l H2=>th σ H2 fun u H3=>f x l u H3 Q):tSl f te tl th σ H Q:=h
theorem c5J(h:te σ H fun x H1=>∃i,x=.int i/\QO (some i) H1):a5f te σ H QO:=h
theorem c0B(h:QO none H):a1y σ H QO:=h
theorem b5P(h:QB true H):T5 σ H QB:=h
theorem b4k{f:V->List V->Hp->VK->Prop}(h:to σ H fun x H1=>tyV K "list" x H1/\tr σ H1 fun xs H2=>f x xs H2 Q):tBM K "list" f to tr σ H Q:=h
theorem c8c{s:Str}{f:V->List V->Hp->VK->Prop}(h:tr σ H fun xs H2=>f (.str s) xs H2 Q):tBM K "str" f (tC (.str s)) tr σ H Q:=⟨rfl,h⟩
theorem c5Q{tget:V->V->Hp->VK->Prop}{tip:TIp}{tset:b1h}(h:to σ H fun o H1=>ti σ H1 fun i H2=>tget o i H2 fun x H3=>te σ H3 fun y H4=>tip x y H4 fun z H5=>tset o i z H5 fun H6=>D.nx σ H6):b7n to ti te tget tip tset D σ H:=h
theorem c8m(h:Q (.int (i+j)) H):X3 (.int i) (.int j) H Q:=h
theorem b5X{a b:Str}(hl:a.length+b.length<=t6)(h:Q (.str (a++b)) H):X3 (.str a) (.str b) H Q:=⟨hl,h⟩
theorem a1Z(ha:H a=some (.lst xs))(hb:H b=some (.lst ys))(h:New (.lst (xs++ys)) (xs.length+ys.length) H Q):X3 (.ref a) (.ref b) H Q:=by
 unfold X3
 simp only[ha,hb]
 exact h
theorem c5Z{g:Int->Int->V}(h:Q (g i j) H):b4p g (.int i) (.int j) H Q:=h
theorem a1S{C:Int->Int->Prop}{g:Int->Int->V}(hc:C i j)(h:Q (g i j) H):q2I C g (.int i) (.int j) H Q:=⟨hc,h⟩
theorem c9p{f:Int->Int->Int}(h:Q (.int (f i j)) H):ipI f (.int i) (.int j) H Q:=⟨i,j,rfl,rfl,h⟩
theorem J9(hp:H p=some (.lst xs))(he:atI xs i=some v)(h:Q v H):qIx (.ref p) (.int i) H Q:=by
 unfold qIx
 simp only[hp]
 exact⟨v,he,h⟩
theorem W3(hp:H p=some (.tup xs))(he:atI xs i=some v)(h:Q v H):qIx (.ref p) (.int i) H Q:=by
 unfold qIx
 simp only[hp]
 exact⟨v,he,h⟩
theorem c0M{z:Str}{c:Nat}(hz:z.length<=t6)(he:atI z.cps.toList i=some c)(h:Q (.str ⟨#[c]⟩) H):qIx (.str z) (.int i) H Q:=⟨hz,c,he,h⟩
theorem a6i{QH:Hp->Prop}{k:Nat}(hp:H p=some (.lst xs))(he:ixN xs.length i=some k)(h:QH (upd H p (.lst (xs.set k v)))):a6C (.ref p) (.int i) v H QH:=by
 unfold a6C
 simp only[hp]
 exact⟨k,he,h⟩
theorem c8l(hp:H p=some (.lst xs))(h0:0<=i)(he:xs[i.toNat]? = some v)(h:Q v H):b8B (.ref p) (.int i) H Q:=by
 unfold b8B
 simp only[hp]
 exact⟨h0,v,he,h⟩
theorem F2(hp:H p=some (.lst xs))(h:Q (.int xs.length) H):P4 [.ref p] H Q:=by
 unfold P4
 simp only[hp]
 exact h
theorem a0r(hp:H p=some (.tup xs))(h:Q (.int xs.length) H):P4 [.ref p] H Q:=by
 unfold P4
 simp only[hp]
 exact h
theorem c5X{z:Str}(hz:z.length<=t6)(h:Q (.int z.length) H):P4 [.str z] H Q:=⟨hz,h⟩
theorem c8n(h:Q (.int (if i<0 then -i else i)) H):c0P [.int i] H Q:=h
theorem c9q(hs:b4a x y=true)(h:Q (.bl (decide (x=y))) H):qEq x y H Q:=⟨_,if_pos hs,h⟩
theorem c9o(hs:b4a x y=true)(h:Q (.bl (!decide (x=y))) H):qNe x y H Q:=⟨_,if_pos hs,h⟩
theorem c4y(ha:H a=some (.tup xs))(hb:H b=some (.tup ys))(fx:xs.all O7=true)(fy:ys.all O7=true):eqO (.ref a) (.ref b) H=some (a0K xs ys):=by
 unfold eqO
 rw[if_neg (by intro z;cases z)]
 simp only[ha,hb]
 rw[if_pos ⟨fx,fy⟩]
theorem a7I(ha:H a=some (.lst xs))(hb:H b=some (.lst ys))(fx:xs.all O7=true)(fy:ys.all O7=true):eqO (.ref a) (.ref b) H=some (a0K xs ys):=by
 unfold eqO
 rw[if_neg (by intro z;cases z)]
 simp only[ha,hb]
 rw[if_pos ⟨fx,fy⟩]
theorem c1T(v:V)(h:O7 v=true):eqV v v=true:=by
 cases v with
 | non=>rfl
 | bl b=>simp[eqV]
 | int i=>simp[eqV]
 | str s=>simp[eqV]
 | byt b=>cases h
 | flt b=>cases h
 | ref a=>cases h
 | ty n=>cases h
theorem b4P(xs:List V)(h:xs.all O7=true):a0K xs xs=true:=by
 unfold a0K
 rw[b9B,beq_self_eq_true,c8X,J1]
 intro j hj
 have hl:j<xs.length:=by simpa using hj
 have e:xs.getD j .non=xs[j]:=by simp[M3,hl]
 rw[e]
 exact c1T _ (J1.mp h _ (C8 _))
theorem b1H(hp:H p=some (.tup xs))(hx:O7 x=true)(ha:xs.all O7=true)(h:Q (.bl (inV x xs)) H):qIn false x (.ref p) H Q:=by
 unfold qIn
 cases x <;> first | (simp only[hp];exact⟨hx,ha,h⟩) | cases hx
theorem c5W(hp:H p=some (.lst xs))(hx:O7 x=true)(ha:xs.all O7=true)(h:Q (.bl (!inV x xs)) H):qIn true x (.ref p) H Q:=by
 unfold qIn
 cases x <;> first | (simp only[hp];exact⟨hx,ha,h⟩) | cases hx
theorem a7w{l:Addr}(hp:H l=some (.lst xs))(hl:xs.length<t6)(h:Q .non (upd H l (.lst (xs++[y])))):a2L (.ref l) [y] H Q:=by
 unfold a2L
 simp only[hp]
 exact⟨hl,h⟩
theorem c5d{lo hi:Option Int}(ha:H a=some (.tup xs))(hw:¬(HT.sIx xs.length 0 lo=0/\HT.sIx xs.length xs.length hi=xs.length))(h:∀p H',H p=none->H' p=some (.tup (a4t xs lo hi))->t9 H H'->Q (.ref p) H'):qSl (.ref a) lo hi H Q:=by
 unfold qSl
 simp only[ha]
 exact⟨hw,fun p hp=>h p _ hp g9 (C5 hp)⟩
theorem b1G{lo hi:Option Int}(ha:H a=some (.lst xs))(h:∀p H',H p=none->H' p=some (.lst (a4t xs lo hi))->t9 H H'->Q (.ref p) H'):qSl (.ref a) lo hi H Q:=by
 unfold qSl
 simp only[ha]
 exact fun p hp=>h p _ hp g9 (C5 hp)
theorem Y8{c:String}(e:D9 x H=some s)(hc:c∈a8r)(h:Q (.bl (a0t s c)) H):a4P [x,.ty c] H Q:=⟨s,e,hc,h⟩
theorem c5Y{s:Str}{l:Addr}{ss:List Str}(hp:H l=some (.lst xs))(e:a3A xs=some ss)(hl:(ss.map (·.length)).sum+ss.length * s.length<=16777216)(h:Q (.str (Txt.join s ss)) H):b1J (.str s) [.ref l] H Q:=by
 unfold b1J
 simp only[hp]
 exact⟨ss,e,hl,h⟩
end
section
variable {D:Addr}{K:Fg}
theorem a5t{lo:Int}(Pv:Nat->List V->Hp->Prop)(h0:Pv 0 [] (upd H1 D (.lst [])))(hP:∀i ys H,Pv i ys H->H D=some (.lst ys))
  (step:∀i ys H2,i<n->Pv i ys H2->∀R:VK,(∀y H5,H5 D=some (.lst ys)->ys.length<t6->Pv (i+1) (ys++[y]) (upd H5 D (.lst (ys++[y])))->R y H5)->te (some (.int (lo+i))::σ) H2 R)
  (done:∀ys H2,Pv n ys H2->QD H2) :
  ∃W:Nat->Nat->List V->Hp->Prop,(∃m,W 0 m [] (upd H1 D (.lst [])))/\∀i m ys H2,W i m ys H2->H2 D=some (.lst ys) /\
   (((Itr lo n).stop i H2 /\ QD H2) \/ ((Itr lo n).go i H2 /\ ∀ x H3,(Itr lo n).yld i H2 x H3 -> T5 (some x :: σ) H3 fun ok H4 => if ok = true then
     te (some x::σ) H4 (fun y H5=>H5 D=some (.lst ys)/\ys.length<t6/\∃m',m'<m/\W (i+1) m' (ys++[y]) (upd H5 D (.lst (ys++[y]))))
     else ∃m',m'<m/\W (i+1) m' ys H4)):=by
 refine⟨fun i m ys H=>m=n - i/\i<=n/\Pv i ys H,⟨n,rfl,L5 _,h0⟩,?_⟩
 rintro i m ys H2 ⟨rfl,hi,p⟩
 refine⟨hP i ys H2 p,?_⟩
 by_cases hlt:i<n
 ·refine .inr ⟨hlt,fun x H3 y=>?_⟩
  obtain⟨e,y⟩:=y
  subst e y
  refine b5P ?_
  rw[if_pos rfl]
  exact step i ys _ hlt p _ fun y H5 h1 h2 h3=>⟨h1,h2,n - (i+1),by omega,rfl,hlt,h3⟩
 ·have e:i=n:=by omega
  subst e
  exact .inl ⟨j9 _,done ys H2 p⟩
theorem U9(Pv:Nat->List V->Hp->Prop)(h0:Pv 0 [] (upd H1 D (.lst [])))(hP:∀i ys H,Pv i ys H->H D=some (.lst ys))(hl:∀i ys H,i<=xs.length->Pv i ys H->SqL K H a xs)
  (step:∀i x ys H2,xs[i]? = some x->Pv i ys H2->∀R:VK,(∀y H5,H5 D=some (.lst ys)->ys.length<t6->Pv (i+1) (ys++[y]) (upd H5 D (.lst (ys++[y])))->R y H5)->te (some x::σ) H2 R)
  (done:∀ys H2,Pv xs.length ys H2->QD H2) :
  ∃W:Nat->Nat->List V->Hp->Prop,(∃m,W 0 m [] (upd H1 D (.lst [])))/\∀i m ys H2,W i m ys H2->H2 D=some (.lst ys) /\
   (((Itl K a).stop i H2 /\ QD H2) \/ ((Itl K a).go i H2 /\ ∀ x H3,(Itl K a).yld i H2 x H3 -> T5 (some x :: σ) H3 fun ok H4 => if ok = true then
     te (some x::σ) H4 (fun y H5=>H5 D=some (.lst ys)/\ys.length<t6/\∃m',m'<m/\W (i+1) m' (ys++[y]) (upd H5 D (.lst (ys++[y]))))
     else ∃m',m'<m/\W (i+1) m' ys H4)):=by
 refine⟨fun i m ys H=>m=xs.length - i/\i<=xs.length/\Pv i ys H,⟨xs.length,rfl,L5 _,h0⟩,?_⟩
 rintro i m ys H2 ⟨rfl,hi,p⟩
 refine⟨hP i ys H2 p,?_⟩
 have q:=hl i ys H2 hi p
 by_cases hlt:i<xs.length
 ·refine .inr ⟨⟨xs,xs[i],q,by simp[hlt]⟩,fun x H3 y=>?_⟩
  obtain⟨e,y⟩:=y
  subst e
  refine b5P ?_
  rw[if_pos rfl]
  exact step i x ys _ (y xs q) p _ fun y H5 h1 h2 h3=>⟨h1,h2,xs.length - (i+1),by omega,rfl,hlt,h3⟩
 ·have e:i=xs.length:=by omega
  subst e
  exact .inl ⟨⟨xs,q,j9 _⟩,done ys H2 p⟩
theorem V7{wi:TI}(h:wi σ H1 fun J H1=>∀D,H1 D=none->∃W:Nat->Nat->List V->Hp->Prop,
 (∃m,W 0 m [] (upd H1 D (.lst [])))/\∀i m ys H2,W i m ys H2->H2 D=some (.lst ys) /\
  ((J.stop i H2 /\ Q (.ref D) H2) \/ (J.go i H2 /\ ∀ x H3,J.yld i H2 x H3 -> tt (some x :: σ) H3 fun ok H4 => if ok = true then
    te (some x::σ) H4 (fun y H5=>H5 D=some (.lst ys)/\ys.length<t6/\∃m',m'<m/\W (i+1) m' (ys++[y]) (upd H5 D (.lst (ys++[y]))))
    else ∃m',m'<m/\W (i+1) m' ys H4))):S3 wi tt te σ H1 Q:=h
theorem a0d{ta:TA}(h:ta σ H1 fun vs H2=>∃j:Int,vs=[.int j] /\ -(2 ^ 62)<=j/\j<2 ^ 62/\R (Itr 0 j.toNat) H2):a0u ta σ H1 R:=h
theorem Z1(h:ta σ H1 fun x H2=>∃a,x=.ref a/\(∃xs,SqL K H2 a xs)/\R (Itl K a) H2):X4 K ta σ H1 R:=h
theorem a1o{wi:TI}{g:TG}{tb:TS}{D:a8B}(h:wi σ H1 fun J H1=>∃W:Nat->Nat->St->Hp->Prop,(∃m,W 0 m σ H1)/\∀i m σ H,W i m σ H ->
 (J.stop i H/\D.nx σ H)\/(J.go i H/\∃N:St->Hp->Prop,(∀σ' H',N σ' H'->∃m',m'<m/\W (i+1) m' σ' H')/\∀x H',J.yld i H x H'->g x σ H' fun σ2 H2=>tb { D with nx:=N,ct:=N,bk:=D.nx } σ2 H2)):a2y wi g tb D σ H1:=h
end
def Z6(H H':Hp):Prop:=∀a xs,H a=some (.tup xs)->H' a=some (.tup xs)
theorem Z6.put(h:H p=some (.lst ys)):Z6 H (upd H p o):=fun a xs e=>by
 rw[j7 (T7 e h (by intro z;cases z))];exact e
theorem t9.ts(s:t9 H H'):Z6 H H':=fun a xs h=>s a _ h
theorem z5.ts(k:z5 b H H')(hB:Bag H b c):Z6 H H':=fun a xs h=>by
 obtain⟨ys,hb⟩:=hB.lst
 exact k.tup hb h
def OpV(v:V):Prop:=(∃s,v=.str s)\/∃n:Int,v=.int n/\0<=n/\n<1000000000000
def c7F(H:Hp)(p:Addr):Prop:=∃k v1 v2,H p=some (.tup [.str k,v1,v2])/\OpV v1/\OpV v2/\k∈(["plus","minus","times","less","same"]:List Str)
inductive b2d(H:Hp):List V->Prop
 | set (n:Str) (p:Addr):c7F H p->b2d H [.str "set",.str n,.ref p]
 | copy (n:Str) (v:V):OpV v->b2d H [.str "copy",.str n,v]
 | take (n:Str):b2d H [.str "take",.str n]
 | tell (v:V):OpV v->b2d H [.str "tell",v]
 | ask (v:V):OpV v->b2d H [.str "ask",v]
 | skip:b2d H [.str "skip"]
structure c9B(H:Hp)(a:Addr):Prop where
 ex:∃ss:List Str,H a=some (.lst (ss.map V.str))/\ss≠[]/\ss.length<=8
theorem small(h:n<=100000):n<=t6:=F3 h (by rw[a3W];decide)
theorem M9(h:n<100000):n<t6:=v0 h (by rw[a3W];decide)
theorem D2{c:Bool}{A B:Prop}(hc:c=true)(h:A):if c=true then A else B:=by rw[if_pos hc];exact h
theorem A3{c:Bool}{A B:Prop}(hc:c=false)(h:B):if c=true then A else B:=by rw[hc];exact L2.c7p h
section
variable {t u:TS}{tb tc to ti:TE}{tu:TT}{QB:Bool->Hp->Prop}{QA:List V->Hp->Prop}{x:V}{i j:Int}{K:Fg}
theorem b2z(h:∀p H',H p=none->H' p=some (.dK [])->t9 H H'->Q (.ref p) H'):a4c σ H Q:=fun p hp=>h p _ hp g9 (C5 hp)
theorem b4j(h:ti σ H fun y H1=>to σ H1 fun x H2=>∃a o,x=.ref a/\b1l H2 a y o/\Q (.bl o.isSome) H2):a7X ti to σ H Q:=h
theorem a2o(h:ti σ H fun y H1=>to σ H1 fun x H2=>∃a o,x=.ref a/\b1l H2 a y o/\Q (.bl (!o.isSome)) H2):a2b ti to σ H Q:=h
theorem b0b(h:te σ H fun v H1=>to σ H1 fun x H2=>ti σ H2 fun y H3=>∃a H4,x=.ref a/\b6Y H3 a y v H4/\D.nx σ H4):a3r to ti te D σ H:=h
theorem c0F{f:Str}(h:ta σ H fun x H1=>∃a C dx fs v,x=.ref a/\H1 a=some (.ins C dx fs)/\Cls K C/\a3f K C f/\fs.lookup f=some v/\Q v H1):b8o K ta f σ H Q:=h
theorem b5R{f:Str}(h:te σ H fun y H1=>ta σ H1 fun x H2=>∃a C dx fs,x=.ref a/\H2 a=some (.ins C dx fs)/\Cls K C/\a3f K C f/\fs.length<1000/\D.nx σ (upd H2 a (.ins C dx (a3j f y fs)))):b8y K ta te f D σ H:=h
theorem c5N{m:Str}{sp:Sp}{E:XK}(h:ta σ H fun x H1=>∃a dx fs,x=.ref a/\H1 a=some (.ins C dx fs)/\fs.lookup m=none/\tr σ H1 fun vs H2=>sp (x::(vs++[])) H2 Q E):b3U C m sp [] E ta tr σ H Q:=h
theorem c8d{f:V->List V->Hp->VK->Prop}(h:to σ H fun x H1=>tyV K "list" x H1/\f x [] H1 Q):c2O K "list" f to σ H Q:=h
theorem a3m(h:H p=some (.lst xs)):tyV K "list" (.ref p) H:=.inl ⟨rfl,xs,SqL.of h⟩
theorem a3p{a b:Nat}{QS:St->Hp->Prop}(hp:SqT K H p [x,y])(h:QS ((σ.set a (some x)).set b (some y)) H):a9f K 2 (a0I (u4 a) (a0I (u4 b) a9h)) (.ref p) σ H QS:=
 ⟨p,_,rfl,hp,rfl,_,_,rfl,_,_,rfl,rfl,h⟩
theorem a7q(h:tr σ H fun vs H1=>∃a,vs=[.ref a]/\(∃xs,SqL K H1 a xs)/\R (Ite K a) H1):a8S K tr σ H R:=h
theorem c0E(h:tr σ H fun vs H1=>∃a b,vs=[.ref a,.ref b]/\(∃xs,SqL K H1 a xs)/\(∃xs,SqL K H1 b xs)/\R (Itz K a b) H1):c1M K tr σ H R:=h
theorem c2Z(h:∃W:Nat->St->Hp->Prop,(∃m,W m σ H)/\∀m σ H,W m σ H ->
 tt σ H fun b H1=>if b=true then ∃N:St->Hp->Prop,(∀σ' H',N σ' H'->∃m',m'<m/\W m' σ' H')/\t { D with nx:=N,ct:=N,bk:=D.nx } σ H1 else D.nx σ H1):b2m tt t D σ H:=h
theorem c5I(h:te σ H fun v H1=>D.nx (σ.set n (some v)) H1):(fun D σ H=>te σ H fun v H1=>(D:a8B).nx (σ.set n (some v)) H1:TS) D σ H:=h
theorem b2A{wi:TI}(h:wi σ H1 fun J H1=>∀D,H1 D=none->∃W:Nat->Nat->List V->Hp->Prop,
 (∃m,W 0 m [] (upd H1 D (.lst [])))/\∀i m ys H2,W i m ys H2->H2 D=some (.lst ys) /\
  ((J.stop i H2 /\ Q (.ref D) H2) \/ (J.go i H2 /\ ∀ x H3,J.yld i H2 x H3 -> ∃ a u v,x = .ref a /\ SqT K H3 a [u,v] /\ tt (some u :: some v :: σ) H3 fun ok H4 => if ok = true then
    te (some u::some v::σ) H4 (fun y H5=>H5 D=some (.lst ys)/\ys.length<t6/\∃m',m'<m/\W (i+1) m' (ys++[y]) (upd H5 D (.lst (ys++[y]))))
    else ∃m',m'<m/\W (i+1) m' ys H4))):a7Y K wi tt te σ H1 Q:=h
theorem c7u{J:It}{D:Addr}(n:Nat)(Pv:Nat->List V->Hp->Prop)(h0:Pv 0 [] (upd H1 D (.lst [])))(hP:∀i ys H,Pv i ys H->H D=some (.lst ys))(stop:∀ys H,Pv n ys H->J.stop n H/\QD H)(go:∀i ys H,i<n->Pv i ys H->J.go i H)
  (step:∀i ys H2,i<n->Pv i ys H2->∀x H3,J.yld i H2 x H3->∀(R:VK) (S:Hp->Prop),(∀y H5,H5 D=some (.lst ys)->ys.length<t6->Pv (i+1) (ys++[y]) (upd H5 D (.lst (ys++[y])))->R y H5)->(∀H4,Pv (i+1) ys H4->S H4) ->
   tt (some x::σ) H3 fun ok H4=>if ok=true then te (some x::σ) H4 R else S H4) :
  ∃W:Nat->Nat->List V->Hp->Prop,(∃m,W 0 m [] (upd H1 D (.lst [])))/\∀i m ys H2,W i m ys H2->H2 D=some (.lst ys) /\
   ((J.stop i H2 /\ QD H2) \/ (J.go i H2 /\ ∀ x H3,J.yld i H2 x H3 -> tt (some x :: σ) H3 fun ok H4 => if ok = true then
     te (some x::σ) H4 (fun y H5=>H5 D=some (.lst ys)/\ys.length<t6/\∃m',m'<m/\W (i+1) m' (ys++[y]) (upd H5 D (.lst (ys++[y]))))
     else ∃m',m'<m/\W (i+1) m' ys H4)):=by
 refine⟨fun i m ys H=>m=n - i/\i<=n/\Pv i ys H,⟨n,rfl,L5 _,h0⟩,?_⟩
 rintro i m ys H2 ⟨rfl,hi,p⟩
 refine⟨hP i ys H2 p,?_⟩
 by_cases hlt:i<n
 ·exact .inr ⟨go i ys H2 hlt p,fun x H3 hy=>step i ys H2 hlt p x H3 hy _ _ (fun y H5 h1 h2 h3=>⟨h1,h2,n - (i+1),by omega,rfl,hlt,h3⟩) fun H4 h4=>⟨n - (i+1),by omega,rfl,hlt,h4⟩⟩
 ·have e:i=n:=by omega
  subst e
  exact .inl (stop ys H2 p)
theorem b6P{J:It}{D:Addr}(n:Nat)(Pv:Nat->List V->Hp->Prop)(h0:Pv 0 [] (upd H1 D (.lst [])))(hP:∀i ys H,Pv i ys H->H D=some (.lst ys))(stop:∀ys H,Pv n ys H->J.stop n H/\QD H)(go:∀i ys H,i<n->Pv i ys H->J.go i H)
  (step:∀i ys H2,i<n->Pv i ys H2->∀x H3,J.yld i H2 x H3->∃a u v,x=.ref a/\SqT K H3 a [u,v]/\∀(R:VK) (S:Hp->Prop),(∀y H5,H5 D=some (.lst ys)->ys.length<t6->Pv (i+1) (ys++[y]) (upd H5 D (.lst (ys++[y])))->R y H5)->(∀H4,Pv (i+1) ys H4->S H4) ->
   tt (some u::some v::σ) H3 fun ok H4=>if ok=true then te (some u::some v::σ) H4 R else S H4) :
  ∃W:Nat->Nat->List V->Hp->Prop,(∃m,W 0 m [] (upd H1 D (.lst [])))/\∀i m ys H2,W i m ys H2->H2 D=some (.lst ys) /\
   ((J.stop i H2 /\ QD H2) \/ (J.go i H2 /\ ∀ x H3,J.yld i H2 x H3 -> ∃ a u v,x = .ref a /\ SqT K H3 a [u,v] /\ tt (some u :: some v :: σ) H3 fun ok H4 => if ok = true then
     te (some u::some v::σ) H4 (fun y H5=>H5 D=some (.lst ys)/\ys.length<t6/\∃m',m'<m/\W (i+1) m' (ys++[y]) (upd H5 D (.lst (ys++[y]))))
     else ∃m',m'<m/\W (i+1) m' ys H4)):=by
 refine⟨fun i m ys H=>m=n - i/\i<=n/\Pv i ys H,⟨n,rfl,L5 _,h0⟩,?_⟩
 rintro i m ys H2 ⟨rfl,hi,p⟩
 refine⟨hP i ys H2 p,?_⟩
 by_cases hlt:i<n
 ·refine .inr ⟨go i ys H2 hlt p,fun x H3 hy=>?_⟩
  obtain⟨a,u,v,e,hs,st⟩:=step i ys H2 hlt p x H3 hy
  exact⟨a,u,v,e,hs,st _ _ (fun y H5 h1 h2 h3=>⟨h1,h2,n - (i+1),by omega,rfl,hlt,h3⟩) fun H4 h4=>⟨n - (i+1),by omega,rfl,hlt,h4⟩⟩
 ·have e:i=n:=by omega
  subst e
  exact .inl (stop ys H2 p)
theorem b7L{J:It}{g:TG}{tb:TS}(n:Nat)(Pv:Nat->St->Hp->Prop)(h0:Pv 0 σ H)(stop:∀σ H,Pv n σ H->J.stop n H/\D.nx σ H)(go:∀i σ H,i<n->Pv i σ H->J.go i H)
  (hs:∀i σ H,i<n->Pv i σ H->∀x H',J.yld i H x H'->g x σ H' fun σ2 H2=>tb { D with nx:=Pv (i+1),ct:=Pv (i+1),bk:=D.nx } σ2 H2) :
  ∃W:Nat->Nat->St->Hp->Prop,(∃m,W 0 m σ H)/\∀i m σ H,W i m σ H ->
   (J.stop i H/\D.nx σ H)\/(J.go i H/\∃N:St->Hp->Prop,(∀σ' H',N σ' H'->∃m',m'<m/\W (i+1) m' σ' H')/\∀x H',J.yld i H x H'->g x σ H' fun σ2 H2=>tb { D with nx:=N,ct:=N,bk:=D.nx } σ2 H2):=by
 refine⟨fun i m σ H=>m=n - i/\i<=n/\Pv i σ H,⟨n,rfl,L5 _,h0⟩,?_⟩
 rintro i m σ H ⟨rfl,hi,p⟩
 by_cases hlt:i<n
 ·exact .inr ⟨go i σ H hlt p,Pv (i+1),fun σ' H' p'=>⟨n - (i+1),by omega,rfl,hlt,p'⟩,fun x H' hy=>hs i σ H hlt p x H' hy⟩
 ·have e:i=n:=by omega
  subst e
  exact .inl (stop σ H p)
theorem c8k(h:Q (.int (if j<i then j else i)) H):c0O [.int i,.int j] H Q:=h
theorem a8U(bs:List Bool):W6 (bs.map V.bl)=some bs:=by
 induction bs with
 | nil=>rfl
 | cons s r ih=>simp[W6,ih]
theorem c5f{l:Addr}{bs:List Bool}(hl:H l=some (.lst (bs.map V.bl)))(h:Q (.bl (bs.any id)) H):b2E [.ref l] H Q:=by
 unfold b2E
 simp only[hl]
 exact⟨bs,a8U bs,h⟩
theorem c5g{l:Addr}{bs:List Bool}(hl:H l=some (.lst (bs.map V.bl)))(h:Q (.bl (bs.all id)) H):b2F [.ref l] H Q:=by
 unfold b2F
 simp only[hl]
 exact⟨bs,a8U bs,h⟩
theorem b4n{l:Addr}{zs:List V}(hl:H l=some (.lst xs))(hb:H b=some (.lst zs))(hz:xs.length+zs.length<=t6)(h:Q .non (upd H l (.lst (xs++zs)))):a4j (.ref l) [.ref b] H Q:=by
 unfold a4j
 simp only[hl,hb]
 exact⟨hz,h⟩
theorem c8j{l:Addr}(hl:H l=some (.lst (xs++[y])))(h:Q y (upd H l (.lst xs))):b8A (.ref l) [] H Q:=by
 unfold b8A
 simp only[hl]
 refine⟨y,by simp,?_⟩
 simpa using h
theorem b2B(hp:H p=some (.lst ys))(h:∀l H',H l=none->H' l=some (.lst ys)->t9 H H'->Q (.ref l) H'):a8N [.ref p] H Q:=by
 unfold a8N
 simp only[hp]
 exact fun l hl=>h l _ hl g9 (C5 hl)
end
def IL(l:List Nat):List V:=l.map fun(n:Nat)=>V.int (n:Int)
theorem K6(l:List Nat):(IL l).length=l.length:=by simp[IL]
theorem a7P(l:List Nat):(IL l).all O7=true:=by
 rw[J1]
 intro x hx
 obtain⟨s,_,rfl⟩:=G5.mp hx
 rfl
def KS(ks:List Nat):List (Key×V):=ks.map fun(k:Nat)=>(Sum.inl (k:Int),V.bl true)
theorem c2n(ks:List Nat)(k:Nat):(a9a (KS ks) (Sum.inl (k:Int))).isSome=decide (k∈ks):=by
 induction ks with
 | nil=>rfl
 | cons a r ih=>
  by_cases e:a=k
  ·subst e
   rw[show KS (a::r)=(Sum.inl (a:Int),V.bl true)::KS r from rfl,a7e rfl]
   simp
  ·rw[show KS (a::r)=(Sum.inl (a:Int),V.bl true)::KS r from rfl,a7f (by intro z;have:=Sum.inl.inj z;exact e (by omega)),ih]
   have:(k∈a::r)↔k∈r:=by
    rw[o0]
    exact⟨fun h=>h.elim (fun z=>absurd z.symm e) id,.inr⟩
   simp[this]
def Y5(ks:List Nat)(k:Nat):List Nat:=if k∈ks then ks else ks++[k]
theorem c7C(ks:List Nat)(k:Nat):a5l (KS ks) (Sum.inl (k:Int)) (V.bl true)=KS (Y5 ks k):=by
 unfold a5l Y5
 rw[a9K,c2n]
 by_cases h:k∈ks
 ·rw[if_pos (d0K h),if_pos h]
  unfold KS
  rw[a0h]
  apply c2r
  intro a _
  show(if(Sum.inl (a:Int):Key)=Sum.inl (k:Int)then ((Sum.inl (a:Int):Key),V.bl true)else ((Sum.inl (a:Int):Key),V.bl true))=_
  split <;> rfl
 ·rw[if_neg (by simpa using h),if_neg h]
  simp[KS]
theorem U8{k:Nat}:j∈Y5 ks k↔j∈ks\/j=k:=by
 unfold Y5
 split
 ·rename_i h
  exact⟨.inl,fun q=>q.elim id fun z=>z ▸ h⟩
 ·simp
theorem a7z{k:Nat}(h:ks.Nodup):(Y5 ks k).Nodup:=by
 unfold Y5
 split
 ·exact h
 ·rename_i hk
  rw[c4N]
  exact⟨h,by simp,fun a ha b hb=>by rw[g6.mp hb];intro z;exact hk (z ▸ ha)⟩
theorem b1P{k:Nat}:ks.length<=(Y5 ks k).length:=by
 unfold Y5
 split <;> simp
theorem c7D(ks:List Nat):(KS ks).length=ks.length:=by simp[KS]
theorem a7A:∀(n:Nat) (ks:List Nat),ks.Nodup->(∀k∈ks,k<n)->ks.length<=n:=by
 intro n
 induction n with
 | zero=>
  intro ks _ h
  cases ks with
  | nil=>exact j9 _
  | cons a r=>exact absurd (h a J3) (Nat.not_lt_zero _)
 | succ n ih=>
  intro ks nd h
  by_cases hn:n∈ks
  ·have:=ih (ks.erase n) (nd.erase n) fun k hk=>by
    have h1:=(List.Nodup.mem_erase_iff nd).mp hk
    have:=h k h1.2
    have:=h1.1
    omega
   rw[b5q hn]at this
   omega
  ·have:=ih ks nd fun k hk=>by
    have:=h k hk
    have:k≠n:=fun z=>hn (z ▸ hk)
    omega
   omega
theorem a0B(h:H d=some (.dK (KS ks)))(k:Nat):∃o,b1l H d (.int (k:Int)) o/\o.isSome=decide (k∈ks):=⟨_,b1l.k (k:=Sum.inl (k:Int)) h,c2n ks k⟩
theorem a7J(h:H d=some (.dK (KS ks)))(hl:ks.length<100000)(k:Nat):b6Y H d (.int (k:Int)) (.bl true) (upd H d (.dK (KS (Y5 ks k)))):=by
 rw[<-c7C]
 exact b6Y.k (k:=Sum.inl (k:Int)) h (M9 (by rw[c7D];exact hl))
end RD
namespace RD
variable{C a a' b c d dx na p ra:Addr}{H H' H0 H1:Hp}{o:HO}{rs vs xs ys:List V}{D:a8B}{σ:St}{ta te:TE}{tt:TT}{tr:TA}{Q:VK}{r v w y:V}{i j m n t:Nat}{ask z:Bool}{ks l:List Nat}{s:String}{QD:Hp->Prop}{R:It->Hp->Prop}{M N:Nt}{ns:List Int}{as:List Addr}
theorem c1x:∀(l m:List Nat),l.Nodup->(∀x∈l,x∈m)->l.length<=m.length
 | [],_,_,_=>L5 _
 | a::r,m,nd,h=>by
  have ha:=h a J3
  have:=c1x r (m.erase a) (X5.mp nd).2 fun x hx=>(List.mem_erase_of_ne (show x≠a from fun z=>(X5.mp nd).1 (z ▸ hx))).mpr (h x (E8 _ hx))
  rw[b5q ha]at this
  have:=b7Y ha
  rw[z9]
  omega
inductive Gd(N:Nt):Nat->Prop
 | stop {k:Nat}:N[k]? = some []->Gd N k
 | step {k t:Nat} {l:List Nat}:N[k]? = some l->t∈l->Gd N t->Gd N k
inductive Rc(N:Nt):Nat->Prop
 | zero:Rc N 0
 | step {k t:Nat} {l:List Nat}:Rc N k->N[k]? = some l->t∈l->Rc N t
structure a5x(N:Nt):Prop where
 pos:0<N.length
 le:N.length<=400
 two:∀l∈N,l.length<=2
 lt:∀l∈N,∀t∈l,t<N.length
 rc:∀k,k<N.length->Rc N k
 gd:∀k,k<N.length->Gd N k
def a3t(N:Nt)(G:List Nat):List (List Nat):=(u7 N.length).map fun k=>if k∈G then N.getD k [] else (N.length - 1)::(N.getD k []).drop 1
theorem b1M(N:Nt)(G:List Nat):(a3t N G).length=N.length:=by simp[a3t]
theorem b0o{G:List Nat}{k:Nat}(h:k<N.length):(a3t N G)[k]? = some (if k∈G then N.getD k [] else (N.length - 1)::(N.getD k []).drop 1):=by
 unfold a3t
 rw[c8,a3k h]
 rfl
theorem a7B{G:List Nat}{k:Nat}(h:N[k]? = some l)(hk:k∈G):(a3t N G)[k]? = some l:=by
 have hl:=(z4.mp h).1
 rw[b0o hl,if_pos hk]
 simp[M3,h]
theorem b1L{G:List Nat}{k:Nat}(h:N[k]? = some l)(hk:¬k∈G):(a3t N G)[k]? = some ((N.length - 1)::l.drop 1):=by
 have hl:=(z4.mp h).1
 rw[b0o hl,if_neg hk]
 simp[M3,h]
theorem c4v{G:List Nat}(hG:∀k∈G,Gd N k)(hl:N[N.length - 1]? = some [])(hm:N.length - 1∈G):∀k,k<N.length->Gd (a3t N G) k:=by
 have last:Gd (a3t N G) (N.length - 1):=.stop (a7B hl hm)
 have out:∀k,k<N.length->¬k∈G->Gd (a3t N G) k:=fun k hk h=>.step (b1L (l:=N[k]) (by simp) h) J3 last
 have go:∀k,Gd N k->Gd (a3t N G) k:=by
  intro k h
  induction h with
  | @stop k h=>
   by_cases hk:k∈G
   ·exact .stop (a7B h hk)
   ·exact out k (z4.mp h).1 hk
  | @step k t l h ht _ ih=>
   by_cases hk:k∈G
   ·exact .step (a7B h hk) ht ih
   ·exact out k (z4.mp h).1 hk
 intro k hk
 by_cases h:k∈G
 ·exact go k (hG k h)
 ·exact out k hk h
theorem b4G{G:List Nat}(hp:0<N.length)(hs:∀l∈N,l.length<=2/\∀t∈l,t<N.length)(hl:N[N.length - 1]? = some [])(hm:N.length - 1∈G):∀l∈a3t N G,l.length<=2/\∀t∈l,t<N.length:=by
 intro l hl'
 obtain⟨k,hk⟩:=E4.mp hl'
 have hkl:k<N.length:=by have:=(z4.mp hk).1;rwa [b1M]at this
 rw[b0o hkl]at hk
 have e:N.getD k []=N[k]:=by simp[M3,hkl]
 rw[e]at hk
 obtain⟨h1,h2⟩:=hs N[k] (C8 _)
 by_cases hg:k∈G
 ·rw[if_pos hg]at hk
  cases hk
  exact⟨h1,h2⟩
 ·rw[if_neg hg]at hk
  cases hk
  refine⟨?_,fun t ht=>?_⟩
  ·rw[z9,a4V];omega
  ·rcases o0.mp ht with z | z
   ·omega
   ·exact h2 t (List.drop_subset _ _ z)
def a6t(N:Nt)(O:List Nat):List (List Nat):=O.map fun k=>(N.getD k []).map fun t=>O.idxOf t
theorem c1K{O:List Nat}(h:t∈O):O.idxOf t<O.length:=b5r.mpr h
theorem b2n{O:List Nat}{k:Nat}(hk:k∈O)(h:N[k]? = some l):(a6t N O)[O.idxOf k]? = some (l.map fun t=>O.idxOf t):=by
 unfold a6t
 have:O[O.idxOf k]? = some k:=by
  rw[j6 (c1K hk)]
  simp
 rw[c8,this]
 simp[M3,h]
theorem b6L{O:List Nat}(h0:0∈O)(hs:O.Pairwise (· <= ·)):O.idxOf 0=0:=by
 cases O with
 | nil=>cases h0
 | cons a r=>
  have:a=0:=by
   rcases o0.mp h0 with z | z
   ·exact z.symm
   ·have:=(c2y.mp hs).1 0 z
    omega
  subst this
  simp
theorem b8l{O:List Nat}(h0:0∈O)(hs:O.Pairwise (· <= ·))(hnd:O.Nodup)(hlt:∀k∈O,k<N.length)(hN:N.length<=400)(hcl:∀k∈O,∀l,N[k]? = some l->∀t∈l,t∈O)(hrc:∀k∈O,Rc N k)
  (hsm:∀l∈N,l.length<=2) (hgd:∀k,k<N.length->Gd N k):a5x (a6t N O):=by
 have hlen:(a6t N O).length=O.length:=by simp[a6t]
 have rc:∀k,Rc N k->k∈O/\Rc (a6t N O) (O.idxOf k):=by
  intro k h
  induction h with
  | zero=>
   refine⟨h0,?_⟩
   rw[b6L h0 hs]
   exact .zero
  | @step k t l _ hl ht ih=>
   obtain⟨i1,i2⟩:=ih
   exact⟨hcl k i1 l hl t ht,.step i2 (b2n i1 hl) (G5.mpr ⟨t,ht,rfl⟩)⟩
 have gd:∀k,Gd N k->k∈O->Gd (a6t N O) (O.idxOf k):=by
  intro k h
  induction h with
  | @stop k h=>
   intro hk
   exact .stop (by rw[b2n hk h];rfl)
  | @step k t l h ht _ ih=>
   intro hk
   exact .step (b2n hk h) (G5.mpr ⟨t,ht,rfl⟩) (ih (hcl k hk l h t ht))
 have at_:∀i,i<O.length->∃k∈O,O.idxOf k=i:=fun i hi=>⟨O[i],C8 _,hnd.idxOf_getElem i hi⟩
 have mem:∀l∈a6t N O,∃k∈O,∃l',N[k]? = some l'/\l=l'.map fun t=>O.idxOf t:=by
  intro l hl
  obtain⟨k,hk,rfl⟩:=G5.mp hl
  refine⟨k,hk,N[k]'(hlt k hk),by simp[hlt k hk],?_⟩
  simp[M3,hlt k hk]
 refine⟨?_,?_,fun l hl=>?_,fun l hl t ht=>?_,fun i hi=>?_,fun i hi=>?_⟩
 ·rw[hlen]
  exact b7Y h0
 ·rw[hlen]
  exact F3 (a7A _ _ hnd hlt) hN
 ·obtain⟨k,hk,l',e,rfl⟩:=mem l hl
  rw[b5]
  exact hsm l' (a0N e)
 ·obtain⟨k,hk,l',e,rfl⟩:=mem l hl
  obtain⟨t',ht',rfl⟩:=G5.mp ht
  rw[hlen]
  exact c1K (hcl k hk l' e t' ht')
 ·rw[hlen]at hi
  obtain⟨k,hk,rfl⟩:=at_ i hi
  exact(rc k (hrc k hk)).2
 ·rw[hlen]at hi
  obtain⟨k,hk,rfl⟩:=at_ i hi
  exact gd k (hgd k (hlt k hk)) hk
end RD
namespace RD
open PySem PySem.Spec PyProof.Rows L2
variable{C a a' b c d dx na p ra:Addr}{H H' H0 H1:Hp}{o:HO}{rs vs xs ys:List V}{D:a8B}{σ:L2.St}{ta te:TE}{tt:TT}{tr:TA}{Q:VK}{r v w y:V}{i j m n t:Nat}{ask z:Bool}{ks l:List Nat}{s:String}{QD:Hp->Prop}{R:It->Hp->Prop}{M N:Nt}{ns:List Int}{as:List Addr}
structure Xn where
 C_OnceError:Addr
 C_Wrong:Addr
 C_NoThing:Addr
 C_NoWay:Addr
 C_TooMany:Addr
 C_NoText:Addr
def Xn.at(c:Xn):Nat->Addr
 | 0=>c.C_Wrong
 | 1=>c.C_NoThing
 | 2=>c.C_NoWay
 | 3=>c.C_TooMany
 | _=>c.C_NoText
def b6K:Nat->Str
 | 3 => "most"
 | _ => "at"
structure a5w(K:Fg)(c:Xn):Prop where
 xc:∀i,i<5->b5l K (c.at i)
 xi:∀i,i<5->XIs K (c.at i)
 na:∀i,i<5->A0 K (.ref (c.at i)) (b6K i)=some none
 up:∀i,i<5->a2u K (c.at i) (.ref c.C_OnceError)=some true
 kit:∀i j,i<5->j<5->a0F K (.ref (c.at i)) (.ref (c.at j))=some (decide (i=j))
 ve:∀i,i<5->a0F K (.ref (c.at i)) (.type "ValueError")=some true
def O9(K:Fg)(f:Str):Sp:=fun vs H Q _=>∃a v C,vs=[.ref a,v]/\H a=some (xo a C none)/\b5l K C/\A0 K (.ref C) f=some none/\∀d,H d=none->d≠a->Q .non (upd (upd H d (.xd [(f,v)])) a (xo a C (some d)))
def Rz(e:Xn)(j:Nat)(n:Int)(H:Hp)(E:XK):Prop:=∀d H',H' d=some (.xd [(b6K j,.int n)])->t9 H H'->E (.ref (e.at j)) (some d) H'
def spX(n m:Nat)(t:XK->TS):Sp:=fun vs H Q E=>vs.length=n/\t E { nx:=fun _ H'=>Q .non H',rt:=Q } (vs.map some++g7 (m - vs.length) none) H
structure Cn where
 V0:Addr
 a4F:Addr
 a1O:Addr
 b5o:Addr
 c4P:Addr
 b9F:Addr
 c4Q:Addr
 b9E:Addr
 c2w:Addr
def Cn.x(c:Cn):Xn:=⟨c.b5o,c.c4P,c.b9F,c.c4Q,c.b9E,c.c2w⟩
structure a4A(K:Fg)(c:Cn):Prop where
 a3g:Cls K c.V0
 a0Y:a3f K c.V0 "entries"
 a0T:a3f K c.V0 "nexts"
 a4E:a3f K c.V0 "rows"
 a7R:∀H,SqT K H c.a4F [.str "plus",.str "minus",.str "times",.str "less",.str "same"]
 a7Q:∀H,SqT K H c.a1O [.int (-1),.int (0)]
 xn:a5w K c.x
def spD(n m:Nat)(t:TS):Sp:=fun vs H Q _=>vs.length=n/\t { nx:=fun _ H'=>Q .non H',rt:=Q } (vs.map some++g7 (m - vs.length) none) H
def c5a(K:Fg):TS:=M5 (F1 (a8 (tC (.int 0)) (a8 (tC (.int 1234567891)) (a8 (tC (.int 0)) (a8 (S3 (X4 K (tSl (c5V K) (b8 0) a1y (a5f (tC (.int 63))))) T5 (tCB c0P (a8 (b8 0) c6))) c6)))))
def b2p(K:Fg):Sp:=spD 1 1 (c5a K)
def c0h(K:Fg):TS:=z7 (K7 (D7 (tOp qEq (tOp qIx (b8 0) (tC (.int 0))) (tC (.int 0)))) (z7 (E5 (tC (.int 12345)) (u4 2)) (z7 (K7 (D7 (tOp qLt (tOp qIx (b8 0) (tC (.int 2))) (tCB P4 (a8 (tOp qIx (b8 0) (tC (.int 3))) c6)))) (z7 (E5 (tOp qIx (tOp qIx (b8 0) (tC (.int 3))) (tOp qIx (b8 0) (tC (.int 2)))) (u4 3)) (z7 (b7n (b8 0) (tC (.int 2)) (tC (.int 1)) b8B (ipI fun i j=>i+j) a6C) (z7 (K7 (D7 (tOp qGe (b8 3) (tC (.int 1000000000000000000)))) (E5 (b8 3) (a9g (b8 0) (tC (.int 0)) a6C)) E3) (E5 (tOp X3 (tOp b0X (b8 3) (tC (.int 2147483647))) (tC (.int 1))) (u4 2))))) E3) (E5 (tOp b0X (tOp X3 (tOp b4o (tOp qIx (b8 0) (tC (.int 1))) (tC (.int 48271))) (b8 2)) (tC (.int 2147483647))) (a9g (b8 0) (tC (.int 1)) a6C)))) E3) (z7 (K7 (D7 (tOp qGt (tOp qIx (b8 0) (tC (.int 0))) (tC (.int 0)))) (z7 (E5 (tOp b0X (tOp qIx (b8 0) (tC (.int 0))) (b8 1)) (u4 4)) (z7 (E5 (tOp c3e (tOp qIx (b8 0) (tC (.int 0))) (b8 1)) (a9g (b8 0) (tC (.int 0)) a6C)) (M5 (b8 4)))) E3) (z7 (E5 (tOp b0X (tOp b4o (tOp qIx (b8 0) (tC (.int 1))) (tC (.int 39373))) (tC (.int 1000000007))) (u4 5)) (z7 (E5 (tOp b0X (tOp b4o (b8 5) (tC (.int 30011))) (tC (.int 998244353))) (u4 6)) (z7 (K7 (D7 (tOp qGt (b8 1) (tC (.int 1000000)))) (M5 (tOp b0X (tOp X3 (tOp b4o (b8 6) (tC (.int 1000000000))) (b8 5)) (b8 1))) E3) (M5 (tOp b0X (tOp c3e (b8 6) (tC (.int 3))) (b8 1)))))))
def A1(K:Fg):Sp:=spD 2 7 (c0h K)
def a5e(K:Fg):TS:=z7 (K7 (tOr (a5g (tB (tCB a4P (a8 (b8 0) (a8 (tC (.ty "list")) c6))))) (D7 (tOp qLt (tCB P4 (a8 (b8 0) c6)) (b8 2)))) (fun _ _ _=>False) E3) (K7 (D7 (tOp qGt (tCB P4 (a8 (b8 0) c6)) (tC (.int 400)))) (fun _ _ _=>False) E3)
def Z5(K:Fg):Sp:=spD 3 3 (a5e K)
def a5F(K:Fg):TS:=z7 (K7 (tOr (a5g (tB (tCB a4P (a8 (b8 0) (a8 (tC (.ty "str")) c6))))) (a5g (D7 (a4d qLe qLe (tC (.int 1)) (tCB P4 (a8 (b8 0) c6)) (tC (.int 8)))))) (M5 (tC (.bl false))) E3) (M5 (a1n (tOp (qIn false) (tOp qIx (b8 0) (tC (.int 0))) (tC (.str "abcdefghijklmnopqrstuvwxyz"))) (tCB b2F (a8 (S3 (c4r (b8 0)) T5 (tOp (qIn false) (b8 0) (tOp X3 (tC (.str "abcdefghijklmnopqrstuvwxyz")) (tC (.str "0123456789"))))) c6))))
def U7(K:Fg):Sp:=spD 1 1 (a5F K)
def a9P(K:Fg):TS:=M5 (a1n (tCB a4P (a8 (b8 0) (a8 (tC (.ty "int")) c6))) (b1A (tCB a4P (a8 (b8 0) (a8 (tC (.ty "bool")) c6)))))
def a0o(K:Fg):Sp:=spD 1 1 (a9P K)
def a6r(K:Fg):TS:=M5 (a1n (t8 (a0o K) [] E0 (a8 (b8 0) c6)) (a4d qLe qLt (tC (.int 0)) (b8 0) (tC (.int 1000000000000))))
def a2m(K:Fg):Sp:=spD 1 1 (a6r K)
def a4b(K:Fg):TS:=M5 (c2N (t8 (U7 K) [] E0 (a8 (b8 0) c6)) (t8 (a2m K) [] E0 (a8 (b8 0) c6)))
def T6(K:Fg):Sp:=spD 1 1 (a4b K)
def a3O(K:Fg)(c:Cn):TS:=z7 (K7 (tOr (a5g (tB (tCB a4P (a8 (b8 0) (a8 (tC (.ty "tuple")) c6))))) (D7 (tOp qNe (tCB P4 (a8 (b8 0) c6)) (tC (.int 3))))) (M5 (tC (.bl false))) E3) (M5 (a1n (tOp (c6b K) (tOp qIx (b8 0) (tC (.int 0))) (tC (.ref c.a4F))) (a1n (t8 (T6 K) [] E0 (a8 (tOp qIx (b8 0) (tC (.int 1))) c6)) (t8 (T6 K) [] E0 (a8 (tOp qIx (b8 0) (tC (.int 2))) c6)))))
def Z0(K:Fg)(c:Cn):Sp:=spD 1 1 (a3O K c)
def a5d(K:Fg)(c:Cn):TS:=z7 (K7 (tOr (a5g (tB (tCB a4P (a8 (b8 0) (a8 (tC (.ty "tuple")) c6))))) (D7 (tOp qEq (tCB P4 (a8 (b8 0) c6)) (tC (.int 0))))) (M5 (tC (.bl false))) E3) (z7 (E5 (tOp qIx (b8 0) (tC (.int 0))) (u4 1)) (z7 (E5 (tSl qSl (b8 0) (a5f (tC (.int 1))) a1y) (u4 2)) (z7 (K7 (D7 (tOp qEq (b8 1) (tC (.str "set")))) (M5 (a1n (tOp qEq (tCB P4 (a8 (b8 2) c6)) (tC (.int 2))) (a1n (t8 (U7 K) [] E0 (a8 (tOp qIx (b8 2) (tC (.int 0))) c6)) (t8 (Z0 K c) [] E0 (a8 (tOp qIx (b8 2) (tC (.int 1))) c6))))) E3) (z7 (K7 (D7 (tOp qEq (b8 1) (tC (.str "copy")))) (M5 (a1n (tOp qEq (tCB P4 (a8 (b8 2) c6)) (tC (.int 2))) (a1n (t8 (U7 K) [] E0 (a8 (tOp qIx (b8 2) (tC (.int 0))) c6)) (t8 (T6 K) [] E0 (a8 (tOp qIx (b8 2) (tC (.int 1))) c6))))) E3) (z7 (K7 (D7 (tOp qEq (b8 1) (tC (.str "take")))) (M5 (a1n (tOp qEq (tCB P4 (a8 (b8 2) c6)) (tC (.int 1))) (t8 (U7 K) [] E0 (a8 (tOp qIx (b8 2) (tC (.int 0))) c6)))) E3) (z7 (K7 (D7 (tOp (qIn false) (b8 1) (J7 (a8 (tC (.str "tell")) (a8 (tC (.str "ask")) c6))))) (M5 (a1n (tOp qEq (tCB P4 (a8 (b8 2) c6)) (tC (.int 1))) (t8 (T6 K) [] E0 (a8 (tOp qIx (b8 2) (tC (.int 0))) c6)))) E3) (M5 (a1n (tOp qEq (b8 1) (tC (.str "skip"))) (tOp qEq (tCB P4 (a8 (b8 2) c6)) (tC (.int 0)))))))))))
def Z9(K:Fg)(c:Cn):Sp:=spD 1 3 (a5d K c)
def a7i(K:Fg):TS:=a2y (a8S K (a8 (b8 0) c6)) (a9f K 2 (a0I (u4 1) (a0I (u4 2) (a9h)))) (K7 (a5g (tB (b8 2))) (fun _ _ _=>False) E3)
def a0a(K:Fg):Sp:=spD 1 3 (a7i K)
def a6s(K:Fg):TS:=M5 (a1n (t8 (a0o K) [] E0 (a8 (b8 0) c6)) (a4d qLe qLt (tC (.int 0)) (b8 0) (b8 1)))
def a2n(K:Fg):Sp:=spD 2 2 (a6s K)
def a3n(K:Fg):TS:=z7 (K7 (a5g (tB (tCB a4P (a8 (b8 1) (a8 (tC (.ty "list")) c6))))) (M5 (tC (.bl false))) E3) (z7 (E5 (tIf (D7 (tOp qEq (tOp qIx (b8 0) (tC (.int 0))) (tC (.str "ask")))) (J7 (a8 (tC (.int 2)) c6)) (J7 (a8 (tC (.int 0)) (a8 (tC (.int 1)) c6)))) (u4 3)) (M5 (a1n (tOp (qIn false) (tCB P4 (a8 (b8 1) c6)) (b8 3)) (tCB b2F (a8 (S3 (X4 K (b8 1)) T5 (t8 (a2n K) [] E0 (a8 (b8 0) (a8 (b8 3) c6)))) c6)))))
def W2(K:Fg):Sp:=spD 3 4 (a3n K)
def a6d(K:Fg):TS:=z7 (K7 (tOr (a5g (tB (tCB a4P (a8 (b8 1) (a8 (tC (.ty "list")) c6))))) (D7 (tOp qNe (tCB P4 (a8 (b8 1) c6)) (tCB P4 (a8 (b8 0) c6))))) (fun _ _ _=>False) E3) (a0H (t8 (a0a K) [] E0 (a8 (a7Y K (c1M K (a8 (b8 0) (a8 (b8 1) c6))) T5 (t8 (W2 K) [] E0 (a8 (b8 0) (a8 (b8 1) (a8 (tCB P4 (a8 (b8 2) c6)) c6))))) c6)))
def a0p(K:Fg):Sp:=spD 2 2 (a6d K)
def b1y(K:Fg):TS:=z7 (E5 a4c (u4 2)) (z7 (E5 (tCB a8N (a8 (b8 0) c6)) (u4 3)) (z7 (b2m (D7 (tOp qGt (tCB P4 (a8 (b8 3) c6)) (tC (.int 0)))) (z7 (E5 (c2O K "list" b8A (b8 3)) (u4 4)) (K7 (tB (a2b (b8 4) (b8 2))) (z7 (a3r (b8 2) (b8 4) (tC (.bl true))) (a0H (tBM K "list" a4j (b8 3) (a8 (tOp qIx (b8 1) (b8 4)) c6)))) E3))) (M5 (b8 2))))
def a1b(K:Fg):Sp:=spD 2 5 (b1y K)
def b3P(K:Fg):TS:=z7 (fun D σ H=>(S3 (X4 K (b8 0)) T5 (F1 c6)) σ H fun v H1=>D.nx (σ.set 1 (some v)) H1) (z7 (a2y (a8S K (a8 (b8 0) c6)) (a9f K 2 (a0I (u4 2) (a0I (u4 3) (a9h)))) (a2y (X4 K (b8 3)) (u4 4) (a0H (tBM K "list" a2L (tOp qIx (b8 1) (b8 4)) (a8 (b8 2) c6))))) (M5 (b8 1)))
def a3Q(K:Fg):Sp:=spD 1 5 (b3P K)
def a9M(K:Fg):TS:=M5 (a7Y K (a8S K (a8 (b8 0) c6)) (D7 (tOp qEq (tCB P4 (a8 (b8 1) c6)) (tC (.int 0)))) (b8 0))
def a2k(K:Fg):Sp:=spD 1 1 (a9M K)
def a7h(K:Fg):TS:=z7 (E5 (t8 (a1b K) [] E0 (a8 (F1 (a8 (tC (.int 0)) c6)) (a8 (b8 0) c6))) (u4 1)) (z7 (E5 (t8 (a1b K) [] E0 (a8 (t8 (a2k K) [] E0 (a8 (b8 0) c6)) (a8 (t8 (a3Q K) [] E0 (a8 (b8 0) c6)) c6))) (u4 2)) (a2y (a0u (a8 (tCB P4 (a8 (b8 0) c6)) c6)) (u4 3) (K7 (tOr (tB (a2b (b8 3) (b8 1))) (tB (a2b (b8 3) (b8 2)))) (fun _ _ _=>False) E3)))
def a0O(K:Fg):Sp:=spD 1 4 (a7h K)
def a9N(K:Fg)(c:Cn):TS:=z7 (E5 (F1 (a8 (tC (.ref c.a1O)) c6)) (u4 1)) (z7 (a2y (a8S K (a8 (b8 0) c6)) (a9f K 2 (a0I (u4 2) (a0I (u4 3) (a9h)))) (a0H (tBM K "list" a4j (b8 1) (a8 (S3 (a0u (a8 (tCB P4 (a8 (b8 3) c6)) c6)) T5 (J7 (a8 (b8 3) (a8 (b8 0) c6)))) c6)))) (M5 (b8 1)))
def a3o(K:Fg)(c:Cn):Sp:=spD 1 4 (a9N K c)
def a4I(K:Fg)(c:Cn):TS:=z7 (K7 (D7 (tOp (c6c K) (b8 1) (tC (.ref c.a1O)))) (M5 (tC (.int 0))) E3) (M5 (tOp qIx (tOp qIx (b8o K (b8 0) "nexts") (tOp qIx (b8 1) (tC (.int 0)))) (tOp qIx (b8 1) (tC (.int 1)))))
def a0x(K:Fg)(c:Cn):Sp:=spD 2 2 (a4I K c)
def a8J(K:Fg)(c:Cn):TS:=z7 (a0H (t8 (Z5 K) [] E0 (a8 (b8 1) (a8 (tC (.int 0)) (a8 (tC (.int 1)) c6))))) (z7 (a0H (t8 (a0a K) [] E0 (a8 (S3 (X4 K (b8 1)) T5 (t8 (Z9 K c) [] E0 (a8 (b8 0) c6))) c6))) (z7 (a0H (t8 (a0p K) [] E0 (a8 (b8 1) (a8 (b8 2) c6)))) (z7 (a0H (t8 (a0O K) [] E0 (a8 (b8 2) c6))) (z7 (b8y K (b8 0) (tCB a8N (a8 (b8 1) c6)) "rows") (z7 (b8y K (b8 0) (S3 (X4 K (b8 2)) T5 (tCB a8N (a8 (b8 0) c6))) "nexts") (z7 (b8y K (b8 0) (S3 (X4 K (b8 1)) T5 (F1 c6)) "entries") (a2y (X4 K (t8 (a3o K c) [] E0 (a8 (b8o K (b8 0) "nexts") c6))) (u4 3) (a0H (tBM K "list" a2L (tOp qIx (b8o K (b8 0) "entries") (b3U c.V0 "leads_to" (a0x K c) [] E0 (b8 0) (a8 (b8 3) c6))) (a8 (b8 3) c6))))))))))
def a2I(K:Fg)(c:Cn):Sp:=spD 3 4 (a8J K c)
def a0U(K:Fg)(e:Xn)(E:XK):TS:=z7 (K7 (tOr (a5g (tB (tCB a4P (a8 (b8 0) (a8 (tC (.ty "list")) c6))))) (D7 (tOp qLt (tCB P4 (a8 (b8 0) c6)) (b8 2)))) (a3z e.C_Wrong (O9 K "at") (fun _=>E) (a8 (b8 1) c6)) E3) (K7 (D7 (tOp qGt (tCB P4 (a8 (b8 0) c6)) (tC (.int 400)))) (a3z e.C_TooMany (O9 K "most") (fun _=>E) (a8 (tC (.int 400)) c6)) E3)
def U3(K:Fg)(e:Xn):Sp:=spX 3 3 (a0U K e)
def a1X(K:Fg)(e:Xn):Sp:=b3Y (Z5 K) (U3 K e)
def a6f(K:Fg)(e:Xn)(E:XK):TS:=a2y (a8S K (a8 (b8 0) c6)) (a9f K 2 (a0I (u4 1) (a0I (u4 2) (a9h)))) (K7 (a5g (tB (b8 2))) (a3z e.C_NoThing (O9 K "at") (fun _=>E) (a8 (b8 1) c6)) E3)
def a2W(K:Fg)(e:Xn):Sp:=spX 1 3 (a6f K e)
def a1C(K:Fg)(e:Xn):Sp:=b3Y (a0a K) (a2W K e)
def a1z(K:Fg)(e:Xn)(E:XK):TS:=z7 (K7 (tOr (a5g (tB (tCB a4P (a8 (b8 1) (a8 (tC (.ty "list")) c6))))) (D7 (tOp qNe (tCB P4 (a8 (b8 1) c6)) (tCB P4 (a8 (b8 0) c6))))) (a3z e.C_Wrong (O9 K "at") (fun _=>E) (a8 (tC (.int 1)) c6)) E3) (a0H (a2z (a1C K e) (fun _=>E) (a8 (a7Y K (c1M K (a8 (b8 0) (a8 (b8 1) c6))) T5 (t8 (W2 K) [] E0 (a8 (b8 0) (a8 (b8 1) (a8 (tCB P4 (a8 (b8 2) c6)) c6))))) c6)))
def V8(K:Fg)(e:Xn):Sp:=spX 2 2 (a1z K e)
def a2A(K:Fg)(e:Xn):Sp:=b3Y (a0p K) (V8 K e)
def a6e(K:Fg)(e:Xn)(E:XK):TS:=z7 (E5 (t8 (a1b K) [] E0 (a8 (F1 (a8 (tC (.int 0)) c6)) (a8 (b8 0) c6))) (u4 1)) (z7 (E5 (t8 (a1b K) [] E0 (a8 (t8 (a2k K) [] E0 (a8 (b8 0) c6)) (a8 (t8 (a3Q K) [] E0 (a8 (b8 0) c6)) c6))) (u4 2)) (a2y (a0u (a8 (tCB P4 (a8 (b8 0) c6)) c6)) (u4 3) (K7 (tOr (tB (a2b (b8 3) (b8 1))) (tB (a2b (b8 3) (b8 2)))) (a3z e.C_NoWay (O9 K "at") (fun _=>E) (a8 (b8 3) c6)) E3)))
def a1D(K:Fg)(e:Xn):Sp:=spX 1 4 (a6e K e)
def a2V(K:Fg)(e:Xn):Sp:=b3Y (a0O K) (a1D K e)
def a1A(K:Fg)(c:Cn)(e:Xn)(E:XK):TS:=z7 (a0H (a2z (a1X K e) (fun _=>E) (a8 (b8 1) (a8 (tC (.int 0)) (a8 (tC (.int 1)) c6))))) (z7 (a0H (a2z (a1C K e) (fun _=>E) (a8 (S3 (X4 K (b8 1)) T5 (t8 (Z9 K c) [] E0 (a8 (b8 0) c6))) c6))) (z7 (a0H (a2z (a2A K e) (fun _=>E) (a8 (b8 1) (a8 (b8 2) c6)))) (z7 (a0H (a2z (a2V K e) (fun _=>E) (a8 (b8 2) c6))) b5F)))
def X2(K:Fg)(c:Cn)(e:Xn):Sp:=spX 3 4 (a1A K c e)
def a3B(K:Fg)(c:Cn)(e:Xn):Sp:=b3Y (a2I K c) (X2 K c e)
def b7i(K:Fg):TS:=M5 (a1n (tCB a4P (a8 (b8 0) (a8 (tC (.ty "int")) c6))) (b1A (tCB a4P (a8 (b8 0) (a8 (tC (.ty "bool")) c6)))))
def a5h(K:Fg):Sp:=spD 1 1 (b7i K)
def qX(K:Fg)(x C:Addr)(dx:Option Addr):List V->Hp->VK->Prop:=fun vs H Q=>b5k dx H/\c6a K x C vs H Q
def b3V(K:Fg)(x C:Addr)(dx:Option Addr)(v:V):TE:=tCB (qX K x C dx) (a8 (b8 3) (a8 (tC v) c6))
def c0n(n:Int):TS:=M5 (J7 (a8 (tC (.str "other")) (a8 (tC (.int n)) c6)))
def a7g(K:Fg)(e:Xn)(x C:Addr)(dx:Option Addr):TS:=
 z7 (E5 (F1 (a8 (b3V K x C dx (.ref e.C_Wrong)) (a8 (b3V K x C dx (.ref e.C_NoThing)) (a8 (b3V K x C dx (.ref e.C_TooMany)) (a8 (b3V K x C dx (.ref e.C_NoWay)) c6))))) (u4 4))
 (z7 (K7 (tOr (tB (b3V K x C dx (.ref e.C_NoText))) (tOr (D7 (tOp qNe (tCB b1I (a8 (S3 (X4 K (b8 4)) T5 (tCB c3d (a8 (b8 0) c6))) c6)) (tC (.int 1)))) (a5g (tB (b3V K x C dx (.ty "ValueError")))))) (c0n 0) E3)
 (z7 (K7 (tB (b3V K x C dx (.ref e.C_TooMany))) (E5 (J7 (a8 (tC (.str "many")) (a8 (b3S K x C dx (b8 3) "most") c6))) (u4 2))
  (E5 (J7 (a8 (tOp qIx (F1 (a8 (tC (.str "wrong")) (a8 (tC (.str "thing")) (a8 (tC (.str "many")) (a8 (tC (.str "way")) c6))))) (tBM K "list" b2D (b8 4) (a8 (tC (.bl true)) c6))) (a8 (b3S K x C dx (b8 3) "at") c6))) (u4 2)))
 (K7 (a5g (tB (t8 (a5h K) [] E0 (a8 (tOp qIx (b8 2) (tC (.int 1))) c6)))) (c0n 1) E3)))
def a5E(K:Fg)(c:Cn)(e:Xn):TS:=z7 (E5 (tC .non) (u4 2)) (z7 (b3T K e.C_OnceError 3 (fun EE=>a0H (a9Q c.V0 (a3B K c e) EE (a8 (b8 0) (a8 (b8 1) c6)))) (a7g K e)) (M5 (b8 2)))
def a1a(K:Fg)(c:Cn):Sp:=spD 2 5 (a5E K c c.x)
def c0k(K:Fg)(c:Cn):TS:=z7 (E5 (tOp X3 (tC (.int 1)) (t8 (A1 K) [] E0 (a8 (b8 0) (a8 (tC (.int 398)) c6)))) (u4 1)) (z7 (E5 (tOp X3 (S3 (a0u (a8 (tC (.int 399)) c6)) T5 (F1 (a8 (tOp X3 (b8 0) (tC (.int 1))) c6))) (F1 (a8 (F1 c6) c6))) (u4 2)) (z7 (E5 (F1 (a8 (tOp X3 (b8 1) (tC (.int 1))) c6)) (a9g (b8 2) (tOp b2C (b8 1) (tC (.int 1))) a6C)) (M5 (tOp qEq (t8 (a1a K c) [] E0 (a8 (tOp b5W (F1 (a8 (J7 (a8 (tC (.str "skip")) c6)) c6)) (tC (.int 400))) (a8 (b8 2) c6))) (J7 (a8 (tC (.str "way")) (a8 (b8 1) c6)))))))
def a9l(K:Fg)(c:Cn):Sp:=spD 1 3 (c0k K c)
def c4Z(K:Fg):TS:=z7 (E5 (F1 c6) (u4 2)) (z7 (a2y (a0u (a8 (b8 1) c6)) (u4 3) (z7 (E5 (tCB c0O (a8 (tOp X3 (b8 3) (tC (.int 1))) (a8 (tOp b2C (b8 1) (tC (.int 1))) c6))) (u4 4)) (z7 (E5 (F1 (a8 (b8 4) (a8 (t8 (A1 K) [] E0 (a8 (b8 0) (a8 (b8 1) c6))) c6))) (u4 5)) (z7 (E5 (t8 (A1 K) [] E0 (a8 (b8 0) (a8 (tC (.int 8)) c6))) (u4 6)) (z7 (K7 (D7 (tOp qLt (b8 6) (tC (.int 3)))) (E5 (F1 (a8 (tOp qIx (b8 5) (tC (.int 1))) (a8 (b8 4) c6))) (u4 5)) E3) (z7 (K7 (D7 (tOp qEq (b8 6) (tC (.int 3)))) (E5 (F1 (a8 (tOp qIx (b8 5) (tC (.int 1))) (a8 (t8 (A1 K) [] E0 (a8 (b8 0) (a8 (b8 1) c6))) c6))) (u4 5)) E3) (z7 (K7 (tOr (a9R (D7 (tOp qGt (b8 6) (tC (.int 3)))) (D7 (tOp qLt (b8 6) (tC (.int 7))))) (D7 (tOp qEq (b8 1) (tC (.int 1))))) (E5 (F1 (a8 (b8 4) c6)) (u4 5)) E3) (z7 (K7 (a9R (D7 (tOp qEq (b8 6) (tC (.int 7)))) (D7 (tOp qGt (b8 1) (tC (.int 1))))) (E5 (F1 (a8 (tOp qIx (b8 5) (tC (.int 1))) c6)) (u4 5)) E3) (z7 (K7 (tOr (D7 (tOp qEq (b8 3) (tOp b2C (b8 1) (tC (.int 1))))) (a9R (D7 (tOp qEq (b8 6) (tC (.int 6)))) (D7 (tOp qEq (t8 (A1 K) [] E0 (a8 (b8 0) (a8 (tC (.int 4)) c6))) (tC (.int 0)))))) (E5 (F1 c6) (u4 5)) E3) (a0H (tBM K "list" a2L (b8 2) (a8 (b8 5) c6)))))))))))) (M5 (b8 2)))
def a7Z(K:Fg):Sp:=spD 2 7 (c4Z K)
def b3R(K:Fg):TS:=z7 (E5 a4c (u4 1)) (z7 (a2y (a0u (a8 (tCB P4 (a8 (b8 0) c6)) c6)) (u4 2) (a2y (a0u (a8 (tCB P4 (a8 (b8 0) c6)) c6)) (u4 3) (K7 (tOr (D7 (tOp qEq (tOp qIx (b8 0) (b8 3)) (F1 c6))) (tB (tCB b2E (a8 (S3 (X4 K (tOp qIx (b8 0) (b8 3))) T5 (a7X (b8 0) (b8 2))) c6)))) (a3r (b8 1) (b8 3) (tC (.bl true))) E3))) (z7 (E5 (S3 (a0u (a8 (tCB P4 (a8 (b8 0) c6)) c6)) T5 (tIf (tB (a7X (b8 0) (b8 2))) (tOp qIx (b8 1) (b8 0)) (tOp X3 (F1 (a8 (tOp b2C (tCB P4 (a8 (b8 1) c6)) (tC (.int 1))) c6)) (tSl qSl (tOp qIx (b8 1) (b8 0)) (a5f (tC (.int 1))) a1y)))) (u4 0)) (z7 (E5 (b3W ((tC (.int 0),tC (.bl true))::[])) (u4 4)) (z7 (a2y (a0u (a8 (tCB P4 (a8 (b8 0) c6)) c6)) (u4 2) (a2y (a0u (a8 (tCB P4 (a8 (b8 0) c6)) c6)) (u4 3) (K7 (tB (a7X (b8 3) (b8 4))) (a2y (X4 K (tOp qIx (b8 0) (b8 3))) (u4 5) (a3r (b8 4) (b8 5) (tC (.bl true)))) E3))) (z7 (E5 (tCB a5J (a8 (tCB a8g (a8 (b8 4) c6)) c6)) (u4 6)) (M5 (S3 (X4 K (b8 6)) T5 (S3 (X4 K (tOp qIx (b8 1) (b8 0))) T5 (tBM K "list" a8h (b8 8) (a8 (b8 0) c6))))))))))
def a5G(K:Fg):Sp:=spD 1 7 (b3R K)
def c0i(K:Fg):TS:=z7 (E5 (tC (.str "abcdefghijklmnopqrstuvwxyz")) (u4 1)) (z7 (E5 (tOp X3 (b8 1) (tC (.str "0123456789"))) (u4 2)) (M5 (tOp X3 (tOp qIx (b8 1) (t8 (A1 K) [] E0 (a8 (b8 0) (a8 (tC (.int 26)) c6)))) (tBM K "str" b1J (tC (.str "")) (a8 (S3 (a0u (a8 (t8 (A1 K) [] E0 (a8 (b8 0) (a8 (tC (.int 8)) c6))) c6)) T5 (tOp qIx (b8 3) (t8 (A1 K) [] E0 (a8 (b8 1) (a8 (tC (.int 36)) c6))))) c6)))))
def a9k(K:Fg):Sp:=spD 1 3 (c0i K)
def b7k(K:Fg):TS:=z7 (E5 (F1 (a8 (tC (.str "a")) (a8 (tC (.str "k0")) (a8 (tC (.str "ab")) (a8 (tC (.str "set")) (a8 (tC (.str "abc")) (a8 (tC (.str "k1")) (a8 (tC (.str "abcdefgh")) (a8 (tC (.str "b")) c6))))))))) (u4 1)) (z7 (E5 (tOp X3 (b8 1) (F1 (a8 (tC (.str "ask")) (a8 (tC (.str "x9")) (a8 (tC (.str "a1")) (a8 (tC (.str "abcdefg")) (a8 (tC (.str "plus")) (a8 (tC (.str "ba")) (a8 (tC (.str "k10")) (a8 (tC (.str "z")) c6)))))))))) (u4 1)) (z7 (E5 (t8 (A1 K) [] E0 (a8 (b8 0) (a8 (tC (.int 16)) c6))) (u4 2)) (z7 (E5 (tOp X3 (tC (.int 1)) (tOp b4o (tC (.int 2)) (t8 (A1 K) [] E0 (a8 (b8 0) (a8 (tC (.int 8)) c6))))) (u4 3)) (z7 (E5 (F1 c6) (u4 4)) (z7 (a2y (a0u (a8 (tOp X3 (tC (.int 2)) (t8 (A1 K) [] E0 (a8 (b8 0) (a8 (tC (.int 3)) c6)))) c6)) (u4 5) (z7 (E5 (tOp qIx (b8 1) (tOp b0X (tOp X3 (b8 2) (tOp b4o (b8 5) (b8 3))) (tC (.int 16)))) (u4 6)) (z7 (K7 (D7 (tOp qEq (t8 (A1 K) [] E0 (a8 (b8 0) (a8 (tC (.int 3)) c6))) (tC (.int 0)))) (E5 (t8 (a9k K) [] E0 (a8 (b8 0) c6)) (u4 6)) E3) (K7 (D7 (tOp (qIn true) (b8 6) (b8 4))) (a0H (tBM K "list" a2L (b8 4) (a8 (b8 6) c6))) E3)))) (M5 (b8 4)))))))
def a5i(K:Fg):Sp:=spD 1 7 (b7k K)
def b7j(K:Fg):TS:=M5 (tOp qIx (F1 (a8 (tC (.int 0)) (a8 (tC (.int 1)) (a8 (tOp b2C (tOp b2C (tOp c0N (tC (.int 10)) (tC (.int 12))) (tC (.int 1))) (t8 (A1 K) [] E0 (a8 (b8 0) (a8 (tC (.int 3)) c6)))) (a8 (t8 (A1 K) [] E0 (a8 (b8 0) (a8 (tC (.int 1000000000000)) c6))) c6))))) (t8 (A1 K) [] E0 (a8 (b8 0) (a8 (tC (.int 4)) c6))))
def a7j(K:Fg):Sp:=spD 1 1 (b7j K)
def b1z(K:Fg):TS:=z7 (K7 (D7 (tOp qEq (t8 (A1 K) [] E0 (a8 (b8 0) (a8 (tC (.int 4)) c6))) (tC (.int 0)))) (M5 (t8 (a7j K) [] E0 (a8 (b8 0) c6))) E3) (M5 (tOp qIx (b8 1) (t8 (A1 K) [] E0 (a8 (b8 0) (a8 (tCB P4 (a8 (b8 1) c6)) c6)))))
def a0n(K:Fg):Sp:=spD 2 2 (b1z K)
def c0m(K:Fg):TS:=z7 (E5 (tOp qIx (F1 (a8 (tC (.str "plus")) (a8 (tC (.str "minus")) (a8 (tC (.str "times")) (a8 (tC (.str "less")) (a8 (tC (.str "same")) c6)))))) (t8 (A1 K) [] E0 (a8 (b8 0) (a8 (tC (.int 5)) c6)))) (u4 2)) (z7 (E5 (t8 (a0n K) [] E0 (a8 (b8 0) (a8 (b8 1) c6))) (u4 3)) (z7 (E5 (t8 (a0n K) [] E0 (a8 (b8 0) (a8 (b8 1) c6))) (u4 4)) (z7 (K7 (D7 (tOp qEq (t8 (A1 K) [] E0 (a8 (b8 0) (a8 (tC (.int 6)) c6))) (tC (.int 0)))) (E5 (b8 3) (u4 4)) E3) (M5 (J7 (a8 (b8 2) (a8 (b8 3) (a8 (b8 4) c6))))))))
def a7l(K:Fg):Sp:=spD 2 5 (c0m K)
def c4X(K:Fg):TS:=z7 (K7 (D7 (tOp qEq (b8 3) (tC (.int 2)))) (M5 (J7 (a8 (tC (.str "ask")) (a8 (t8 (a0n K) [] E0 (a8 (b8 0) (a8 (b8 1) c6))) c6)))) E3) (z7 (E5 (t8 (A1 K) [] E0 (a8 (b8 0) (a8 (tC (.int 8)) c6))) (u4 4)) (z7 (E5 (tOp qIx (b8 1) (t8 (A1 K) [] E0 (a8 (b8 0) (a8 (tCB P4 (a8 (b8 1) c6)) c6)))) (u4 5)) (z7 (K7 (D7 (tOp qLt (b8 4) (tC (.int 5)))) (M5 (J7 (a8 (tC (.str "set")) (a8 (b8 5) (a8 (tOp qIx (b8 2) (t8 (A1 K) [] E0 (a8 (b8 0) (a8 (tCB P4 (a8 (b8 2) c6)) c6)))) c6))))) E3) (z7 (K7 (D7 (tOp qEq (b8 4) (tC (.int 5)))) (M5 (J7 (a8 (tC (.str "copy")) (a8 (b8 5) (a8 (t8 (a0n K) [] E0 (a8 (b8 0) (a8 (b8 1) c6))) c6))))) E3) (z7 (K7 (D7 (tOp qEq (b8 4) (tC (.int 6)))) (M5 (J7 (a8 (tC (.str "take")) (a8 (b8 5) c6)))) E3) (M5 (tOp qIx (F1 (a8 (J7 (a8 (tC (.str "tell")) (a8 (t8 (a0n K) [] E0 (a8 (b8 0) (a8 (b8 1) c6))) c6))) (a8 (J7 (a8 (tC (.str "skip")) c6)) c6))) (t8 (A1 K) [] E0 (a8 (b8 0) (a8 (tC (.int 2)) c6))))))))))
def a9T(K:Fg):Sp:=spD 4 6 (c4X K)
def b7l(K:Fg):TS:=z7 (E5 (tOp X3 (tC (.int 1)) (t8 (A1 K) [] E0 (a8 (b8 0) (a8 (tC (.int 9)) c6)))) (u4 1)) (z7 (K7 (D7 (tOp qEq (t8 (A1 K) [] E0 (a8 (b8 0) (a8 (tC (.int 8)) c6))) (tC (.int 0)))) (E5 (tOp X3 (tC (.int 15)) (t8 (A1 K) [] E0 (a8 (b8 0) (a8 (tC (.int 10)) c6)))) (u4 1)) E3) (z7 (E5 (t8 (a5G K) [] E0 (a8 (t8 (a7Z K) [] E0 (a8 (b8 0) (a8 (b8 1) c6))) c6)) (u4 2)) (z7 (E5 (t8 (a5i K) [] E0 (a8 (b8 0) c6)) (u4 3)) (z7 (E5 (S3 (a0u (a8 (tOp X3 (tC (.int 1)) (t8 (A1 K) [] E0 (a8 (b8 0) (a8 (tC (.int 3)) c6)))) c6)) T5 (t8 (a7l K) [] E0 (a8 (b8 1) (a8 (b8 4) c6)))) (u4 4)) (M5 (J7 (a8 (S3 (X4 K (b8 2)) T5 (t8 (a9T K) [] E0 (a8 (b8 1) (a8 (b8 4) (a8 (b8 5) (a8 (tCB P4 (a8 (b8 0) c6)) c6)))))) (a8 (b8 2) c6))))))))
def a7k(K:Fg):Sp:=spD 1 5 (b7l K)
def c0l(K:Fg):TS:=z7 (K7 (D7 (tOp qEq (t8 (A1 K) [] E0 (a8 (b8 0) (a8 (tC (.int 8)) c6))) (tC (.int 0)))) (M5 (J7 (a8 (tOp b5W (F1 (a8 (J7 (a8 (tC (.str "skip")) c6)) c6)) (tC (.int 400))) (a8 (tOp X3 (S3 (a0u (a8 (tC (.int 399)) c6)) T5 (F1 (a8 (tOp X3 (b8 0) (tC (.int 1))) c6))) (F1 (a8 (F1 c6) c6))) c6)))) E3) (M5 (t8 (a7k K) [] E0 (a8 (b8 0) c6)))
def a9m(K:Fg):Sp:=spD 1 1 (c0l K)
def b3Q(K:Fg):TS:=z7 (E5 (F1 (a8 (tC .non) (a8 (tC (.int 3)) (a8 (tC (.str "skip")) (a8 (F1 (a8 (tC (.str "skip")) c6)) (a8 (J7 (a8 (tC (.str "skip")) (a8 (tC (.int 1)) c6))) (a8 (J7 (a8 (tC (.str "tell")) c6)) (a8 (J7 (a8 (tC (.str "tell")) (a8 (tC (.bl true)) c6))) (a8 (J7 (a8 (tC (.str "set")) (a8 (tC (.str "a")) (a8 (J7 (a8 (tC (.str "plus")) (a8 (tC (.str "a")) c6))) c6)))) (a8 (J7 (a8 (tC (.str "take")) (a8 (tC (.int 5)) c6))) c6)))))))))) (u4 1)) (z7 (E5 (tOp X3 (b8 1) (F1 (a8 (J7 (a8 (tC (.str "copy")) (a8 (tC (.str "A")) (a8 (tC (.int 1)) c6)))) (a8 (J7 (a8 (tC (.str "ask")) (a8 (tUn (rU fun i=>.int (-i)) (tC (.int 1))) c6))) (a8 (J7 (a8 (tC (.str "jump")) c6)) (a8 (J7 c6) (a8 (J7 (a8 (tC (.str "set")) (a8 (tC (.str "a")) (a8 (J7 (a8 (tC (.str "over")) (a8 (tC (.str "a")) (a8 (tC (.int 1)) c6)))) c6)))) c6))))))) (u4 1)) (z7 (E5 (tOp X3 (b8 1) (F1 (a8 (J7 (a8 (tC (.str "take")) (a8 (tC (.str "abcdefghi")) c6))) (a8 (J7 (a8 (tC (.str "copy")) (a8 (tC (.str "a")) (a8 (tOp c0N (tC (.int 10)) (tC (.int 12))) c6)))) (a8 (J7 (a8 (tC (.str "tell")) (a8 (tC (.str "a.b")) c6))) (a8 (J7 (a8 (tC (.str "set")) (a8 (tC (.str "a")) (a8 (J7 (a8 (tC (.str "plus")) (a8 (tC (.str "a")) (a8 (tC (.bl true)) c6)))) c6)))) c6)))))) (u4 1)) (z7 (E5 (tOp X3 (b8 1) (F1 (a8 (J7 (a8 (tC (.str "set")) (a8 (tC (.int 5)) (a8 (J7 (a8 (tC (.str "plus")) (a8 (tC (.int 1)) (a8 (tC (.int 1)) c6)))) c6)))) (a8 (J7 (a8 (tC (.str "take")) (a8 (tC (.str "1a")) c6))) (a8 (J7 (a8 (tC (.str "set")) (a8 (tC (.str "a")) (a8 (F1 (a8 (tC (.str "plus")) (a8 (tC (.int 1)) (a8 (tC (.int 1)) c6)))) c6)))) (a8 (J7 (a8 (tC (.str "skip")) (a8 (tC .non) c6))) c6)))))) (u4 1)) (M5 (tOp qIx (b8 1) (t8 (A1 K) [] E0 (a8 (b8 0) (a8 (tC (.int 22)) c6))))))))
def a2O(K:Fg):Sp:=spD 1 2 (b3Q K)
def a6c(K:Fg):TS:=z7 (E5 (t8 (A1 K) [] E0 (a8 (b8 0) (a8 (tC (.int 5)) c6))) (u4 2)) (z7 (K7 (D7 (tOp qEq (b8 2) (tC (.int 0)))) (M5 (J7 (a8 (tOp qIx (F1 (a8 (tC .non) (a8 (tCB a5k (a8 (b8 1) c6)) (a8 (tC (.str "rows")) (a8 a4c (a8 (tC (.int 5)) (a8 (F1 c6) c6))))))) (t8 (A1 K) [] E0 (a8 (b8 0) (a8 (tC (.int 6)) c6)))) (a8 (J7 (a8 (tC (.str "wrong")) (a8 (tC (.int 0)) c6))) c6)))) E3) (z7 (K7 (D7 (tOp qEq (b8 2) (tC (.int 1)))) (M5 (J7 (a8 (tOp X3 (tOp b5W (F1 (a8 (J7 (a8 (tC (.str "skip")) c6)) c6)) (tC (.int 401))) (tOp b5W (F1 (a8 (tC .non) c6)) (t8 (A1 K) [] E0 (a8 (b8 0) (a8 (tC (.int 2)) c6))))) (a8 (J7 (a8 (tC (.str "many")) (a8 (tC (.int 400)) c6))) c6)))) E3) (z7 (E5 (t8 (A1 K) [] E0 (a8 (b8 0) (a8 (tCB P4 (a8 (b8 1) c6)) c6))) (u4 3)) (z7 (E5 (tOp X3 (tOp X3 (tSl qSl (b8 1) a1y (a5f (b8 3))) (F1 (a8 (t8 (a2O K) [] E0 (a8 (b8 0) c6)) c6))) (tSl qSl (b8 1) (a5f (tOp X3 (b8 3) (tC (.int 1)))) a1y)) (u4 4)) (z7 (K7 (D7 (tOp qEq (t8 (A1 K) [] E0 (a8 (b8 0) (a8 (tC (.int 2)) c6))) (tC (.int 0)))) (E5 (t8 (a2O K) [] E0 (a8 (b8 0) c6)) (a9g (b8 4) (tUn (rU fun i=>.int (-i)) (tC (.int 1))) a6C)) E3) (M5 (J7 (a8 (b8 4) (a8 (J7 (a8 (tC (.str "thing")) (a8 (b8 3) c6))) c6)))))))))
def a1B(K:Fg):Sp:=spD 2 5 (a6c K)
def a9O(K:Fg):TS:=z7 (K7 (D7 (tOp qEq (tOp qIx (b8 1) (tC (.int 0))) (tC (.str "ask")))) (z7 (E5 (F1 (a8 (F1 c6) (a8 (F1 (a8 (tC (.int 0)) c6)) (a8 (F1 (a8 (tC (.int 0)) (a8 (tC (.int 0)) (a8 (tC (.int 0)) c6)))) (a8 (J7 (a8 (tC (.int 0)) (a8 (tC (.int 0)) c6))) (a8 (F1 (a8 (tC (.int 0)) (a8 (b8 2) c6))) (a8 (F1 (a8 (tUn (rU fun i=>.int (-i)) (tC (.int 1))) (a8 (tC (.int 0)) c6))) (a8 (F1 (a8 (tC (.bl true)) (a8 (tC (.int 0)) c6))) (a8 (F1 (a8 (tC (.int 0)) (a8 (tC (.str "0")) c6))) (a8 (F1 (a8 (tC .non) (a8 (tC (.int 0)) c6))) (a8 (tC .non) (a8 (tC (.int 0)) c6)))))))))))) (u4 3)) (M5 (tOp qIx (b8 3) (t8 (A1 K) [] E0 (a8 (b8 0) (a8 (tC (.int 11)) c6)))))) E3) (z7 (E5 (F1 (a8 (F1 (a8 (tC (.int 0)) (a8 (tC (.int 0)) c6))) (a8 (J7 (a8 (tC (.int 0)) c6)) (a8 (J7 c6) (a8 (F1 (a8 (b8 2) c6)) (a8 (F1 (a8 (tUn (rU fun i=>.int (-i)) (tC (.int 1))) c6)) (a8 (F1 (a8 (tC (.bl true)) c6)) (a8 (F1 (a8 (tC (.bl false)) c6)) (a8 (F1 (a8 (tC (.str "0")) c6)) (a8 (F1 (a8 (tC .non) c6)) (a8 (tC .non) (a8 (tC (.int 0)) c6)))))))))))) (u4 3)) (M5 (tOp qIx (b8 3) (t8 (A1 K) [] E0 (a8 (b8 0) (a8 (tC (.int 11)) c6))))))
def a2l(K:Fg):Sp:=spD 3 4 (a9O K)
def a5c(K:Fg):TS:=z7 (E5 (t8 (A1 K) [] E0 (a8 (b8 0) (a8 (tC (.int 5)) c6))) (u4 3)) (z7 (K7 (D7 (tOp qEq (b8 3) (tC (.int 0)))) (M5 (J7 (a8 (tOp qIx (F1 (a8 (tC .non) (a8 (tCB a5k (a8 (b8 2) c6)) (a8 (tC (.str "nexts")) (a8 a4c (a8 (tC (.int 5)) (a8 (F1 c6) c6))))))) (t8 (A1 K) [] E0 (a8 (b8 0) (a8 (tC (.int 6)) c6)))) (a8 (J7 (a8 (tC (.str "wrong")) (a8 (tC (.int 1)) c6))) c6)))) E3) (z7 (K7 (D7 (tOp qEq (b8 3) (tC (.int 1)))) (M5 (J7 (a8 (tOp qIx (F1 (a8 (tSl qSl (b8 2) (a5f (tC (.int 1))) a1y) (a8 (tOp X3 (b8 2) (F1 (a8 (F1 c6) c6))) (a8 (tOp X3 (F1 (a8 (F1 c6) c6)) (b8 2)) c6)))) (t8 (A1 K) [] E0 (a8 (b8 0) (a8 (tC (.int 3)) c6)))) (a8 (J7 (a8 (tC (.str "wrong")) (a8 (tC (.int 1)) c6))) c6)))) E3) (z7 (E5 (t8 (A1 K) [] E0 (a8 (b8 0) (a8 (tCB P4 (a8 (b8 1) c6)) c6))) (u4 4)) (z7 (E5 (tOp X3 (tOp X3 (tSl qSl (b8 2) a1y (a5f (b8 4))) (F1 (a8 (t8 (a2l K) [] E0 (a8 (b8 0) (a8 (tOp qIx (b8 1) (b8 4)) (a8 (tCB P4 (a8 (b8 1) c6)) c6)))) c6))) (tSl qSl (b8 2) (a5f (tOp X3 (b8 4) (tC (.int 1)))) a1y)) (u4 5)) (z7 (K7 (a9R (D7 (tOp qEq (t8 (A1 K) [] E0 (a8 (b8 0) (a8 (tC (.int 2)) c6))) (tC (.int 0)))) (D7 (tOp qLt (b8 4) (tOp b2C (tCB P4 (a8 (b8 1) c6)) (tC (.int 1)))))) (E5 (t8 (a2l K) [] E0 (a8 (b8 0) (a8 (tOp qIx (b8 1) (tUn (rU fun i=>.int (-i)) (tC (.int 1)))) (a8 (tCB P4 (a8 (b8 1) c6)) c6)))) (a9g (b8 5) (tUn (rU fun i=>.int (-i)) (tC (.int 1))) a6C)) E3) (M5 (J7 (a8 (b8 5) (a8 (J7 (a8 (tC (.str "thing")) (a8 (b8 4) c6))) c6)))))))))
def Z4(K:Fg):Sp:=spD 3 6 (a5c K)
def c4Y(K:Fg):TS:=z7 (E5 (t8 (a7Z K) [] E0 (a8 (b8 0) (a8 (tOp X3 (tC (.int 1)) (t8 (A1 K) [] E0 (a8 (b8 0) (a8 (tC (.int 9)) c6)))) c6))) (u4 1)) (z7 (a2y (a0u (a8 (tCB P4 (a8 (b8 1) c6)) c6)) (u4 2) (K7 (a9R (D7 (tOp qEq (t8 (A1 K) [] E0 (a8 (b8 0) (a8 (tC (.int 6)) c6))) (tC (.int 0)))) (D7 (tOp qNe (tOp qIx (b8 1) (b8 2)) (F1 c6)))) (E5 (t8 (A1 K) [] E0 (a8 (b8 0) (a8 (tCB P4 (a8 (b8 1) c6)) c6))) (a9g (tOp qIx (b8 1) (b8 2)) (tC (.int 0)) a6C)) E3)) (z7 (K7 (a9R (D7 (tOp qEq (t8 (A1 K) [] E0 (a8 (b8 0) (a8 (tC (.int 3)) c6))) (tC (.int 0)))) (a9R (D7 (tOp qEq (tOp qIx (b8 1) (tUn (rU fun i=>.int (-i)) (tC (.int 1)))) (F1 c6))) (D7 (tOp qGt (tCB P4 (a8 (b8 1) c6)) (tC (.int 1)))))) (E5 (F1 (a8 (t8 (A1 K) [] E0 (a8 (b8 0) (a8 (tCB P4 (a8 (b8 1) c6)) c6))) c6)) (a9g (b8 1) (tUn (rU fun i=>.int (-i)) (tC (.int 1))) a6C)) E3) (z7 (E5 (t8 (a5i K) [] E0 (a8 (b8 0) c6)) (u4 3)) (z7 (E5 (F1 (a8 (t8 (a7l K) [] E0 (a8 (b8 0) (a8 (b8 3) c6))) c6)) (u4 4)) (M5 (J7 (a8 (S3 (X4 K (b8 1)) T5 (t8 (a9T K) [] E0 (a8 (b8 1) (a8 (b8 4) (a8 (b8 5) (a8 (tCB P4 (a8 (b8 0) c6)) c6)))))) (a8 (b8 1) c6))))))))
def b2o(K:Fg):Sp:=spD 1 5 (c4Y K)
def b7m(K:Fg):TS:=z7 (E5 a4c (u4 1)) (z7 (E5 (b3W ((tC (.int 0),tC (.bl true))::[])) (u4 2)) (z7 (a2y (a0u (a8 (tCB P4 (a8 (b8 0) c6)) c6)) (u4 3) (a2y (a0u (a8 (tCB P4 (a8 (b8 0) c6)) c6)) (u4 4) (z7 (K7 (tOr (D7 (tOp qEq (tOp qIx (b8 0) (b8 4)) (F1 c6))) (tB (tCB b2E (a8 (S3 (X4 K (tOp qIx (b8 0) (b8 4))) T5 (a7X (b8 0) (b8 2))) c6)))) (a3r (b8 1) (b8 4) (tC (.bl true))) E3) (K7 (tB (a7X (b8 4) (b8 2))) (a2y (X4 K (tOp qIx (b8 0) (b8 4))) (u4 5) (a3r (b8 2) (b8 5) (tC (.bl true)))) E3)))) (z7 (fun D σ H=>(S3 (a0u (a8 (tCB P4 (a8 (b8 0) c6)) c6)) (tOr (tB (a2b (b8 0) (b8 2))) (tB (a2b (b8 0) (b8 3)))) (b8 0)) σ H fun v H1=>D.nx (σ.set 6 (some v)) H1) (z7 (K7 (D7 (tOp qEq (b8 6) (F1 c6))) (M5 (tC .non)) E3) (M5 (J7 (a8 (tC (.str "way")) (a8 (tOp qIx (b8 6) (tC (.int 0))) c6))))))))
def a7m(K:Fg):Sp:=spD 1 7 (b7m K)
def c0j(K:Fg)(c:Cn):TS:=z7 (E5 (t8 (b2p K) [] E0 (a8 (b8 0) c6)) (u4 1)) (z7 (K7 (a9R (D7 (tOp qEq (t8 (A1 K) [] E0 (a8 (b8 1) (a8 (tC (.int 16)) c6))) (tC (.int 0)))) (a5g (tB (t8 (a9l K c) [] E0 (a8 (b8 1) c6))))) (M5 (tC (.bl false))) E3) (z7 (E5 (t8 (a9m K) [] E0 (a8 (b8 1) c6)) (a9f K 2 (a0I (u4 2) (a0I (u4 3) (a9h))))) (z7 (K7 (D7 (tOp b5Y (t8 (a1a K c) [] E0 (a8 (b8 2) (a8 (b8 3) c6))) (tC .non))) (M5 (tC (.bl false))) E3) (z7 (E5 (t8 (A1 K) [] E0 (a8 (b8 1) (a8 (tC (.int 6)) c6))) (u4 4)) (z7 (K7 (D7 (tOp qLt (b8 4) (tC (.int 2)))) (z7 (E5 (t8 (a1B K) [] E0 (a8 (b8 1) (a8 (b8 2) c6))) (a9f K 2 (a0I (u4 5) (a0I (u4 6) (a9h))))) (E5 (tOp qIx (F1 (a8 (b8 3) (a8 (tOp qIx (t8 (Z4 K) [] E0 (a8 (b8 1) (a8 (b8 2) (a8 (b8 3) c6)))) (tC (.int 0))) c6))) (b8 4)) (u4 7))) (K7 (D7 (tOp qLt (b8 4) (tC (.int 4)))) (z7 (E5 (b8 2) (u4 5)) (E5 (t8 (Z4 K) [] E0 (a8 (b8 1) (a8 (b8 2) (a8 (b8 3) c6)))) (a9f K 2 (a0I (u4 7) (a0I (u4 6) (a9h)))))) (z7 (E5 (t8 (b2o K) [] E0 (a8 (b8 1) c6)) (a9f K 2 (a0I (u4 5) (a0I (u4 7) (a9h))))) (z7 (E5 (t8 (a7m K) [] E0 (a8 (b8 7) c6)) (u4 6)) (K7 (D7 (tOp qEq (t8 (A1 K) [] E0 (a8 (b8 1) (a8 (tC (.int 4)) c6))) (tC (.int 0)))) (z7 (E5 (t8 (A1 K) [] E0 (a8 (b8 1) (a8 (tCB P4 (a8 (b8 5) c6)) c6))) (u4 8)) (z7 (E5 (t8 (a2O K) [] E0 (a8 (b8 1) c6)) (a9g (b8 5) (b8 8) a6C)) (E5 (J7 (a8 (tC (.str "thing")) (a8 (b8 8) c6))) (u4 6)))) E3))))) (z7 (a2y (a0u (a8 (tC (.int 2)) c6)) (u4 9) (K7 (D7 (tOp qNe (t8 (a1a K c) [] E0 (a8 (b8 5) (a8 (b8 7) c6))) (b8 6))) (M5 (tC (.bl false))) E3)) (M5 (tOp qIs (t8 (a1a K c) [] E0 (a8 (b8 2) (a8 (b8 3) c6))) (tC .non)))))))))
def a9U(K:Fg):Sp:=fun vs H Q _=>vs.length=1/\∀c,a4A K c->c0j K c { nx:=fun _ H'=>Q .non H',rt:=Q } (vs.map some++g7 (10 - vs.length) none) H
end RD
local macro_rules | `(tactic| walk_at "st") => `(tactic| (with_reducible first
 | refine RD.a7s ?_ | refine RD.a9o ?_ | refine RD.c5P ?_ | refine RD.b1C ?_ | refine RD.b2y ?_ | refine RD.c9k ?_ | refine RD.c5M ?_ | refine RD.c5H ?_ | refine RD.c9i ?_ | refine RD.c7Y ?_ | refine RD.c8e ?_ | refine RD.c5K ?_ | refine RD.c0G ?_ | refine RD.c7X ?_ | refine RD.c5L ?_ | refine RD.c8a ?_ | refine RD.b5S ?_ | refine RD.b7u ?_ | refine RD.c9h ?_ | refine RD.c7Z ?_ | refine RD.s_c ?_ | refine RD.a1c ?_ | refine RD.a8M ?_ | refine RD.b5U ?_ | refine RD.c8b ?_ | refine RD.b7r ?_ | refine RD.c0D ?_ | refine RD.c9j ?_ | refine RD.c5J ?_ | refine RD.c0B ?_ | refine RD.s_rev ?_ | refine RD.b5P ?_ | refine RD.c5Q ?_ | refine RD.c8c ?_
 | refine RD.a7o (by with_unfolding_all rfl) ?_ | refine Exists.intro _ (And.intro (Eq.refl (L2.V.bl _)) ?_) | refine Exists.intro _ (And.intro (Eq.refl (L2.V.int _)) ?_)
 | refine RD.c8m ?_ | refine RD.c5Z ?_ | refine RD.c9p ?_ | refine RD.c8n ?_ | refine RD.c9q rfl ?_ | refine RD.c9o rfl ?_))
local macro_rules | `(tactic| walk_at "ev") => `(tactic| repeat walk_at "st")
local macro_rules | `(tactic| walk_at "go") => `(tactic| repeat (first | with_reducible refine RD.Y6 ?_ | walk_at "st"))
local macro_rules | `(tactic| ext) => `(tactic| walk_at "ev")
local macro_rules | `(tactic| exists $t:term) => `(tactic| (refine $t; walk_at "ev"))
local macro_rules | `(tactic| specialize $t:term) => `(tactic| (with_reducible refine $t; walk_at "ev"))
local macro_rules | `(tactic| exact_mod_cast $t:term) => `(tactic| with_reducible refine $t)
local macro_rules | `(tactic| nofun) => `(tactic| (with_reducible refine RD.Y6 ?_; walk_at "ev"))
namespace RD
open PySem PySem.Spec L2
variable{C a a' b c d dx na p ra:Addr}{H H' H0 H1:Hp}{o:HO}{rs vs xs ys:List V}{D:a8B}{σ:St}{ta te:TE}{tt:TT}{tr:TA}{Q:VK}{r v w y:V}{i j m n t:Nat}{ask z:Bool}{ks l:List Nat}{s:String}{QD:Hp->Prop}{R:It->Hp->Prop}{M N:Nt}{ns:List Int}{as:List Addr}
section
variable {D:Addr}
theorem c5O(h:ta σ H fun v H2=>∃x,v=.str x/\R (Its x) H2):c4r ta σ H R:=h
theorem c2c{x:Str}(Pv:Nat->List V->Hp->Prop)(h0:Pv 0 [] (upd H1 D (.lst [])))(hP:∀i ys H,Pv i ys H->H D=some (.lst ys))
  (step:∀i c ys H2,x.cps[i]? = some c->Pv i ys H2->∀(R:VK) (R':Hp->Prop),(∀y H5,H5 D=some (.lst ys)->ys.length<t6->Pv (i+1) (ys++[y]) (upd H5 D (.lst (ys++[y])))->R y H5)->(∀H4,Pv (i+1) ys H4->R' H4) ->
   tt (some (.str ⟨#[c]⟩)::σ) H2 fun ok H4=>if ok=true then te (some (.str ⟨#[c]⟩)::σ) H4 R else R' H4)
  (done:∀ys H2,Pv x.length ys H2->QD H2) :
  ∃W:Nat->Nat->List V->Hp->Prop,(∃m,W 0 m [] (upd H1 D (.lst [])))/\∀i m ys H2,W i m ys H2->H2 D=some (.lst ys) /\
   (((Its x).stop i H2 /\ QD H2) \/ ((Its x).go i H2 /\ ∀ v H3,(Its x).yld i H2 v H3 -> tt (some v :: σ) H3 fun ok H4 => if ok = true then
     te (some v::σ) H4 (fun y H5=>H5 D=some (.lst ys)/\ys.length<t6/\∃m',m'<m/\W (i+1) m' (ys++[y]) (upd H5 D (.lst (ys++[y]))))
     else ∃m',m'<m/\W (i+1) m' ys H4)):=by
 refine⟨fun i m ys H=>m=x.length - i/\i<=x.length/\Pv i ys H,⟨x.length,rfl,L5 _,h0⟩,?_⟩
 rintro i m ys H2 ⟨rfl,hi,p⟩
 refine⟨hP i ys H2 p,?_⟩
 by_cases hlt:i<x.length
 ·refine .inr ⟨hlt,fun v H3 y=>?_⟩
  obtain⟨e,c,hc,ev⟩:=y
  subst e ev
  exact step i c ys _ hc p _ _ (fun y H5 h1 h2 h3=>⟨h1,h2,x.length - (i+1),by omega,rfl,hlt,h3⟩) fun H4 h=>⟨x.length - (i+1),by omega,rfl,hlt,h⟩
 ·have e:i=x.length:=by omega
  subst e
  exact .inl ⟨j9 _,done ys H2 p⟩
end
def sgn(S:Str)(c:Nat):Bool := !(Builtin.Str.occurrences S ⟨#[c]⟩ 0 S.length 1).isEmpty
theorem c5e{S:Str}{c:Nat}(h:Q (.bl (sgn S c)) H):qIn false (.str ⟨#[c]⟩) (.str S) H Q:=h
abbrev LET:Str := "abcdefghijklmnopqrstuvwxyz"
abbrev SGN:Str := "abcdefghijklmnopqrstuvwxyz0123456789"
theorem c0s:LET++("0123456789" : Str)=SGN:=by decide +kernel
def a3S(z:Str):Bool:=decide (1<=z.length)&&decide (z.length<=8)&&(match z.cps[0]? with | some c=>sgn LET c | none=>false)&&z.cps.toList.all (sgn SGN)
theorem a8R{K:Fg}{z:Str}{E:XK}(hz:z.length<=400)(k:∀H',t9 H H'->Q (.bl (a3S z)) H'):U7 K [.str z] H Q E:=by
 refine⟨rfl,?_⟩
 unfold a5F
 have hz':=small (show z.length<=100000 by omega)
 nofun
 exists Y8 (s := "str") rfl (by decide) ?_
 exists A3 (by decide) ?_
 exists c5X hz' ?_
 by_cases h1:1<=z.length
 case neg=>
  exists A3 (d0J (by omega)) ?_
  exists D2 rfl ?_
  have e:a3S z=false:=by unfold a3S;rw[d0J h1];simp
  rw[<-e]
  exact k H (t9.refl _)
 exists D2 (d0K (by omega)) ?_
 by_cases h8:z.length<=8
 case neg=>
  rw[d0J (show ¬((z.length:Int)<=8) by omega)]
  exists D2 rfl ?_
  have e:a3S z=false:=by unfold a3S;rw[d0J h8];simp
  rw[<-e]
  exact k H (t9.refl _)
 rw[d0K (show(z.length:Int)<=8 by omega)]
 exists A3 rfl ?_
 have hl:z.cps.toList.length=z.length:=a1i
 obtain⟨c0,hc0,hc1⟩:=a1H (xs:=z.cps.toList) (i:=0) (by decide) (by omega)
 have hc2:z.cps[0]? = some c0:=by rw[<-a2w];exact hc1
 exists c0M hz' hc0 ?_
 have en:a3S z=(sgn LET c0&&z.cps.toList.all (sgn SGN)):=by
  unfold a3S
  rw[d0K h1,d0K h8,hc2]
  simp
 refine c5e (S:=LET) ?_
 refine⟨_,rfl,?_⟩
 cases hs:sgn LET c0 with
 | false=>
  refine c7p ?_
  have e:a3S z=false:=by rw[en,hs];rfl
  rw[<-e]
  exact k H (t9.refl _)
 | true=>
  exists b4L ?_
  specialize V7 (c5O ?_)
  refine⟨z,rfl,fun D hD=>?_⟩
  refine c2c (fun i ys H2=>ys=(z.cps.toList.take i).map (fun c=>V.bl (sgn SGN c))/\H2=upd H D (.lst ys)) ⟨by simp,rfl⟩ ?_ ?_ ?_
  ·rintro i ys _ ⟨_,rfl⟩
   exact g9
  ·rintro i c ys _ hc ⟨rfl,rfl⟩ R R' hR hR'
   have hc':z.cps.toList[i]? = some c:=by rw[a2w];exact hc
   ext
   exists b4L ?_
   refine b5X (small (by decide +kernel)) ?_
   have e:(("abcdefghijklmnopqrstuvwxyz" : Str)++("0123456789" : Str))=SGN:=c0s
   rw[e]
   refine c5e (S:=SGN) ?_
   refine hR (.bl (sgn SGN c)) _ g9 (M9 ?_) ⟨?_,?_⟩
   ·rw[b5,J0];omega
   ·rw[K0,hc'];simp
   ·rw[a9i]
  ·rintro ys _ ⟨rfl,rfl⟩
   ext
   have eb:W6 ((z.cps.toList.take z.length).map (fun c=>V.bl (sgn SGN c)))=some ((z.cps.toList.take z.length).map (sgn SGN)):=by
    generalize z.cps.toList.take z.length=l
    induction l with
    | nil=>rfl
    | cons a r ih=>simp[W6,ih]
   have ea:((z.cps.toList.take z.length).map (sgn SGN)).all id=a3S z:=by
    rw[en,hs,Y4,M0 (by omega),c9d]
    rfl
   refine(show b2F [.ref D] _ _ from ?_)
   unfold b2F
   simp only[g9]
   refine⟨_,eb,?_⟩
   rw[ea]
   exact k _ (C5 hD)
def NmS(s:Str):Prop:=a3S s=true/\s.length<=8
def OpN(v:V):Prop:=(∃s,v=.str s/\NmS s)\/∃n:Int,v=.int n/\0<=n/\n<1000000000000
abbrev c2o:List Str:=["plus","minus","times","less","same"]
def a8V(H:Hp)(p:Addr):Prop:=∃k v1 v2,H p=some (.tup [.str k,v1,v2])/\OpN v1/\OpN v2/\k∈c2o
theorem a8V.ts(h:a8V H p)(t:Z6 H H'):a8V H' p:=by
 obtain⟨k,v1,v2,h,a,b,c⟩:=h
 exact⟨k,v1,v2,t _ _ h,a,b,c⟩
inductive b1i(H:Hp):List V->Prop
 | set (n:Str) (p:Addr):NmS n->a8V H p->b1i H [.str "set",.str n,.ref p]
 | copy (n:Str) (v:V):NmS n->OpN v->b1i H [.str "copy",.str n,v]
 | take (n:Str):NmS n->b1i H [.str "take",.str n]
 | tell (v:V):OpN v->b1i H [.str "tell",v]
 | ask (v:V):OpN v->b1i H [.str "ask",v]
 | skip:b1i H [.str "skip"]
theorem b1i.ts(h:b1i H xs)(t:Z6 H H'):b1i H' xs:=by
 cases h with
 | set n p a d=>exact .set n p a (d.ts t)
 | copy n v a o=>exact .copy n v a o
 | take n a=>exact .take n a
 | tell v o=>exact .tell v o
 | ask v o=>exact .ask v o
 | skip=>exact .skip
def a5U(H:Hp)(v:V)(ask:Bool):Prop:=∃p xs,v=.ref p/\H p=some (.tup xs)/\b1i H xs/\(∃k r,xs=.str k::r/\decide ((k:Str) = "ask")=ask)
theorem a5U.ts{a:Bool}(h:a5U H v a)(t:Z6 H H'):a5U H' v a:=by
 obtain⟨p,xs,rfl,h,r,q⟩:=h
 exact⟨p,xs,rfl,t _ _ h,r.ts t,q⟩
theorem c1J{n:Int}(k:Q (.bl true) H) :
  M5 (a1n (tCB a4P (a8 (b8 0) (a8 (tC (.ty "int")) c6))) (b1A (tCB a4P (a8 (b8 0) (a8 (tC (.ty "bool")) c6))))) { nx:=fun _ H'=>Q .non H',rt:=Q } [some (.int n)] H:=by
 ext
 exists Y8 (s := "int") rfl (by decide) ?_
 exists D2 (by decide) ?_
 exists Y8 (s := "int") rfl (by decide) ?_
 exact k
theorem a7D{K:Fg}{n:Int}{E:XK}(k:Q (.bl true) H):a0o K [.int n] H Q E:=⟨rfl,c1J k⟩
theorem b2V{K:Fg}{n:Int}{E:XK}(h0:0<=n)(h1:n<1000000000000)(k:Q (.bl true) H):a2m K [.int n] H Q E:=by
 refine⟨rfl,?_⟩
 unfold a6r
 ext
 refine a7D ?_
 exists ⟨_,rfl,b4L ?_⟩
 exists D2 (d0K h0) ?_
 show Q (.bl (decide (n<1000000000000))) H
 rw[d0K h1]
 exact k
theorem b2W{K:Fg}{n m:Int}{E:XK}(h0:0<=n)(h1:n<m)(k:Q (.bl true) H):a2n K [.int n,.int m] H Q E:=by
 refine⟨rfl,?_⟩
 unfold a6s
 ext
 refine a7D ?_
 exists ⟨_,rfl,b4L ?_⟩
 exists D2 (d0K h0) ?_
 show Q (.bl (decide (n<m))) H
 rw[d0K h1]
 exact k
theorem a4n{K:Fg}{z:Str}{E:XK}(h:NmS z)(k:∀H',t9 H H'->Q (.bl true) H'):U7 K [.str z] H Q E:=by
 refine a8R (by have:=h.2;omega) fun H' s=>?_
 rw[h.1]
 exact k H' s
theorem b4M{K:Fg}{n:Int}{E:XK}(k:Q (.bl false) H):U7 K [.int n] H Q E:=by
 refine⟨rfl,?_⟩
 unfold a5F
 nofun
 exists Y8 (s := "int") rfl (by decide) ?_
 refine D2 (by decide) ?_
 exists D2 rfl ?_
 exact k
theorem a0R{K:Fg}{E:XK}(h:OpN v)(k:∀H',t9 H H'->Q (.bl true) H'):T6 K [v] H Q E:=by
 refine⟨rfl,?_⟩
 unfold a4b
 ext
 rcases h with ⟨s,rfl,hs⟩ | ⟨n,rfl,h0,h1⟩
 ·refine a4n hs fun G s=>?_
  exact⟨_,rfl,b4L (k G s)⟩
 ·refine b4M ?_
  exists ⟨_,rfl,c7p ?_⟩
  exact b2V h0 h1 (k H (t9.refl _))
theorem c1G{k:Str}(h:k∈c2o):inV (.str k) [.str "plus",.str "minus",.str "times",.str "less",.str "same"]=true:=by
 simp only[c2o,o0,E9,or_false]at h
 rcases h with rfl | rfl | rfl | rfl | rfl <;> decide +kernel
theorem b6F{K:Fg}{c:Cn}{E:XK}(ck:a4A K c)(h:a8V H p)(k:∀H',t9 H H'->Q (.bl true) H'):Z0 K c [.ref p] H Q E:=by
 obtain⟨kd,v1,v2,hp,o1,o2,hk⟩:=h
 refine⟨rfl,?_⟩
 unfold a3O
 nofun
 exists Y8 (s := "tuple") (by simp only[D9,hp]) (by decide) ?_
 exists A3 (by decide) ?_
 exists a0r hp ?_
 exists A3 (by simp) ?_
 exists W3 hp (a3d _ _) ?_
 refine⟨_,_,rfl,ck.a7R H,rfl,rfl,?_⟩
 exists ⟨_,rfl,D2 (c1G hk) ?_⟩
 exists W3 hp (a6N _ _ _) ?_
 refine a0R o1 fun G1 s1=>?_
 exists ⟨_,rfl,b4L ?_⟩
 exists W3 (s1 _ _ hp) (c4B _ _ _ _) ?_
 exact a0R o2 fun G2 s2=>k G2 (s1.trans s2)
theorem c7t(a:V)(r:List V):a4t (a::r) (some 1) none=r:=by
 unfold a4t
 have e:HT.sIx (a::r).length 0 (some 1)=1:=by
  have:=HT.a7u (a::r).length 0 1
  rw[show((1:Nat):Int)=1 from rfl]at this
  rw[this,z9]
  omega
 rw[e]
 show List.take ((a::r).length - 1) r=r
 rw[M0 (by simp)]
theorem b4y(a:V)(r:List V):¬(HT.sIx (a::r).length 0 (some 1)=0/\HT.sIx (a::r).length (a::r).length none=(a::r).length):=by
 intro h
 have e:HT.sIx (a::r).length 0 (some 1)=1:=by
  have:=HT.a7u (a::r).length 0 1
  rw[show((1:Nat):Int)=1 from rfl]at this
  rw[this,z9]
  omega
 omega
theorem a8t{K:Fg}{c:Cn}{a:Bool}{E:XK}(ck:a4A K c)(h:a5U H v a)(k:∀H',t9 H H'->Q (.bl true) H'):Z9 K c [v] H Q E:=by
 obtain⟨p,xs,rfl,hp,hr,kd,r,rfl,_⟩:=h
 refine⟨rfl,?_⟩
 unfold a5d
 nofun
 exists Y8 (s := "tuple") (by simp only[D9,hp]) (by decide) ?_
 exists A3 (by decide) ?_
 exists a0r hp ?_
 exists A3 (d0J (by intro z;have:=V.int.inj z;rw[z9]at this;omega)) ?_
 nofun
 exists W3 hp (a3d _ _) ?_
 nofun
 refine c5d hp (b4y _ _) fun q G hq e s=>?_
 rw[c7t]at e
 ext
 have hr:=hr.ts (t9.ts s)
 cases hr with
 | set n d hn hd=>
  nofun
  exists D2 (by decide) ?_
  exists a0r e ?_
  exists D2 (by simp) ?_
  exists W3 e (a3d _ _) ?_
  refine a4n hn fun G1 s1=>?_
  exists ⟨_,rfl,b4L ?_⟩
  exists W3 (s1 _ _ e) (a6N _ _ _) ?_
  exact b6F ck (hd.ts (t9.ts s1)) fun G2 s2=>k G2 ((s.trans s1).trans s2)
 | copy n v hn ho=>
  nofun
  exists A3 (by decide) ?_
  nofun
  exists D2 (by decide) ?_
  exists a0r e ?_
  exists D2 (by simp) ?_
  exists W3 e (a3d _ _) ?_
  refine a4n hn fun G1 s1=>?_
  exists ⟨_,rfl,b4L ?_⟩
  exists W3 (s1 _ _ e) (a6N _ _ _) ?_
  exact a0R ho fun G2 s2=>k G2 ((s.trans s1).trans s2)
 | take n hn=>
  nofun
  exists A3 (by decide) ?_
  nofun
  exists A3 (by decide) ?_
  nofun
  exists D2 (by decide) ?_
  exists a0r e ?_
  exists D2 (by simp) ?_
  exists W3 e (a3d _ _) ?_
  exact a4n hn fun G1 s1=>k G1 (s.trans s1)
 | tell v ho=>
  nofun
  exists A3 (by decide) ?_
  nofun
  exists A3 (by decide) ?_
  nofun
  exists A3 (by decide) ?_
  nofun
  refine A2 (by simp) fun q2 G2 hq2 e2 s2=>?_
  exists b1H e2 rfl rfl ?_
  exists D2 (by decide +kernel) ?_
  exists a0r (s2 _ _ e) ?_
  exists D2 (by simp) ?_
  exists W3 (s2 _ _ e) (a3d _ _) ?_
  exact a0R ho fun G1 s1=>k G1 ((s.trans s2).trans s1)
 | ask v ho=>
  nofun
  exists A3 (by decide) ?_
  nofun
  exists A3 (by decide) ?_
  nofun
  exists A3 (by decide) ?_
  nofun
  refine A2 (by simp) fun q2 G2 hq2 e2 s2=>?_
  exists b1H e2 rfl rfl ?_
  exists D2 (by decide +kernel) ?_
  exists a0r (s2 _ _ e) ?_
  exists D2 (by simp) ?_
  exists W3 (s2 _ _ e) (a3d _ _) ?_
  exact a0R ho fun G1 s1=>k G1 ((s.trans s2).trans s1)
 | skip=>
  nofun
  exists A3 (by decide) ?_
  nofun
  exists A3 (by decide) ?_
  nofun
  exists A3 (by decide) ?_
  nofun
  refine A2 (by simp) fun q2 G2 hq2 e2 s2=>?_
  exists b1H e2 rfl rfl ?_
  exists A3 (by decide +kernel) ?_
  exists D2 (by decide) ?_
  exists a0r (s2 _ _ e) ?_
  have e0:decide (V.int ((([]:List V).length:Nat):Int)=V.int 0)=true:=by decide
  rw[e0]
  exact k G2 (s.trans s2)
theorem ix0{α:Type}(a b c d:α):ixN [a,b,c,d].length 0=some 0:=by
 show ixN 4 0=some 0
 decide
theorem ix1{α:Type}(a b c d:α):ixN [a,b,c,d].length 1=some 1:=by
 show ixN 4 1=some 1
 decide
theorem ix2{α:Type}(a b c d:α):ixN [a,b,c,d].length 2=some 2:=by
 show ixN 4 2=some 2
 decide
structure b0H(H:Hp)(b:Addr)(i0 i1 i2:Int)(c:Addr)(ns:List Int):Prop where
 hb:H b=some (.lst [.int i0,.int i1,.int i2,.ref c])
 hc:H c=some (.lst (ns.map V.int))
 p0:0<=i0
 p1:0<=i1
 p1':i1<2147483647
 p2:0<=i2
 pn:∀x∈ns,0<=x
theorem b0H.bag{i0 i1 i2:Int}(h:b0H H b i0 i1 i2 c ns):Bag H b c:=⟨i0,i1,i2,ns,h.hb,h.hc,h.p0,h.p1,h.p1',h.p2,h.pn⟩
theorem Bag.parts(h:Bag H b c):∃i0 i1 i2 ns,b0H H b i0 i1 i2 c ns:=by
 obtain⟨i0,i1,i2,ns,h1,h2,h3,h4,h5,h6,h7⟩:=h.ex
 exact⟨i0,i1,i2,ns,h1,h2,h3,h4,h5,h6,h7⟩
theorem b0H.ne{i0 i1 i2:Int}(h:b0H H b i0 i1 i2 c ns):c≠b:=T7 h.hc h.hb (by
  intro z
  have z:=HO.lst.inj z
  cases ns with
  | nil=>cases z
  | cons a r=>cases r with
   | nil=>cases z
   | cons a2 r=>cases r with
    | nil=>cases z
    | cons a3 r=>cases r with
     | nil=>cases z
     | cons a4 r=>simp at z)
theorem b0H.put{i0 i1 i2 j0 j1 j2:Int}(h:b0H H b i0 i1 i2 c ns)(q0:0<=j0)(q1:0<=j1)(q1':j1<2147483647)(q2:0<=j2) :
  b0H (upd H b (.lst [.int j0,.int j1,.int j2,.ref c])) b j0 j1 j2 c ns:=⟨g9,by rw[j7 h.ne];exact h.hc,q0,q1,q1',q2,h.pn⟩
theorem D3{K:Fg}{many:Int}{E:XK}(hB:Bag H b c)(h0:0<many)(h1:many<2 ^ 64)
  (k:∀n H',0<=n->n<many->Bag H' b c->z5 b H H'->Q (.int n) H'):A1 K [.ref b,.int many] H Q E:=by
 obtain⟨i0,i1,i2,ns,B⟩:=hB.parts
 refine⟨rfl,?_⟩
 unfold c0h
 refine Y7 (P:=fun σ H1=>∃x2 x3 j0 j1 j2,σ=[some (.ref b),some (.int many),x2,x3,none,none,none]/\b0H H1 b j0 j1 j2 c ns/\z5 b H H1) ?_ ?_
 ·-- the second part
  rintro _ H1 ⟨x2,x3,j0,j1,j2,rfl,B1,k1⟩
  refine Y7 (P:=fun σ H2=>H2=H1/\σ=[some (.ref b),some (.int many),x2,x3,none,none,none]) ?_ ?_
  ·rintro _ _ ⟨rfl,rfl⟩
   walk_at "go"
   refine J9 B1.hb (a6N _ _ _) ?_
   walk_at "go"
   refine a1S (.inr (by omega)) ?_
   walk_at "go"
   refine a1S (by omega) ?_
   walk_at "go"
   have g1:=X8 (j1 * 39373) (show(1000000007:Int)≠0 by decide)
   have g2:=W7 (j1 * 39373) (show(0:Int)<1000000007 by decide)
   refine a1S (.inr (by omega)) ?_
   walk_at "go"
   refine a1S (by omega) ?_
   walk_at "go"
   have g3:=X8 (j1 * 39373 % 1000000007 * 30011) (show(998244353:Int)≠0 by decide)
   have g4:=W7 (j1 * 39373 % 1000000007 * 30011) (show(0:Int)<998244353 by decide)
   refine V1 (fun _=>?_) (fun _=>?_)
   ·walk_at "go"
    refine a1S (.inr (by omega)) ?_
    walk_at "go"
    refine a1S h0 ?_
    exact k _ _ (X8 _ (by omega)) (W7 _ h0) B1.bag k1
   ·walk_at "go"
    refine a1S (by omega) ?_
    walk_at "go"
    refine a1S h0 ?_
    exact k _ _ (X8 _ (by omega)) (W7 _ h0) B1.bag k1
  ·intro nx hnx
   walk_at "go"
   refine J9 B1.hb (a3d _ _) ?_
   walk_at "go"
   refine V1 (fun _=>?_) (fun _=>?_)
   ·walk_at "go"
    refine J9 B1.hb (a3d _ _) ?_
    walk_at "go"
    refine a1S h0 ?_
    walk_at "go"
    refine J9 B1.hb (a3d _ _) ?_
    walk_at "go"
    refine a1S ⟨h0,h1⟩ ?_
    walk_at "go"
    refine a6i B1.hb (ix0 _ _ _ _) ?_
    walk_at "go"
    refine k _ _ (X8 _ (by omega)) (W7 _ h0) (B1.put (Int.ediv_nonneg B1.p0 (by omega)) B1.p1 B1.p1' B1.p2).bag (k1.trans (z5.upd _ _ _))
   ·walk_at "go"
    exact hnx _ _ ⟨rfl,rfl⟩
 ·intro nx hnx
  walk_at "go"
  refine J9 B.hb (a3d _ _) ?_
  walk_at "go"
  refine V1 (fun e=>?_) (fun _=>?_)
  ·have e:i0=0:=by simpa using e
   subst e
   nofun
   exact_mod_cast Y7 (P:=fun σ H1=>∃m x3 j0 j2,σ=[some (.ref b),some (.int many),some (.int m),x3,none,none,none]/\b0H H1 b j0 i1 j2 c ns/\z5 b H H1/\0<=m) ?_ ?_
   ·rintro _ H1 ⟨m,x3,j0,j2,rfl,B1,k1,hm⟩
    walk_at "go"
    refine J9 B1.hb (a6N _ _ _) ?_
    walk_at "go"
    refine a1S (.inr (by omega)) ?_
    walk_at "go"
    refine a1S (by omega) ?_
    walk_at "go"
    refine a6i B1.hb (ix1 _ _ _ _) ?_
    have g1:=X8 (i1 * 48271+m) (show(2147483647:Int)≠0 by decide)
    have g2:=W7 (i1 * 48271+m) (show(0:Int)<2147483647 by decide)
    exact hnx _ _ ⟨_,x3,j0,_,j2,rfl,B1.put B1.p0 g1 g2 B1.p2,k1.trans (z5.upd _ _ _)⟩
   ·intro nx2 hnx2
    walk_at "go"
    refine J9 B.hb (c4B _ _ _ _) ?_
    walk_at "go"
    refine J9 B.hb (c8P _ _ _ _ _) ?_
    walk_at "go"
    refine F2 B.hc ?_
    walk_at "go"
    refine V1 (fun e=>?_) (fun _=>?_)
    ·have e:i2<(ns.length:Int):=by simpa using e
     obtain⟨v,ev,ev2⟩:=a1H (xs:=ns.map V.int) B.p2 (by simpa using e)
     obtain⟨z,ez,rfl⟩:∃z,ns[i2.toNat]? = some z/\v=V.int z:=by
      rw[c8]at ev2
      cases q:ns[i2.toNat]? with
      | none=>rw[q]at ev2;cases ev2
      | some z=>rw[q]at ev2;exact⟨z,rfl,(Option.some.inj ev2).symm⟩
     have hz:0<=z:=B.pn z (mI ez)
     walk_at "go"
     refine J9 B.hb (c8P _ _ _ _ _) ?_
     walk_at "go"
     refine J9 B.hb (c4B _ _ _ _) ?_
     walk_at "go"
     refine J9 B.hc ev ?_
     walk_at "go"
     exists c8l B.hb (by decide) rfl ?_
     refine a6i B.hb (ix2 _ _ _ _) ?_
     have B2:=B.put (j0:=0) (j1:=i1) (j2:=i2+1) (Int.le_refl _) B.p1 B.p1' (by have:=B.p2;omega)
     exact_mod_cast Y7 (P:=fun σ H1=>∃j0,σ=[some (.ref b),some (.int many),some (.int 12345),some (.int z),none,none,none]/\b0H H1 b j0 i1 (i2+1) c ns/\z5 b H H1) ?_ ?_
     ·rintro _ H1 ⟨j0,rfl,B1,k1⟩
      walk_at "go"
      refine a1S (by omega) ?_
      walk_at "go"
      have g1:=X8 z (show(2147483647:Int)≠0 by decide)
      exact hnx2 _ _ ⟨_,_,j0,_,rfl,B1,k1,by omega⟩
     ·intro nx3 hnx3
      walk_at "go"
      refine V1 (fun _=>?_) (fun _=>?_)
      ·walk_at "go"
       refine a6i B2.hb (ix0 _ _ _ _) ?_
       refine hnx3 _ _ ⟨z,rfl,?_,(z5.upd _ _ _).trans (z5.upd _ _ _)⟩
       exact B2.put hz B.p1 B.p1' (by have:=B.p2;omega)
      ·walk_at "go"
       exact hnx3 _ _ ⟨0,rfl,B2,z5.upd _ _ _⟩
    ·walk_at "go"
     exact hnx2 _ _ ⟨_,_,0,i2,rfl,B,z5.refl _ _,by decide⟩
  ·walk_at "go"
   exact hnx _ _ ⟨_,_,i0,i1,i2,rfl,B,z5.refl _ _⟩
theorem c7w{K:Fg}{E:XK}(hS:SqL K H a (ns.map V.int))(hl:ns.length<=63)
  (k:∀b c H',Bag H' b c->t9 H H'->H b=none->Q (.ref b) H'):b2p K [.ref a] H Q E:=by
 refine⟨rfl,?_⟩
 unfold c5a
 walk_at "go"
 exact_mod_cast V7 (Z1 ?_)
 walk_at "go"
 refine⟨a,_,rfl,hS,fun p hp=>⟨p,rfl,⟨_,SqL.of g9⟩,fun D hD=>?_⟩⟩
 have hcut:a4t (ns.map V.int) none (some 63)=ns.map V.int:=by
  unfold a4t
  have e:HT.sIx (ns.map V.int).length 0 none=0:=rfl
  have e2:HT.sIx (ns.map V.int).length (ns.map V.int).length (some 63)=ns.length:=by
   have:=HT.a7u (ns.map V.int).length (ns.map V.int).length 63
   rw[b5]at this ⊢
   rw[show((63:Nat):Int)=63 from rfl]at this
   rw[this];omega
  rw[e,e2,c7K,Nat.sub_zero,M0 (by simp)]
 rw[hcut]at hD ⊢
 have s1:t9 H (upd H p (.lst (ns.map V.int))):=C5 hp
 refine U9 (xs:=ns.map V.int) (fun i ys H2=>ys=(ns.take i).map (fun x=>V.int (if x<0 then -x else x))/\H2=upd (upd H p (.lst (ns.map V.int))) D (.lst ys)) ⟨by simp,rfl⟩ ?_ ?_ ?_ ?_
 ·rintro i ys _ ⟨_,rfl⟩
  exact g9
 ·rintro i ys _ _ ⟨_,rfl⟩
  refine SqL.of ?_
  rw[j7 (d5 g9 hD),g9]
 ·rintro i x ys _ hx ⟨rfl,rfl⟩ R hR
  rw[c8]at hx
  cases e:ns[i]? with
  | none=>rw[e]at hx;cases hx
  | some z=>
   rw[e]at hx
   cases hx
   ext
   refine hR _ _ g9 (M9 ?_) ⟨?_,?_⟩
   ·rw[b5,J0];omega
   ·rw[K0,e];simp
   ·rw[a9i]
 ·rintro ys _ ⟨rfl,rfl⟩
  ext
  refine A2 (by simp) fun b H4 hb hb4 s4=>?_
  rw[b5,M0 (j9 _)]at hb s4
  refine k b D _ ⟨0,1234567891,0,ns.map (fun x=>if x<0 then -x else x),hb4,?_,by decide,by decide,by decide,by decide,?_⟩ ?_ ?_
  ·rw[s4 D _ g9,a0h];rfl
  ·intro x hx
   obtain⟨y,_,rfl⟩:=G5.mp hx
   split <;> omega
  ·exact(s1.trans (C5 hD)).trans s4
  ·exact(s1.trans (C5 hD)).free hb
structure a3G(H:Hp)(a:Addr):Prop where
 ex:∃ss:List Str,H a=some (.lst (ss.map V.str))/\ss≠[]/\ss.length<=8/\∀s∈ss,NmS s
theorem a3G.kept(h:a3G H a)(hB:Bag H b c)(k:z5 b H H'):a3G H' a/\a≠b:=by
 obtain⟨ss,h1,h2,h3,h4⟩:=h.ex
 obtain⟨i0,i1,i2,ns,hb,_⟩:=hB.ex
 have ne:a≠b:=T7 h1 hb (by
  intro z
  have z:=HO.lst.inj z
  cases ss with
  | nil=>exact h2 rfl
  | cons s r=>cases z)
 exact⟨⟨ss,k.1 a _ h1 ne,h2,h3,h4⟩,ne⟩
theorem a3G.same(h:a3G H a)(s:t9 H H'):a3G H' a:=by
 obtain⟨ss,h1,h2,h3⟩:=h.ex
 exact⟨ss,s _ _ h1,h2,h3⟩
theorem c2R:∀c∈LET.cps.toList,sgn LET c=true:=by decide +kernel
theorem c2Q:∀c∈SGN.cps.toList,sgn SGN c=true:=by decide +kernel
theorem c4g:∀c∈LET.cps.toList,sgn SGN c=true:=by decide +kernel
theorem b6A(cs:List Nat):Txt.join (Str.ofString "") (cs.map fun k=>(⟨#[k]⟩:Str))=⟨cs.toArray⟩:=by
 show Builtin.Str.glued ("") _=_
 rw[StrLaws.glued_eq_join]
 exact PyProof.Rows.join_ones cs
theorem c8F{ch:Nat}{cs:List Nat}(h1:ch∈LET.cps.toList)(h2:∀c∈cs,c∈SGN.cps.toList)(hl:cs.length<=7):NmS ((⟨#[ch]⟩:Str)++⟨cs.toArray⟩):=by
 have hlen:((⟨#[ch]⟩:Str)++⟨cs.toArray⟩).length=cs.length+1:=by
  rw[Str.length_append]
  show 1+cs.toArray.size=_
  rw[o5];omega
 have hc:((⟨#[ch]⟩:Str)++⟨cs.toArray⟩).cps=(ch::cs).toArray:=by
  rw[Str.cps_append]
  show #[ch]++cs.toArray=_
  simp
 refine⟨?_,by omega⟩
 unfold a3S
 rw[hlen,hc]
 have e0:(ch::cs).toArray[0]? = some ch:=by simp
 rw[e0]
 simp only[F5,decide_eq_true_eq,J1]
 refine⟨⟨⟨by omega,by omega⟩,c2R ch h1⟩,?_⟩
 intro c hcc
 have hcc:c∈ch::cs:=by simpa using hcc
 rcases o0.mp hcc with q | q
 ·subst q;exact c4g _ h1
 ·exact c2Q c (h2 c q)
theorem c2P{ss:List Str}{s:Str}(h:∀s∈ss,NmS s)(hs:NmS s):∀t∈ss++[s],NmS t:=by
 intro t ht
 rcases y8.mp ht with q | q
 ·exact h t q
 ·rw[g6.mp q];exact hs
structure b2e(H:Hp)(a:Addr):Prop where
 ex:∃ps:List Addr,H a=some (.lst (ps.map V.ref))/\ps≠[]/\ps.length<=8/\∀p∈ps,a8V H p
theorem a1F(hB:Bag H b c)(h:H a=some (.lst (as.map V.ref))):a≠b:=by
 obtain⟨i0,i1,i2,ns,hb,_⟩:=hB.ex
 refine T7 h hb ?_
 intro z
 have z:=HO.lst.inj z
 cases as with
 | nil=>cases z
 | cons s r=>cases z
theorem a0P(hB:Bag H b c)(h:H a=some (.lst xs))(hl:xs.length<=3):a≠b:=by
 obtain⟨i0,i1,i2,ns,hb,_⟩:=hB.ex
 refine T7 h hb ?_
 intro z
 have z:=HO.lst.inj z
 rw[z]at hl
 simp at hl
theorem b2e.kept(h:b2e H a)(hB:Bag H b c)(k:z5 b H H'):b2e H' a:=by
 obtain⟨ps,h1,h2,h3,h4⟩:=h.ex
 exact⟨ps,k.1 a _ h1 (a1F hB h1),h2,h3,fun p hp=>(h4 p hp).ts (z5.ts k hB)⟩
structure E7(H:Hp)(a:Addr)(N:Nt):Prop where
 ex:∃as:List Addr,H a=some (.lst (as.map V.ref))/\as.length=N.length/\∀(i:Nat) x l,as[i]? = some x->N[i]? = some l->H x=some (.lst (IL l))
theorem E7.same(h:E7 H a N)(k:t9 H H'):E7 H' a N:=by
 obtain⟨as,h1,h2,h3⟩:=h.ex
 exact⟨as,k a _ h1,h2,fun i x l e1 e2=>k _ _ (h3 i x l e1 e2)⟩
theorem E7.kept(h:E7 H a N)(hB:Bag H b c)(hN:∀l∈N,l.length<=2)(k:z5 b H H'):E7 H' a N:=by
 obtain⟨as,h1,h2,h3⟩:=h.ex
 refine⟨as,k.1 a _ h1 (a1F hB h1),h2,fun i x l e1 e2=>?_⟩
 have q:=h3 i x l e1 e2
 refine k.1 _ _ q (a0P hB q ?_)
 rw[K6]
 have:=hN l (mI e2)
 omega
theorem E7.at(h:E7 H a N){k:Nat}(e:N[k]? = some l):∃(xs:List V) (x:Addr),H a=some (.lst xs)/\atI xs (k:Int)=some (.ref x)/\H x=some (.lst (IL l))/\xs.length=N.length:=by
 obtain⟨as,h1,h2,h3⟩:=h.ex
 have hk:k<as.length:=by rw[h2];exact(gI e)
 have e1:as[k]? = some as[k]:=by simp
 refine⟨_,as[k],h1,?_,h3 k _ l e1 e,by rw[b5,h2]⟩
 exact a0g (by rw[c8,e1];rfl)
theorem E7.len(h:E7 H a N):∃xs,H a=some (.lst xs)/\xs.length=N.length:=by
 obtain⟨as,h1,h2,h3⟩:=h.ex
 exact⟨_,h1,by rw[b5,h2]⟩
theorem c5r(e:l[j]? = some t):atI (IL l) (j:Int)=some (.int (t:Int)):=a0g (by unfold IL;rw[c8,e];rfl)
theorem b7A{K:Fg}{E:XK}(hB:Bag H b c)(ha:H a=some (.lst xs))(na:a≠b)(h0:xs≠[])(hl:xs.length<=100)
  (k:∀(n:Int) v H',atI xs n=some v->v∈xs->H' a=some (.lst xs)->Bag H' b c->z5 b H H'->Q (.int n) H'):A1 K [.ref b,.int xs.length] H Q E:=by
 have hp:0<xs.length:=a7T.mpr h0
 refine D3 hB (by omega) (by omega) fun n H1 n0 n1 B1 k1=>?_
 obtain⟨v,hv,hv2⟩:=a1H (xs:=xs) n0 n1
 exact k n v H1 hv (mI hv2) (k1.1 _ _ ha na) B1 k1
theorem b5I{α:Type}(l:List α):l=[]\/∃r a,l=r++[a]:=by
 cases h:l.reverse with
 | nil=>left;simpa using h
 | cons a r=>
  right
  refine⟨r.reverse,a,?_⟩
  have:=congrArg List.reverse h
  simpa using this
structure c9C(H0 H:Hp)(b c D:Addr)(m:Nat)(as:List Addr)(N:Nt):Prop where
 bag:Bag H b c
 kept:z5 b H0 H
 hD:H D=some (.lst (as.map V.ref))
 nb:D≠b
 nc:D≠c
 len:as.length=N.length
 at_:∀(i:Nat) x l,as[i]? = some x->N[i]? = some l->H x=some (.lst (IL l))/\x≠D/\x≠b
 small:∀l∈N,l.length<=2/\∀t∈l,t<m
structure c9A(H:Hp)(b D q:Addr)(m:Nat)(l:List Nat):Prop where
 h:H q=some (.lst (IL l))
 nD:q≠D
 nb:q≠b
 len:l.length<=2
 lt:∀t∈l,t<m
theorem a0J{α:Type}{xs:List α}{x y:α}(h:(xs++[x])[i]? = some y):(i<xs.length/\xs[i]? = some y)\/(i=xs.length/\y=x):=by
 by_cases hi:i<xs.length
 ·left
  rw[Q4 hi]at h
  exact⟨hi,h⟩
 ·right
  rw[P6 (by omega)]at h
  have:i - xs.length=0:=by
   have:=(gI h)
   simp at this
   omega
  rw[this]at h
  simp at h
  exact⟨by omega,h.symm⟩
theorem b1V{a b:Int}:decide (V.int a=V.int b)=decide (a=b):=by
 by_cases h:a=b
 ·subst h;simp
 ·rw[d0J h,d0J (fun z=>h (V.int.inj z))]
theorem c4f:∀s∈(["a","k0","ab","set","abc","k1","abcdefgh","b","ask","x9","a1","abcdefg","plus","ba","k10","z"]:List Str),NmS s:=by
 have:∀s∈(["a","k0","ab","set","abc","k1","abcdefgh","b","ask","x9","a1","abcdefg","plus","ba","k10","z"]:List Str),a3S s=true/\s.length<=8:=by decide +kernel
 exact this
theorem c4c{K:Fg}{E:XK}(hB:Bag H b c)(k:∀s H',NmS s->Bag H' b c->z5 b H H'->Q (.str s) H'):a9k K [.ref b] H Q E:=by
 refine⟨rfl,?_⟩
 unfold c0i
 walk_at "go"
 refine b5X (small (by decide +kernel)) ?_
 walk_at "go"
 refine D3 hB (by decide) (by decide) fun n H1 n0 n1 B1 k1=>?_
 obtain⟨ch,hc,hc2⟩:=a1H (xs:=("abcdefghijklmnopqrstuvwxyz" : Str).cps.toList) n0 (by
  have:(("abcdefghijklmnopqrstuvwxyz" : Str).cps.toList).length=26:=by decide +kernel
  omega)
 refine c0M (small (by decide +kernel)) hc ?_
 walk_at "go"
 exact_mod_cast V7 (a0d ?_)
 walk_at "go"
 refine D3 B1 (by decide) (by decide) fun m H2 m0 m1 B2 k2=>?_
 walk_at "go"
 refine⟨m,rfl,by omega,by omega,fun D hD=>?_⟩
 obtain⟨nb,nc⟩:=B2.nb hD
 refine a5t (fun i ys H3=>∃cs:List Nat,ys=cs.map (fun k=>V.str (⟨#[k]⟩:Str))/\cs.length=i/\(∀c∈cs,c∈SGN.cps.toList)/\H3 D=some (.lst ys)/\Bag H3 b c/\z5 b H2 H3) ?_ ?_ ?_ ?_
 ·exact⟨[],rfl,rfl,by simp,g9,B2.new hD,z5.new hD⟩
 ·rintro i ys H3 ⟨_,_,_,_,h,_⟩
  exact h
 ·rintro i ys H3 hi ⟨cs,rfl,rfl,h1,hd,B3,k3⟩ R hR
  ext
  refine D3 B3 (by decide) (by decide) fun j H4 j0 j1 B4 k4=>?_
  obtain⟨cj,hcj,hcj2⟩:=a1H (xs:=(("abcdefghijklmnopqrstuvwxyz" : Str)++("0123456789" : Str)).cps.toList) j0 (by
   have:((("abcdefghijklmnopqrstuvwxyz" : Str)++("0123456789" : Str)).cps.toList).length=36:=by decide +kernel
   omega)
  refine c0M (small (by decide +kernel)) hcj ?_
  refine hR _ _ (k4.1 _ _ hd nb) (M9 (by rw[b5];omega)) ⟨cs++[cj],by simp,by simp,?_,g9,B4.put nb nc,(k3.trans k4).put hD⟩
  intro s hs
  rcases y8.mp hs with q | q
  ·exact h1 s q
  ·rw[g6.mp q,<-c0s]
   exact mI hcj2
 ·rintro ys H3 ⟨cs,rfl,hn,h1,hd,B3,k3⟩
  ext
  have he:cs.map (fun k=>V.str (⟨#[k]⟩:Str))=(cs.map fun k=>(⟨#[k]⟩:Str)).map V.str:=by rw[a0h];rfl
  rw[he]at hd
  have hsum:((cs.map fun k=>(⟨#[k]⟩:Str)).map (·.length)).sum=cs.length:=by
   clear hn hd he h1
   induction cs with
   | nil=>rfl
   | cons s r ih=>
    rw[L6,L6,List.sum_cons,ih,z9]
    show 1+_=_
    omega
  refine c5Y hd (b5G _) ?_ ?_
  ·rw[hsum,b5]
   show cs.length+cs.length * 0<=_
   omega
  ·have hj:Txt.join (Str.ofString "") (cs.map fun k=>(⟨#[k]⟩:Str))=⟨cs.toArray⟩:=b6A cs
   rw[hj]
   have hl7:cs.length<=7:=by omega
   have hN:=c8F (mI hc2) h1 hl7
   refine b5X (small ?_) ?_
   ·have:=hN.2
    rw[Str.length_append]at this
    omega
   ·exact k _ _ hN B3 ((k1.trans k2).trans k3)
theorem c2l(ss:List Str):(ss.map V.str).all O7=true:=by
 rw[J1]
 intro x hx
 obtain⟨s,_,rfl⟩:=G5.mp hx
 rfl
theorem b4D{K:Fg}{E:XK}(hB:Bag H b c)(k:∀a H',a3G H' a->Bag H' b c->z5 b H H'->H a=none->Q (.ref a) H'):a5i K [.ref b] H Q E:=by
 refine⟨rfl,?_⟩
 unfold b7k
 walk_at "go"
 refine A2 (by decide) fun p1 G1 h1 e1 s1=>?_
 walk_at "go"
 refine A2 (by decide) fun p2 G2 h2 e2 s2=>?_
 walk_at "go"
 refine a1Z (s2 _ _ e1) e2 (A2 (by decide) fun p3 H0 h3 e3 s3'=>?_)
 have s3:t9 H H0:=(s1.trans s2).trans s3'
 have B0:=hB.same s3
 obtain⟨M,hM⟩:∃M:List Str,M=(["a","k0","ab","set","abc","k1","abcdefgh","b","ask","x9","a1","abcdefg","plus","ba","k10","z"]:List Str):=⟨_,rfl⟩
 have hm:H0 p3=some (.lst (M.map V.str)):=by rw[e3,hM];rfl
 have nM:∀s∈M,NmS s:=by rw[hM];exact c4f
 have lM:M.length=16:=by rw[hM];rfl
 clear hM e1 e2 e3 h1 h2 h3 s1 s2 s3'
 walk_at "go"
 refine D3 B0 (by decide) (by decide) fun f H1 f0 f1 B1 k1=>?_
 walk_at "go"
 refine D3 B1 (by decide) (by decide) fun g H2 g0 g1 B2 k2=>?_
 refine a1S (.inl (by omega)) ?_
 walk_at "go"
 exists A2 (by decide) fun D H2' hD hd2 s2=>?_
 have pb:p3≠b:=by
  obtain⟨i0,i1,i2,ns,hb,_⟩:=B0.ex
  refine T7 hm hb ?_
  intro z
  have z:=HO.lst.inj z
  cases M with
  | nil=>cases lM
  | cons s r=>cases z
 have hm2:H2 p3=some (.lst (M.map V.str)):=k2.1 _ _ (k1.1 _ _ hm pb) pb
 obtain⟨nb,nc⟩:=B2.nb hD
 have hDp:D≠p3:=(d5 hm2 hD).symm
 exact_mod_cast Y6 ?_
 exact_mod_cast a1o (a0d ?_)
 walk_at "go"
 refine D3 (B2.same s2) (by decide) (by decide) fun m H3 m0 m1 B3 k3=>?_
 walk_at "go"
 have hd3:H3 D=some (.lst (([]:List Str).map V.str)):=k3.1 _ _ hd2 nb
 have k03:z5 b H2 H3:=(z5.of_same s2).trans k3
 refine⟨2+m,rfl,by omega,by omega,V9 (fun i σ H4=>∃x5 x6 ss,(∀s∈(ss:List Str),NmS s)/\σ=[some (.ref b),some (.ref p3),some (.int f),some (.int (1+2 * g)),some (.ref D),x5,x6]/\H4 D=some (.lst ((ss:List Str).map V.str))/\ss.length<=i/\(0<i->ss≠[])/\Bag H4 b c/\z5 b H2 H4) ?_ ?_ ?_⟩
 ·exact⟨_,_,[],by simp,rfl,hd3,j9 _,by simp,B3,k03⟩
 ·rintro i _ H4 hi ⟨x5,x6,ss,hss,rfl,hd,hl,hne,B4,k4⟩
  have hi:i<(2+m).toNat:=hi
  ext
  exact_mod_cast Y7 (P:=fun σ H5=>∃s,NmS s/\σ=[some (.ref b),some (.ref p3),some (.int f),some (.int (1+2 * g)),some (.ref D),some (.int (0+i)),some (.str s)]/\H5 D=some (.lst ((ss:List Str).map V.str))/\Bag H5 b c/\z5 b H2 H5) ?_ ?_
  ·rintro _ H5 ⟨s,hs,rfl,hd5,B5,k5⟩
   exact_mod_cast Y7 (P:=fun σ H6=>∃s,NmS s/\σ=[some (.ref b),some (.ref p3),some (.int f),some (.int (1+2 * g)),some (.ref D),some (.int (0+i)),some (.str s)]/\H6 D=some (.lst ((ss:List Str).map V.str))/\Bag H6 b c/\z5 b H2 H6) ?_ ?_
   ·rintro _ H6 ⟨s,hs,rfl,hd6,B6,k6⟩
    ext
    exists c5W hd6 rfl (c2l ss) ?_
    refine V1 (fun e=>?_) (fun e=>?_)
    ·ext
     specialize b4k ?_
     exists ⟨.inl ⟨rfl,_,SqL.of hd6⟩,?_⟩
     refine a7w hd6 (M9 (by rw[b5];omega)) ?_
     exact⟨_,_,ss++[s],c2P hss hs,rfl,by rw[g9];simp,by rw[u9,O3];omega,fun _=>by simp,B6.put nb nc,k6.put hD⟩
    ·ext
     refine⟨_,_,ss,hss,rfl,hd6,by omega,fun _ z=>?_,B6,k6⟩
     subst z
     exact e rfl
   ·intro nx hnx
    ext
    exists D3 B5 (by decide) (by decide) fun q H6 _ _ B6 k6=>?_
    refine V1 (fun _=>?_) (fun _=>?_)
    ·ext
     exists c4c B6 fun s' H7 hs' B7 k7=>?_
     exact hnx _ _ ⟨s',hs',rfl,k7.1 _ _ (k6.1 _ _ hd5 nb) nb,B7,(k5.trans k6).trans k7⟩
    ·ext
     exact hnx _ _ ⟨s,hs,rfl,k6.1 _ _ hd5 nb,B6,k5.trans k6⟩
  ·intro nx hnx
   ext
   exists a1S (.inl (by omega)) ?_
   refine a1S (by decide) ?_
   obtain⟨v,hv,hv2⟩:=a1H (xs:=M.map V.str) (i:=(f+(0+(i:Int)) * (1+2 * g)) % 16) (X8 _ (by decide)) (by
    rw[b5,lM]
    exact W7 _ (by decide))
   obtain⟨s,hsM,rfl⟩:=G5.mp (mI hv2)
   exists J9 (k4.1 _ _ hm2 pb) hv ?_
   exact hnx _ _ ⟨s,nM s hsM,rfl,hd,B4,k4⟩
 ·rintro _ H4 ⟨x5,x6,ss,hss,rfl,hd,hl,hne,B4,k4⟩
  walk_at "go"
  refine k D H4 ⟨ss,hd,hne (by omega),by omega,hss⟩ B4 (((z5.of_same s3).trans (k1.trans k2)).trans k4) ?_
  exact(z5.of_same (b:=b) s3).none (k1.none (k2.none hD))
theorem c5h:(10:Int) ^ (12:Int).toNat=1000000000000:=by decide
theorem c0c{K:Fg}{E:XK}(hB:Bag H b c)(k:∀n H',0<=n->n<1000000000000->Bag H' b c->z5 b H H'->Q (.int n) H'):a7j K [.ref b] H Q E:=by
 refine⟨rfl,?_⟩
 unfold b7j
 walk_at "go"
 refine a1S ⟨by decide,by decide,by decide⟩ ?_
 walk_at "go"
 refine D3 hB (by decide) (by decide) fun n1 H1 a0 a1 B1 k1=>?_
 walk_at "go"
 refine D3 B1 (by decide) (by decide) fun n2 H2 b0 b1 B2 k2=>?_
 walk_at "go"
 refine A2 (by simp) fun p G hp e s=>?_
 walk_at "go"
 refine D3 (B2.same s) (by decide) (by decide) fun n3 H3 c0 c1 B3 k3=>?_
 have hp3:=k3.1 p _ e (B2.nb hp).1
 rw[c5h]at hp3
 have kk:z5 b H H3:=(k1.trans k2).trans ((z5.of_same s).trans k3)
 obtain⟨v,hv,hv2⟩:=a1H (xs:=([.int 0,.int 1,.int (1000000000000 - 1 - n1),.int n2]:List V)) c0 (by simpa using c1)
 refine J9 hp3 hv ?_
 have:∃n,v=.int n/\0<=n/\n<1000000000000:=by
  have m:=mI hv2
  simp only[o0,E9,or_false]at m
  rcases m with rfl | rfl | rfl | rfl
  ·exact⟨0,rfl,by decide,by decide⟩
  ·exact⟨1,rfl,by decide,by decide⟩
  ·exact⟨_,rfl,by omega,by omega⟩
  ·exact⟨_,rfl,by omega,by omega⟩
 obtain⟨n,rfl,q0,q1⟩:=this
 exact k n H3 q0 q1 B3 kk
theorem a3a{K:Fg}{E:XK}(hB:Bag H b c)(hN:a3G H a)(k:∀v H',OpN v->Bag H' b c->z5 b H H'->Q v H'):a0n K [.ref b,.ref a] H Q E:=by
 refine⟨rfl,?_⟩
 unfold b1z
 nofun
 exists D3 hB (by decide) (by decide) fun n1 H1 a0 a1 B1 k1=>?_
 refine V1 (fun _=>?_) (fun _=>?_)
 ·ext
  exact c0c B1 fun n H2 q0 q1 B2 k2=>k _ _ (.inr ⟨n,rfl,q0,q1⟩) B2 (k1.trans k2)
 ·ext
  obtain⟨N1,ne⟩:=hN.kept hB k1
  obtain⟨ss,h1,h2,h3,h4⟩:=N1.ex
  exists F2 h1 ?_
  have hl:0<ss.length:=a7T.mpr h2
  refine D3 B1 (by rw[b5];omega) (by rw[b5];omega) fun n2 H2 b0 b1 B2 k2=>?_
  obtain⟨v,hv,hv2⟩:=a1H (xs:=ss.map V.str) b0 b1
  obtain⟨s,hs,rfl⟩:=G5.mp (mI hv2)
  exact J9 (k2.1 _ _ h1 ne) hv (k _ _ (.inl ⟨s,rfl,h4 s hs⟩) B2 (k1.trans k2))
theorem b7M{K:Fg}{E:XK}(hB:Bag H b c)(hN:a3G H a)(k:∀p H',a8V H' p->H p=none->Bag H' b c->z5 b H H'->Q (.ref p) H'):a7l K [.ref b,.ref a] H Q E:=by
 refine⟨rfl,?_⟩
 unfold c0m
 nofun
 exists A2 (by decide) fun p G hp e s=>?_
 refine D3 (hB.same s) (by decide) (by decide) fun n1 H1 a0 a1 B1 k1=>?_
 have hp1:=k1.1 p _ e (hB.nb hp).1
 have k01:z5 b H H1:=(z5.of_same s).trans k1
 obtain⟨v,hv,hv2⟩:=a1H (xs:=([.str "plus",.str "minus",.str "times",.str "less",.str "same"]:List V)) a0 (by simpa using a1)
 refine J9 hp1 hv ?_
 have:∃kd:Str,v=.str kd/\kd∈(["plus","minus","times","less","same"]:List Str):=by
  have m:=mI hv2
  simp only[o0,E9,or_false]at m
  rcases m with rfl | rfl | rfl | rfl | rfl <;> exact⟨_,rfl,by simp⟩
 obtain⟨kd,rfl,hkd⟩:=this
 ext
 nofun
 obtain⟨N1,_⟩:=hN.kept hB k01
 exists a3a B1 N1 fun v1 H2 o1 B2 k2=>?_
 nofun
 obtain⟨N2,_⟩:=N1.kept B1 k2
 exists a3a B2 N2 fun v2 H3 o2 B3 k3=>?_
 exact_mod_cast Y7 (P:=fun σ H4=>∃v2,σ=[some (.ref b),some (.ref a),some (.str kd),some v1,some v2]/\OpN v2/\Bag H4 b c/\z5 b H3 H4) ?_ ?_
 ·rintro _ H4 ⟨v2,rfl,o2,B4,k4⟩
  ext
  refine A2 (by simp) fun q G hq e s=>?_
  exact k q _ ⟨kd,v1,v2,e,o1,o2,hkd⟩ (k01.none (k2.none (k3.none (k4.none hq)))) (B4.same s) ((((k01.trans k2).trans k3).trans k4).trans (z5.of_same s))
 ·intro nx hnx
  ext
  exists D3 B3 (by decide) (by decide) fun n4 H4 d0 d1 B4 k4=>?_
  refine V1 (fun _=>?_) (fun _=>?_)
  ·ext
   exact hnx _ _ ⟨v1,rfl,o1,B4,k4⟩
  ·ext
   exact hnx _ _ ⟨v2,rfl,o2,B4,k4⟩
theorem c0I{K:Fg}{E:XK}(hB:Bag H b c)(hN:a3G H a)(hP:b2e H p)(k:∀v H',a5U H' v (m == 2)->Bag H' b c->z5 b H H'->Q v H'):a9T K [.ref b,.ref a,.ref p,.int (m:Int)] H Q E:=by
 refine⟨rfl,?_⟩
 unfold c4X
 nofun
 by_cases h2:m=2
 ·subst h2
  exists D2 (by decide) ?_
  exists a3a hB hN fun v H1 o1 B1 k1=>?_
  refine A2 (by simp) fun q G hq e s=>?_
  exact k _ _ ⟨q,_,rfl,e,.ask v o1,_,_,rfl,by decide⟩ (B1.same s) (k1.trans (z5.of_same s))
 have hm:(m == 2)=false:=by simpa using h2
 rw[hm]at k
 exists A3 (d0J (by intro z;have:=V.int.inj z;omega)) ?_
 nofun
 exists D3 hB (by decide) (by decide) fun w H1 w0 w1 B1 k1=>?_
 nofun
 obtain⟨N1,na⟩:=hN.kept hB k1
 have P1:=hP.kept hB k1
 obtain⟨ss,s1,s2,s3,s4⟩:=N1.ex
 exists F2 s1 ?_
 refine b7A B1 s1 na (by simpa using s2) (by rw[b5];omega) fun n v H2 e1 e2 a2 B2 k2=>?_
 refine J9 a2 e1 ?_
 obtain⟨s,hs,rfl⟩:=G5.mp e2
 have ns:=s4 s hs
 ext
 obtain⟨N2,_⟩:=N1.kept B1 k2
 have P2:=P1.kept B1 k2
 have k02:=k1.trans k2
 nofun
 refine V1 (fun _=>?_) (fun _=>?_)
 ·obtain⟨ps,p1,p2,p3,p4⟩:=P2.ex
  ext
  exists F2 p1 ?_
  refine b7A B2 p1 (a1F B2 p1) (by simpa using p2) (by rw[b5];omega) fun n v H3 f1 f2 a3 B3 k3=>?_
  refine J9 a3 f1 ?_
  obtain⟨d,hd,rfl⟩:=G5.mp f2
  have hd3:=(p4 d hd).ts (z5.ts k3 B2)
  ext
  refine A2 (by simp) fun q G hq e s=>?_
  exact k _ _ ⟨q,_,rfl,e,.set _ d ns (hd3.ts (t9.ts s)),_,_,rfl,by decide⟩ (B3.same s) ((k02.trans k3).trans (z5.of_same s))
 ext
 nofun
 refine V1 (fun _=>?_) (fun _=>?_)
 ·ext
  exists a3a B2 N2 fun v H3 o1 B3 k3=>?_
  refine A2 (by simp) fun q G hq e s=>?_
  exact k _ _ ⟨q,_,rfl,e,.copy _ v ns o1,_,_,rfl,by decide⟩ (B3.same s) ((k02.trans k3).trans (z5.of_same s))
 ext
 nofun
 refine V1 (fun _=>?_) (fun _=>?_)
 ·ext
  refine A2 (by simp) fun q G hq e s=>?_
  exact k _ _ ⟨q,_,rfl,e,.take _ ns,_,_,rfl,by decide⟩ (B2.same s) (k02.trans (z5.of_same s))
 ext
 exists a3a B2 N2 fun v H3 o1 B3 k3=>?_
 exists A2 (by simp) fun q1 G1 hq1 e1 s1=>?_
 exists A2 (by simp) fun q2 G2 hq2 e2 s2=>?_
 exists A2 (by simp) fun q3 G3 hq3 e3 s3=>?_
 have sB:=(B3.same s1).same s2
 refine D3 (sB.same s3) (by decide) (by decide) fun j H4 j0 j1 B4 k4=>?_
 obtain⟨x,hx,hx2⟩:=a1H (xs:=[V.ref q1,V.ref q2]) j0 (by simpa using j1)
 refine J9 (k4.1 _ _ e3 (sB.nb hq3).1) hx ?_
 have kk:z5 b H H4:=(k02.trans k3).trans ((z5.of_same ((s1.trans s2).trans s3)).trans k4)
 have f1:H4 q1=_:=k4.1 _ _ (s3 _ _ (s2 _ _ e1)) (B3.nb hq1).1
 have f2:H4 q2=_:=k4.1 _ _ (s3 _ _ e2) ((B3.same s1).nb hq2).1
 have m:=mI hx2
 simp only[o0,E9,or_false]at m
 rcases m with rfl | rfl
 ·exact k _ _ ⟨q1,_,rfl,f1,.tell v o1,_,_,rfl,by decide⟩ B4 kk
 ·exact k _ _ ⟨q2,_,rfl,f2,.skip,_,_,rfl,by decide⟩ B4 kk
structure b1k(H0 H:Hp)(b c D:Addr)(m:Nat)(as:List Addr)(N:Nt):Prop where
 bag:Bag H b c
 kept:z5 b H0 H
 hD:H D=some (.lst (as.map V.ref))
 nb:D≠b
 nc:D≠c
 len:as.length=N.length
 at_:∀(i:Nat) x l,as[i]? = some x->N[i]? = some l->H x=some (.lst (IL l))/\x≠D/\x≠b
 small:∀l∈N,l.length<=2/\∀t∈l,t<m
 n1:H0 D=none
 n2:∀x∈as,H0 x=none
theorem b1k.next{D:Addr}(h:b1k H0 H b c D m as N)(B:Bag H' b c)(k:z5 b H H'):b1k H0 H' b c D m as N:=
 ⟨B,h.kept.trans k,k.1 _ _ h.hD h.nb,h.nb,h.nc,h.len,fun i x l e1 e2=>let⟨q1,q2,q3⟩:=h.at_ i x l e1 e2; ⟨k.1 _ _ q1 q3,q2,q3⟩,h.small,h.n1,h.n2⟩
structure a7O(H0 H:Hp)(b D q:Addr)(m:Nat)(l:List Nat):Prop where
 h:H q=some (.lst (IL l))
 nD:q≠D
 nb:q≠b
 new:H0 q=none
 len:l.length<=2
 lt:∀t∈l,t<m
theorem a7O.next{D q:Addr}(h:a7O H0 H b D q m l)(k:z5 b H H'):a7O H0 H' b D q m l:=⟨k.1 _ _ h.h h.nb,h.nD,h.nb,h.new,h.len,h.lt⟩
theorem b7D{K:Fg}{E:XK}(hB:Bag H b c)(m0:0<m)(m1:m<=24)
  (k:∀a (as:List Addr) (N:Nt) H',H' a=some (.lst (as.map V.ref))->as.length=N.length->(∀(i:Nat) x l,as[i]? = some x->N[i]? = some l->H' x=some (.lst (IL l)))->H a=none->(∀x∈as,H x=none)->N.length=m->(∀l∈N,l.length<=2/\∀t∈l,t<m)->N[m - 1]? = some []->Bag H' b c->z5 b H H'->Q (.ref a) H'):a7Z K [.ref b,.int (m:Int)] H Q E:=by
 refine⟨rfl,?_⟩
 unfold c4Z
 nofun
 exists A2 (by simp) fun D H1 hD e1 s1=>?_
 obtain⟨nb,nc⟩:=hB.nb hD
 have B1:=hB.same s1
 exact_mod_cast Y6 ?_
 specialize a1o (a0d ?_)
 refine⟨m,rfl,by omega,by omega,?_⟩
 rw[z8]
 refine V9 (fun i σ H2=>∃x3 x4 x5 x6 as N,σ=[some (.ref b),some (.int (m:Int)),some (.ref D),x3,x4,x5,x6]/\b1k H H2 b c D m as N/\N.length=i/\(i=m->N[m - 1]? = some [])) ?_ ?_ ?_
 ·exact⟨_,_,_,_,[],[],rfl,⟨B1,z5.of_same s1,e1,nb,nc,rfl,fun i x l e=>by simp at e,fun l h=>by simp at h,hD,by simp⟩,rfl,fun z=>by omega⟩
 ·rintro i _ H2 hi ⟨x3,x4,x5,x6,as,N,rfl,I2,hlen,_⟩
  ext
  rw[V4]
  nofun
  exists c8k ?_
  obtain⟨r,hr,hrm⟩:∃r:Nat,(if(m:Int) - 1<(i:Int)+1 then (m:Int) - 1 else (i:Int)+1)=(r:Int)/\r<m:=by
   by_cases h:(m:Int) - 1<(i:Int)+1
   ·exact⟨m - 1,by rw[if_pos h];omega,by omega⟩
   ·exact⟨i+1,by rw[if_neg h];omega,by omega⟩
  rw[hr]
  nofun
  refine D3 I2.bag (by omega) (by omega) fun j H3 j0 j1 B3 k3=>?_
  obtain⟨j,rfl⟩:=K8 j0
  ext
  exists A2 (by simp) fun q H4 hq e4 s4=>?_
  have I3:=I2.next B3 k3
  have I4:=I3.next (B3.same s4) (z5.of_same s4)
  have S4:a7O H H4 b D q m [r,j]:=⟨e4,(d5 I3.hD hq).symm,(B3.nb hq).1,I3.kept.none hq,by simp,fun t ht=>by
   simp only[o0,E9,or_false]at ht
   rcases ht with rfl | rfl
   ·exact hrm
   ·omega⟩
  nofun
  exists D3 I4.bag (by decide) (by decide) fun w H5 w0 w1 B5 k5=>?_
  have I5:=I4.next B5 k5
  have S5:=S4.next k5
  exact_mod_cast Y7 (P:=fun σ H6=>∃q l,σ=[some (.ref b),some (.int (m:Int)),some (.ref D),some (.int (i:Int)),some (.int (r:Int)),some (.ref q),some (.int w)]/\b1k H H6 b c D m as N/\a7O H H6 b D q m l/\l.length=2) ?_ ?_
  rotate_left
  ·intro nx hnx
   ext
   refine V1 (fun _=>?_) (fun _=>?_)
   ·ext
    exists J9 S5.h (a6N _ _ _) ?_
    refine A2 (by simp) fun q6 H6 hq6 e6 s6=>?_
    exact hnx _ _ ⟨q6,[j,r],rfl,I5.next (B5.same s6) (z5.of_same s6),⟨e6,(d5 I5.hD hq6).symm,(B5.nb hq6).1,I5.kept.none hq6,by simp,fun t ht=>by
     simp only[o0,E9,or_false]at ht
     rcases ht with rfl | rfl
     ·exact S5.lt _ (by simp)
     ·exact S5.lt _ (by simp)⟩,rfl⟩
   ·ext
    exact hnx _ _ ⟨q,[r,j],rfl,I5,S5,rfl⟩
  rintro _ H6 ⟨q,l,rfl,I6,S6,hl6⟩
  obtain⟨l0,l1,rfl⟩:∃l0 l1,l=[l0,l1]:=by
   match l,hl6 with
   | [a,b],_=>exact⟨a,b,rfl⟩
  exact_mod_cast Y7 (P:=fun σ H6=>∃q l,σ=[some (.ref b),some (.int (m:Int)),some (.ref D),some (.int (i:Int)),some (.int (r:Int)),some (.ref q),some (.int w)]/\b1k H H6 b c D m as N/\a7O H H6 b D q m l/\l.length=2) ?_ ?_
  rotate_left
  ·intro nx hnx
   ext
   refine V1 (fun _=>?_) (fun _=>?_)
   ·ext
    exists J9 S6.h (a6N _ _ _) ?_
    refine D3 I6.bag (by omega) (by omega) fun j2 H7 z0 z1 B7 k7=>?_
    obtain⟨j2,rfl⟩:=K8 z0
    ext
    have I7:=I6.next B7 k7
    refine A2 (by simp) fun q8 H8 hq8 e8 s8=>?_
    exact hnx _ _ ⟨q8,[l1,j2],rfl,I7.next (B7.same s8) (z5.of_same s8),⟨e8,(d5 I7.hD hq8).symm,(B7.nb hq8).1,I7.kept.none hq8,by simp,fun t ht=>by
     simp only[o0,E9,or_false]at ht
     rcases ht with rfl | rfl
     ·exact S6.lt _ (by simp)
     ·omega⟩,rfl⟩
   ·ext
    exact hnx _ _ ⟨q,_,rfl,I6,S6,rfl⟩
  clear S6 I6 l0 l1 hl6 S5 I5 S4 I4 I3 B3 k3 B5 k5 s4 e4 hq
  rintro _ H6 ⟨q,l,rfl,I6,S6,hl6⟩
  obtain⟨l0,l1,rfl⟩:∃l0 l1,l=[l0,l1]:=by
   match l,hl6 with
   | [a,b],_=>exact⟨a,b,rfl⟩
  exact_mod_cast Y7 (P:=fun σ H6=>∃q l,σ=[some (.ref b),some (.int (m:Int)),some (.ref D),some (.int (i:Int)),some (.int (r:Int)),some (.ref q),some (.int w)]/\b1k H H6 b c D m as N/\a7O H H6 b D q m l/\(w=7->1<m->l.length=2)) ?_ ?_
  rotate_left
  ·intro nx hnx
   have one:∀H7,H7=H6->((w=7/\1<m)->False)->New (.lst [V.int (r:Int)]) 1 H7 fun v H1=>nx [some (.ref b),some (.int (m:Int)),some (.ref D),some (.int (i:Int)),some (.int (r:Int)),some v,some (.int w)] H1:=by
    rintro _ rfl hw
    refine A2 (by simp) fun q8 H8 hq8 e8 s8=>?_
    exact hnx _ _ ⟨q8,[r],rfl,I6.next (I6.bag.same s8) (z5.of_same s8),⟨e8,(d5 I6.hD hq8).symm,(I6.bag.nb hq8).1,I6.kept.none hq8,by simp,fun t ht=>by rw[g6.mp ht];exact hrm⟩,fun h1 h2=>(hw ⟨h1,h2⟩).elim⟩
   ext
   refine V1 (fun a3=>?_) (fun a3=>?_)
   ·ext
    refine V1 (fun a7=>?_) (fun a7=>?_)
    ·exists D2 rfl ?_
     exact one _ rfl fun⟨z,_⟩=>by have:=of_decide_eq_true a7;omega
    ·ext
     refine V1 (fun a1=>?_) (fun a1=>?_)
     ·ext
      rw[b1V]at a1
      exact one _ rfl fun⟨_,z⟩=>by have:=of_decide_eq_true a1;omega
     ·ext
      exact hnx _ _ ⟨q,_,rfl,I6,S6,fun _ _=>rfl⟩
   ·ext
    exists A3 rfl ?_
    refine V1 (fun a1=>?_) (fun a1=>?_)
    ·ext
     rw[b1V]at a1
     exact one _ rfl fun⟨_,z⟩=>by have:=of_decide_eq_true a1;omega
    ·ext
     exact hnx _ _ ⟨q,_,rfl,I6,S6,fun _ _=>rfl⟩
  clear S6 I6 l0 l1 hl6
  rintro _ H6 ⟨q,l,rfl,I6,S6,hl6⟩
  exact_mod_cast Y7 (P:=fun σ H6=>∃q l,σ=[some (.ref b),some (.int (m:Int)),some (.ref D),some (.int (i:Int)),some (.int (r:Int)),some (.ref q),some (.int w)]/\b1k H H6 b c D m as N/\a7O H H6 b D q m l) ?_ ?_
  rotate_left
  ·intro nx hnx
   ext
   refine V1 (fun a7=>?_) (fun a7=>?_)
   ·ext
    refine V1 (fun a1=>?_) (fun a1=>?_)
    ·rw[b1V]at a7
     have a7:=of_decide_eq_true a7
     have a1:=of_decide_eq_true a1
     have hl:=hl6 a7 (by omega)
     obtain⟨l0,l1,rfl⟩:∃l0 l1,l=[l0,l1]:=by
      match l,hl with
      | [a,b],_=>exact⟨a,b,rfl⟩
     ext
     exists J9 S6.h (a6N _ _ _) ?_
     refine A2 (by simp) fun q8 H8 hq8 e8 s8=>?_
     exact hnx _ _ ⟨q8,[l1],rfl,I6.next (I6.bag.same s8) (z5.of_same s8),⟨e8,(d5 I6.hD hq8).symm,(I6.bag.nb hq8).1,I6.kept.none hq8,by simp,fun t ht=>by rw[g6.mp ht];exact S6.lt _ (by simp)⟩⟩
    ·ext
     exact hnx _ _ ⟨q,_,rfl,I6,S6⟩
   ·exists A3 rfl ?_
    exact hnx _ _ ⟨q,_,rfl,I6,S6⟩
  clear S6 I6 hl6 l
  rintro _ H6 ⟨q,l,rfl,I6,S6⟩
  exact_mod_cast Y7 (P:=fun σ H6=>∃q l,σ=[some (.ref b),some (.int (m:Int)),some (.ref D),some (.int (i:Int)),some (.int (r:Int)),some (.ref q),some (.int w)]/\b1k H H6 b c D m as N/\a7O H H6 b D q m l/\(i+1=m->l=[])) ?_ ?_
  rotate_left
  ·intro nx hnx
   have none:∀H7,b1k H H7 b c D m as N->New (.lst []) 0 H7 fun v H1=>nx [some (.ref b),some (.int (m:Int)),some (.ref D),some (.int (i:Int)),some (.int (r:Int)),some v,some (.int w)] H1:=by
    intro H7 I7
    refine A2 (by simp) fun q8 H8 hq8 e8 s8=>?_
    exact hnx _ _ ⟨q8,[],rfl,I7.next (I7.bag.same s8) (z5.of_same s8),⟨e8,(d5 I7.hD hq8).symm,(I7.bag.nb hq8).1,I7.kept.none hq8,by simp,fun t ht=>by simp at ht⟩,fun _=>rfl⟩
   ext
   refine V1 (fun a1=>?_) (fun a1=>?_)
   ·exists D2 rfl ?_
    exact none _ I6
   ·rw[b1V]at a1
    have a1:¬((i:Int)=(m:Int) - 1):=fun z=>a1 (d0K z)
    ext
    refine V1 (fun a6=>?_) (fun a6=>?_)
    ·ext
     exists D3 I6.bag (by decide) (by decide) fun z H7 z0 z1 B7 k7=>?_
     refine V1 (fun a0=>?_) (fun a0=>?_)
     ·ext
      exact none _ (I6.next B7 k7)
     ·ext
      exact hnx _ _ ⟨q,l,rfl,I6.next B7 k7,S6.next k7,fun z=>by omega⟩
    ·exists A3 rfl ?_
     exact hnx _ _ ⟨q,l,rfl,I6,S6,fun z=>by omega⟩
  clear S6 I6 l
  rintro _ H6 ⟨q,l,rfl,I6,S6,hlast⟩
  ext
  specialize b4k ?_
  exists ⟨a3m I6.hD,?_⟩
  refine a7w I6.hD (M9 (by rw[b5,I6.len];omega)) ?_
  have nqc:D≠c:=I6.nc
  refine⟨_,_,_,_,as++[q],N++[l],rfl,⟨I6.bag.put I6.nb nqc,I6.kept.put hD,by rw[g9];simp,I6.nb,I6.nc,by simp[I6.len],?_,?_,I6.n1,fun x hx=>(y8.mp hx).elim (I6.n2 x) fun z=>g6.mp z ▸ S6.new⟩,by simp[hlen],?_⟩
  ·intro i' x' l' e1' e2'
   rcases a0J e1' with ⟨hi1,f1⟩ | ⟨hi1,f1⟩
   ·rcases a0J e2' with ⟨hi2,f2⟩ | ⟨hi2,f2⟩
    ·obtain⟨g1,g2,g3⟩:=I6.at_ i' x' l' f1 f2
     exact⟨by rw[j7 g2];exact g1,g2,g3⟩
    ·have:=I6.len;omega
   ·rcases a0J e2' with ⟨hi2,f2⟩ | ⟨hi2,f2⟩
    ·have:=I6.len;omega
    ·subst f1 f2
     exact⟨by rw[j7 S6.nD];exact S6.h,S6.nD,S6.nb⟩
  ·intro l' hl'
   rcases y8.mp hl' with z | z
   ·exact I6.small l' z
   ·rw[g6.mp z];exact⟨S6.len,S6.lt⟩
  ·intro z
   rw[hlast z]
   have:m - 1=N.length:=by omega
   rw[this];simp
 ·rintro _ H2 ⟨x3,x4,x5,x6,as,N,rfl,I2,hlen,hlast⟩
  ext
  exact k D as N H2 I2.hD I2.len (fun i x l e1 e2=>(I2.at_ i x l e1 e2).1) I2.n1 I2.n2 hlen I2.small (hlast rfl) I2.bag I2.kept
theorem c7a{K:Fg}{E:XK}(hB:Bag H b c)(m0:0<m)(m1:m<=24)
  (k:∀a N H',E7 H' a N->N.length=m->(∀l∈N,l.length<=2/\∀t∈l,t<m)->N[m - 1]? = some []->Bag H' b c->z5 b H H'->Q (.ref a) H'):a7Z K [.ref b,.int (m:Int)] H Q E:=
 b7D hB m0 m1 fun a as N H' h1 h2 h3 _ _=>k a N H' ⟨as,h1,h2,h3⟩
theorem c5p(xs:List V):a4t xs (some 1) none=xs.drop 1:=by
 cases xs with
 | nil=>rfl
 | cons a r=>rw[c7t];rfl
theorem c4J(l:List Nat)(n:Nat):(IL l).drop n=IL (l.drop n):=by unfold IL;rw[List.map_drop]
theorem a4o(xs:List V):a0K xs []=decide (xs.length=0):=by
 unfold a0K
 rw[show min xs.length ([]:List V).length=0 by simp]
 simp only[List.range_zero,c9c,Y4,a3h]
 by_cases h:xs.length=0
 ·rw[h];rfl
 ·rw[d0J h]
  simpa using h
theorem c2i{G:List Nat}(h:(l.map fun t=>decide (t∈G)).any id=true):∃t∈l,t∈G:=by
 obtain⟨x,hx,e⟩:=b0P.mp h
 obtain⟨t,ht,rfl⟩:=G5.mp hx
 exact⟨t,ht,of_decide_eq_true e⟩
theorem b2X{α:Type}(l:List Nat)(f:Nat->α)(i:Nat)(e:l[i]? = some t):(l.take (i+1)).map f=(l.take i).map f++[f t]:=by
 rw[K0,e];simp
structure a4N(H0 H:Hp)(d:Addr)(N:Nt)(G:List Nat):Prop where
 same:t9 H0 H
 hd:H d=some (.dK (KS G))
 nd:G.Nodup
 lt:∀k∈G,k<N.length
 gd:∀k∈G,Gd N k
theorem a4N.next{G:List Nat}(h:a4N H0 H d N G)(s:t9 H H'):a4N H0 H' d N G:=⟨h.same.trans s,s _ _ h.hd,h.nd,h.lt,h.gd⟩
theorem a4N.put{G:List Nat}(h:a4N H0 H d N G)(n:H0 d=none){k:Nat}(hk:k<N.length)(g:Gd N k):a4N H0 (upd H d (.dK (KS (Y5 G k)))) d N (Y5 G k):=
 ⟨fun b o e=>by rw[j7 (d5 e n)];exact h.same b o e,g9,a7z h.nd,fun j hj=>(U8.mp hj).elim (h.lt j) fun z=>z ▸ hk,fun j hj=>(U8.mp hj).elim (h.gd j) fun z=>z ▸ g⟩
theorem c4s{K:Fg}{x2 x4 x5 x6:Option V}{G:List Nat}(n0:H0 d=none)(hn:E7 H a N)(hN:N.length<=24)(hl:N[i]? = some l)(hl2:l.length<=2)(hG:a4N H0 H d N G)
  (k:∀H' G',a4N H0 H' d N G'->(∀j∈G,j∈G')->(l=[]->i∈G')->E7 H' a N->D.nx [some (.ref a),some (.ref d),x2,some (.int (i:Int)),x4,x5,x6] H') :
  K7 (tOr (D7 (tOp qEq (tOp qIx (b8 0) (b8 3)) (F1 (c6)))) (tB (tCB b2E (a8 (S3 (X4 K (tOp qIx (b8 0) (b8 3))) (T5) (a7X (b8 0) (b8 2))) (c6))))) (a3r (b8 1) (b8 3) (tC (.bl true))) (E3) D
   [some (.ref a),some (.ref d),x2,some (.int (i:Int)),x4,x5,x6] H:=by
 have hi:i<N.length:=(gI hl)
 have hGl:G.length<100000:=by
  have:=a7A _ _ hG.nd hG.lt
  omega
 have put:∀H1,E7 H1 a N->a4N H0 H1 d N G->a≠d->(∀x,H1 x=some (.dK (KS G))->True)->Gd N i->a3r (b8 1) (b8 3) (tC (.bl true)) D [some (.ref a),some (.ref d),x2,some (.int (i:Int)),x4,x5,x6] H1:=by
  intro H1 n1 g1 nad _ gd
  specialize b0b ?_
  refine⟨d,_,rfl,a7J g1.hd hGl i,?_⟩
  refine k _ (Y5 G i) (g1.put n0 hi gd) (fun j hj=>U8.mpr (.inl hj)) (fun _=>U8.mpr (.inr rfl)) ?_
  obtain⟨as,q1,q2,q3⟩:=n1.ex
  refine⟨as,by rw[j7 nad];exact q1,q2,fun j x l' e1 e2=>?_⟩
  have q:=q3 j x l' e1 e2
  rw[j7 (T7 q g1.hd (by intro z;cases z))]
  exact q
 obtain⟨xs,x,h1,h2,h3,_⟩:=hn.at hl
 have nad:a≠d:=T7 h1 hG.hd (by intro z;cases z)
 ext
 exists J9 h1 h2 ?_
 refine A2 (by simp) fun p H1 hp e1 s1=>?_
 refine⟨_,a7I (s1 _ _ h3) e1 (a7P l) rfl,?_⟩
 rw[a4o,K6]
 ext
 by_cases hz:l=[]
 ·refine D2 (d0K (by rw[hz];rfl)) ?_
  refine D2 rfl ?_
  exact put H1 (hn.same s1) (hG.next s1) nad (fun _ _=>trivial) (.stop (hz ▸ hl))
 exists A3 (d0J fun z=>hz (a4U.mp z)) ?_
 specialize V7 (Z1 ?_)
 refine J9 (s1 _ _ h1) h2 ?_
 refine⟨x,rfl,⟨_,SqL.of (s1 _ _ h3)⟩,fun E hE=>?_⟩
 have G1:=hG.next s1
 refine U9 (xs:=IL l) (fun j ys H2=>ys=(l.take j).map (fun t=>V.bl (decide (t∈G)))/\H2 E=some (.lst ys)/\t9 H1 H2) ⟨by simp,g9,C5 hE⟩ ?_ ?_ ?_ ?_
 ·rintro j ys H2 ⟨_,h,_⟩
  exact h
 ·rintro j ys H2 _ ⟨_,_,s2⟩
  exact SqL.of (s2 _ _ (s1 _ _ h3))
 ·rintro j y ys H2 hy ⟨rfl,hE2,s2⟩ R hR
  have hy:(l.map fun(n:Nat)=>V.int (n:Int))[j]? = some y:=hy
  rw[c8]at hy
  cases ht:l[j]? with
  | none=>rw[ht]at hy;cases hy
  | some t=>
   rw[ht]at hy
   cases hy
   have hj:=(gI ht)
   specialize b4j ?_
   obtain⟨o,g1,g2⟩:=a0B (s2 _ _ G1.hd) t
   refine⟨d,o,rfl,g1,?_⟩
   rw[g2]
   refine hR _ _ hE2 (M9 ?_) ⟨?_,g9,fun b o e=>?_⟩
   ·rw[b5,J0]
    omega
   ·rw[b2X l _ j ht]
   ·rw[j7 (d5 e hE)];exact s2 b o e
 ·rintro ys H2 ⟨rfl,hE2,s2⟩
  rw[K6,V6]at hE2
  have he:l.map (fun t=>V.bl (decide (t∈G)))=(l.map fun t=>decide (t∈G)).map V.bl:=by rw[a0h];rfl
  rw[he]at hE2
  ext
  exists c5f hE2 ?_
  refine V1 (fun c=>?_) (fun c=>?_)
  ·obtain⟨t,t1,t2⟩:=c2i c
   exact put H2 ((hn.same s1).same s2) (G1.next s2) nad (fun _ _=>trivial) (.step hl t1 (hG.gd t t2))
  ·ext
   exact k H2 G (G1.next s2) (fun j hj=>hj) (fun z=>(hz z).elim) ((hn.same s1).same s2)
structure b3o(H0 H:Hp)(d:Addr)(N:Nt)(S:List Nat):Prop where
 same:t9 H0 H
 hd:H d=some (.dK (KS S))
 nd:S.Nodup
 lt:∀k∈S,k<N.length
 rc:∀k∈S,Rc N k
 zero:0∈S
theorem b3o.put{S:List Nat}(h:b3o H0 H d N S)(n:H0 d=none){k:Nat}(hk:k<N.length)(g:Rc N k):b3o H0 (upd H d (.dK (KS (Y5 S k)))) d N (Y5 S k):=
 ⟨fun b o e=>by rw[j7 (d5 e n)];exact h.same b o e,g9,a7z h.nd,fun j hj=>(U8.mp hj).elim (h.lt j) fun z=>z ▸ hk,fun j hj=>(U8.mp hj).elim (h.rc j) fun z=>z ▸ g,U8.mpr (.inl h.zero)⟩
def a6O(N:Nt)(S:List Nat):Prop:=∀k∈S,∀l,N[k]? = some l->∀t∈l,t∈S
theorem b7z{S:List Nat}{k:Nat}(h:k∈S):Y5 S k=S:=by unfold Y5;rw[if_pos h]
theorem E7.dput{ks:List (Key×V)}(h:E7 H a N)(hd:H d=some (.dK ks)):E7 (upd H d o) a N:=by
 obtain⟨as,q1,q2,q3⟩:=h.ex
 exact⟨as,by rw[j7 (T7 q1 hd (by intro z;cases z))];exact q1,q2,fun j x l e1 e2=>by
  have q:=q3 j x l e1 e2
  rw[j7 (T7 q hd (by intro z;cases z))];exact q⟩
theorem c0K{K:Fg}{x1 x2 x5 x6:Option V}{S:List Nat}(n0:H0 d=none)(hn:E7 H a N)(hN:N.length<=24)(hl:N[i]? = some l)(hlt:∀t∈l,t<N.length)(hS:b3o H0 H d N S)
  (k:∀H' S' x5,b3o H0 H' d N S'->(∀j∈S,j∈S')->(i∈S->∀t∈l,t∈S')->(a6O N S->S'=S)->E7 H' a N->D.nx [some (.ref a),x1,x2,some (.int (i:Int)),some (.ref d),x5,x6] H') :
  K7 (tB (a7X (b8 3) (b8 4))) (a2y (X4 K (tOp qIx (b8 0) (b8 3))) (u4 5) (a3r (b8 4) (b8 5) (tC (.bl true)))) (E3) D [some (.ref a),x1,x2,some (.int (i:Int)),some (.ref d),x5,x6] H:=by
 ext
 specialize b4j ?_
 obtain⟨o,g1,g2⟩:=a0B hS.hd i
 refine⟨d,o,rfl,g1,?_⟩
 rw[g2]
 ext
 refine V1 (fun c=>?_) (fun c=>?_)
 ·have hi:i∈S:=of_decide_eq_true c
  obtain⟨xs,x,h1,h2,h3,_⟩:=hn.at hl
  specialize a1o (Z1 ?_)
  refine J9 h1 h2 ?_
  refine⟨x,rfl,⟨_,SqL.of h3⟩,a7G (xs:=IL l) (fun j σ H2=>∃S' x5,σ=[some (.ref a),x1,x2,some (.int (i:Int)),some (.ref d),x5,x6]/\b3o H0 H2 d N S'/\(∀j∈S,j∈S')/\(∀t∈l.take j,t∈S')/\(a6O N S->S'=S)/\E7 H2 a N/\H2 x=some (.lst (IL l))) ?_ ?_ ?_ ?_⟩
  ·exact⟨S,x5,rfl,hS,fun _ h=>h,by simp,fun _=>rfl,hn,h3⟩
  ·rintro j σ H2 _ ⟨_,_,_,_,_,_,_,_,h⟩
   exact SqL.of h
  ·rintro j y _ H2 hy ⟨S',x5,rfl,I2,i1,i2,i3,n2,hx2⟩
   have hy:(l.map fun(n:Nat)=>V.int (n:Int))[j]? = some y:=hy
   rw[c8]at hy
   cases ht:l[j]? with
   | none=>rw[ht]at hy;cases hy
   | some t=>
    rw[ht]at hy
    cases hy
    have tm:=mI ht
    ext
    specialize b0b ?_
    refine⟨d,_,rfl,a7J I2.hd (by have:=a7A _ _ I2.nd I2.lt;omega) t,?_⟩
    refine⟨Y5 S' t,_,rfl,I2.put n0 (hlt t tm) (.step (hS.rc i hi) hl tm),fun j hj=>U8.mpr (.inl (i1 j hj)),fun z hz=>?_,fun hc=>?_,n2.dput I2.hd,?_⟩
    ·rw[K0,ht]at hz
     rcases y8.mp hz with q | q
     ·exact U8.mpr (.inl (i2 z q))
     ·exact U8.mpr (.inr (by simpa using q))
    ·rw[i3 hc]
     exact b7z (hc i hi l hl t tm)
    ·rw[j7 (T7 hx2 I2.hd (by intro z;cases z))];exact hx2
  ·rintro _ H2 ⟨S',x5,rfl,I2,i1,i2,i3,n2,hx2⟩
   refine k H2 S' x5 I2 i1 (fun _ t ht=>i2 t ?_) i3 n2
   rw[K6,V6];exact ht
 ·ext
  exact k H S x5 hS (fun _ h=>h) (fun h=>(c (d0K h)).elim) (fun _=>rfl) hn
theorem b4C{ms:List Int}{S:List Nat}(h:ms.Perm (S.map fun(n:Nat)=>(n:Int))):∃O:List Nat,O.Perm S/\ms=O.map fun(n:Nat)=>(n:Int):=by
 refine⟨ms.map b7Z,?_,?_⟩
 ·have:=h.map b7Z
  rw[a0h]at this
  have e:(b7Z ∘ fun(n:Nat)=>(n:Int))=id:=by funext n;simp
  rw[e,List.map_id]at this
  exact this
 ·rw[a0h]
  have:∀x∈ms,((fun(n:Nat)=>(n:Int)) ∘ b7Z) x=id x:=by
   intro x hx
   obtain⟨n,_,rfl⟩:=G5.mp (h.subset hx)
   simp
  rw[c2r this,List.map_id]
theorem b5H{O:List Nat}(h:(O.map fun(n:Nat)=>(n:Int)).Pairwise (· <= ·)):O.Pairwise (· <= ·):=by
 rw[List.pairwise_map]at h
 exact h.imp fun q=>by omega
theorem c1L(O:List Nat)(t:Nat):(O.map fun(n:Nat)=>(n:Int)).idxOf (t:Int)=O.idxOf t:=by
 induction O with
 | nil=>rfl
 | cons a r ih=>
  rw[L6,c7H,c7H]
  by_cases e:a=t
  ·subst e;simp
  ·have:((a:Int) == (t:Int))=false:=by simp;omega
   have e2:(a == t)=false:=by simpa using e
   rw[this,e2,ih]
theorem L4(h:i<N.length):N[i]? = some N[i]:=by simp
theorem b8X{K:Fg}{E:XK}(hn:E7 H a N)(hp:0<N.length)(hN:N.length<=24)(hs:∀l∈N,l.length<=2/\∀t∈l,t<N.length)(hl:N[N.length - 1]? = some [])
  (k:∀a' N' H',E7 H' a' N'->a5x N'->N'.length<=24->t9 H H'->Q (.ref a') H'):a5G K [.ref a] H Q E:=by
 refine⟨rfl,?_⟩
 unfold b3R
 nofun
 exists b2z fun d H1 hd e1 s1=>?_
 have n1:=hn.same s1
 obtain⟨xs0,hx0,lx0⟩:=hn.len
 exact_mod_cast Y7 (P:=fun σ H2=>∃x2 x3 G,σ=[some (.ref a),some (.ref d),x2,x3,none,none,none]/\a4N H H2 d N G/\N.length - 1∈G/\E7 H2 a N) ?_ ?_
 rotate_left
 ·intro nx hnx
  specialize a1o (a0d ?_)
  refine F2 (s1 _ _ hx0) ?_
  refine⟨N.length,by rw[lx0],by omega,by omega,?_⟩
  rw[z8]
  refine V9 (fun i σ H2=>∃x2 x3 G,σ=[some (.ref a),some (.ref d),x2,x3,none,none,none]/\a4N H H2 d N G/\(0<i->N.length - 1∈G)/\E7 H2 a N) ?_ ?_ ?_
  ·exact⟨_,_,[],rfl,⟨s1,e1,by simp,by simp,by simp⟩,by omega,n1⟩
  ·rintro i _ H2 hi ⟨x2,x3,G,rfl,I2,g2,n2⟩
   ext
   obtain⟨xs2,hx2,lx2⟩:=n2.len
   specialize a1o (a0d ?_)
   refine F2 hx2 ?_
   refine⟨N.length,by rw[lx2],by omega,by omega,?_⟩
   rw[z8]
   refine V9 (fun j σ H3=>∃x3 G,σ=[some (.ref a),some (.ref d),some (.int (0+(i:Int))),x3,none,none,none]/\a4N H H3 d N G/\(j=N.length->N.length - 1∈G)/\E7 H3 a N) ?_ ?_ ?_
   ·exact⟨_,G,rfl,I2,by omega,n2⟩
   ·rintro j _ H3 hj ⟨x3,G3,rfl,I3,g3,n3⟩
    exact_mod_cast a9o ?_
    rw[V4 (j:Int)]
    refine c4s hd n3 hN (L4 hj) (hs _ (C8 _)).1 I3 fun H4 G4 I4 sub4 h4 n4=>?_
    refine⟨_,G4,rfl,I4,fun z=>?_,n4⟩
    have e:N.length - 1=j:=by omega
    rw[e]at hl ⊢
    refine h4 ?_
    rw[L4 hj]at hl
    exact Option.some.inj hl
   ·rintro _ H3 ⟨x3,G3,rfl,I3,g3,n3⟩
    exact⟨_,_,G3,rfl,I3,fun _=>g3 rfl,n3⟩
  ·rintro _ H2 ⟨x2,x3,G,rfl,I2,g2,n2⟩
   exact hnx _ _ ⟨x2,x3,G,rfl,I2,g2 hp,n2⟩
 rintro _ H2 ⟨x2,x3,G,rfl,I2,hlast,n2⟩
 nofun
 exact_mod_cast V7 (a0d ?_)
 obtain⟨xs2,hx2,lx2⟩:=n2.len
 ext
 refine F2 hx2 ?_
 refine⟨N.length,by rw[lx2],by omega,by omega,fun A hA=>?_⟩
 rw[z8]
 refine a5t (fun i ys H3=>∃as:List Addr,ys=as.map V.ref/\as.length=i/\(∀(j:Nat) x l,as[j]? = some x->(a3t N G)[j]? = some l->H3 x=some (.lst (IL l))/\x≠A)/\H3 A=some (.lst ys)/\t9 H2 H3) ?_ ?_ ?_ ?_
 ·exact⟨[],rfl,rfl,by simp,g9,C5 hA⟩
 ·rintro i ys H3 ⟨_,_,_,_,h,_⟩
  exact h
 ·rintro i ys H3 hi ⟨as,rfl,la,at3,hA3,s3⟩ R hR
  rw[V4]
  obtain⟨ys0,x,f1,f2,f3,f4⟩:=(n2.same s3).at (L4 hi)
  have more:∀q H4,t9 H3 H4->(∀l,(a3t N G)[i]? = some l->H4 q=some (.lst (IL l)))->q≠A->R (.ref q) H4:=by
   intro q H4 s4 hq nq
   refine hR _ _ (s4 _ _ hA3) (M9 (by rw[b5];omega)) ⟨as++[q],by simp,by simp[la],?_,g9,fun b o e=>?_⟩
   ·intro j y l' h1 h2
    rcases a0J h1 with ⟨_,g1⟩ | ⟨hj,g1⟩
    ·obtain⟨g2,g3⟩:=at3 j y l' g1 h2
     exact⟨by rw[j7 g3];exact s4 _ _ g2,g3⟩
    ·rw[hj,la]at h2
     subst g1
     exact⟨by rw[j7 nq];exact hq l' h2,nq⟩
   ·rw[j7 (d5 e hA)]
    exact s4 _ _ (s3 _ _ e)
  ext
  specialize b4j ?_
  obtain⟨o,g1,g2⟩:=a0B (s3 _ _ I2.hd) i
  refine⟨d,o,rfl,g1,?_⟩
  rw[g2]
  ext
  refine V1 (fun c=>?_) (fun c=>?_)
  ·ext
   refine J9 f1 f2 ?_
   refine more x H3 (t9.refl _) (fun l hl'=>?_) ?_
   ·rw[a7B (L4 hi) (of_decide_eq_true c)]at hl'
    cases hl'
    exact f3
   ·refine(d5 (H:=H2) (a:=x) (b:=A) (o:=.lst (IL N[i])) ?_ hA)
    obtain⟨ys1,x',f1',f2',f3',_⟩:=n2.at (L4 hi)
    have e1:=s3 _ _ f1'
    rw[f1]at e1
    cases e1
    rw[f2]at f2'
    cases f2'
    exact f3'
  ·ext
   exists F2 f1 ?_
   exists A2 (by simp) fun p1 H4 hp1 e4 s4=>?_
   exists J9 (s4 _ _ f1) f2 ?_
   refine b1G (s4 _ _ f3) fun p2 H5 hp2 e5 s5=>?_
   rw[c5p,c4J]at e5
   have hl2:=(hs _ (C8 (l:=N) (h:=hi))).1
   refine a1Z (s5 _ _ e4) e5 (A2 (by simp[K6];omega) fun p3 H6 hp3 e6 s6=>?_)
   refine more p3 H6 ((s4.trans s5).trans s6) (fun l hl'=>?_) ?_
   ·rw[b1L (L4 hi) (fun z=>c (d0K z))]at hl'
    cases hl'
    rw[e6,f4]
    have:((N.length:Int) - 1)=((N.length - 1:Nat):Int):=by omega
    rw[this]
    rfl
   ·exact(d5 ((s4.trans s5) _ _ hA3) hp3).symm
 rintro ys H3 ⟨as,rfl,la,at3,hA3,s3⟩
 obtain⟨N2,hN2⟩:∃N2,N2=a3t N G:=⟨_,rfl⟩
 have len2:N2.length=N.length:=by rw[hN2,b1M]
 have n3:E7 H3 A N2:=⟨as,hA3,by rw[len2,la],fun i x l h1 h2=>(at3 i x l h1 (hN2 ▸ h2)).1⟩
 have small2:∀l∈N2,l.length<=2/\∀t∈l,t<N2.length:=by
  rw[len2,hN2]
  exact b4G hp hs hl hlast
 have gd2:∀k,k<N2.length->Gd N2 k:=by
  rw[len2,hN2]
  exact c4v I2.gd hl hlast
 have s03:t9 H H3:=I2.same.trans s3
 clear at3 hN2 la
 ext
 nofun
 intro r hr
 refine⟨g9,[(Sum.inl 0,V.bl true)],rfl,by simp,?_⟩
 have e4:(upd (upd H3 r (.dK [])) r (.dK (a8p [] [(Sum.inl 0,V.bl true)])))=upd H3 r (.dK (KS [0])):=by
  rw[a9i];rfl
 rw[e4]
 ext
 obtain⟨H4,hH4⟩:∃H4,H4=upd H3 r (.dK (KS [0])):=⟨_,rfl⟩
 rw[<-hH4]
 have s4:t9 H3 H4:=hH4 ▸ C5 hr
 have er:H4 r=some (.dK (KS [0])):=hH4 ▸ g9
 have n4:=n3.same s4
 clear hH4 e4
 have hp2:0<N2.length:=by omega
 exact_mod_cast Y7 (P:=fun σ H5=>∃x2 x3 x5 S,σ=[some (.ref A),some (.ref d),x2,x3,some (.ref r),x5,none]/\b3o H3 H5 r N2 S/\a6O N2 S/\E7 H5 A N2) ?_ ?_
 rotate_left
 ·intro nx hnx
  obtain⟨ys4,hy4,ly4⟩:=n4.len
  specialize a1o (a0d ?_)
  refine F2 hy4 ?_
  refine⟨N2.length,by rw[ly4],by omega,by omega,?_⟩
  rw[z8]
  refine V9 (fun i σ H5=>∃x2 x3 x5 S,σ=[some (.ref A),some (.ref d),x2,x3,some (.ref r),x5,none]/\b3o H3 H5 r N2 S/\(a6O N2 S\/i+1<=S.length)/\E7 H5 A N2) ?_ ?_ ?_
  ·exact⟨_,_,_,[0],rfl,⟨s4,er,by simp,by simpa using hp2,by simpa using Rc.zero,by simp⟩,.inr (by simp),n4⟩
  ·rintro i _ H5 hi ⟨x2,x3,x5,S,rfl,I5,g5,n5⟩
   ext
   obtain⟨ys5,hy5,ly5⟩:=n5.len
   specialize a1o (a0d ?_)
   refine F2 hy5 ?_
   refine⟨N2.length,by rw[ly5],by omega,by omega,?_⟩
   rw[z8]
   refine V9 (fun j σ H6=>∃x3 x5 S',σ=[some (.ref A),some (.ref d),some (.int (0+(i:Int))),x3,some (.ref r),x5,none]/\b3o H3 H6 r N2 S'/\(∀k∈S,k∈S')/\(∀k∈S,k<j->∀l,N2[k]? = some l->∀t∈l,t∈S')/\(a6O N2 S->S'=S)/\E7 H6 A N2) ?_ ?_ ?_
   ·exact⟨_,_,S,rfl,I5,fun _ h=>h,by omega,fun _=>rfl,n5⟩
   ·rintro j _ H6 hj ⟨x3,x5,S',rfl,I6,b1,b2,b3,n6⟩
    exact_mod_cast a9o ?_
    rw[V4 (j:Int)]
    refine c0K hr n6 (by omega) (L4 hj) (small2 _ (C8 _)).2 I6 fun H7 S7 x5 I7 c1 c2 c3 n7=>?_
    refine⟨_,x5,S7,rfl,I7,fun k hk=>c1 k (b1 k hk),fun k hk hkj l hl' t ht=>?_,fun hc=>?_,n7⟩
    ·by_cases e:k=j
     ·subst e
      rw[L4 hj]at hl'
      cases hl'
      exact c2 (b1 k hk) t ht
     ·exact c1 t (b2 k hk (by omega) l hl' t ht)
    ·have:=b3 hc
     rw[this]at c3
     exact c3 hc
   ·rintro _ H6 ⟨x3,x5,S',rfl,I6,b1,b2,b3,n6⟩
    refine⟨_,x3,x5,S',rfl,I6,?_,n6⟩
    rcases g5 with hc | hc
    ·exact .inl (by rw[b3 hc];exact hc)
    ·by_cases hcl:a6O N2 S
     ·exact .inl (by rw[b3 hcl];exact hcl)
     ·right
      obtain⟨t,t1,t2⟩:∃t,t∈S'/\¬t∈S:=by
       refine Classical.byContradiction fun hno=>hcl fun k hk l hl' t ht=>?_
       refine Classical.byContradiction fun hts=>hno ⟨t,b2 k hk (I5.lt k hk) l hl' t ht,hts⟩
      have:(t::S).length<=S'.length:=by
       have nd:(t::S).Nodup:=X5.mpr ⟨t2,I5.nd⟩
       have sub:∀k∈t::S,k∈S':=fun k hk=>(o0.mp hk).elim (fun z=>z ▸ t1) (b1 k)
       exact c1x _ _ nd sub
      rw[z9]at this
      omega
  ·rintro _ H5 ⟨x2,x3,x5,S,rfl,I5,g5,n5⟩
   refine hnx _ _ ⟨x2,x3,x5,S,rfl,I5,g5.elim id fun h=>?_,n5⟩
   have:=a7A _ _ I5.nd I5.lt
   omega
 rintro _ H5 ⟨y2,y3,y5,S,rfl,I5,hcl,n5⟩
 have hSl:=a7A _ _ I5.nd I5.lt
 nofun
 have ek:(KS S).map (fun kv=>kV kv.1)=(S.map fun(n:Nat)=>(n:Int)).map V.int:=by
  unfold KS;rw[a0h,a0h];rfl
 have ld:a8g [.ref r] H5=fun Q=>∀l,H5 l=none->Q (.ref l) (upd H5 l (.lst ((KS S).map fun kv=>kV kv.1))):=by
  unfold a8g
  simp only[I5.hd]
 rw[ld]
 intro p6 hp6
 rw[ek]
 obtain⟨H6,hH6⟩:∃H6,H6=upd H5 p6 (.lst ((S.map fun(n:Nat)=>(n:Int)).map V.int)):=⟨_,rfl⟩
 rw[<-hH6]
 have s6:t9 H5 H6:=hH6 ▸ C5 hp6
 have e6:H6 p6=some (.lst ((S.map fun(n:Nat)=>(n:Int)).map V.int)):=hH6 ▸ g9
 clear hH6 ld
 ext
 have so:a5J [.ref p6] H6=fun Q=>∃ns,a1G ((S.map fun(n:Nat)=>(n:Int)).map V.int)=some ns/\ns.length<64/\∀(p:Addr) (ms:List Int),ms.Perm ns->ms.Pairwise (· <= ·)->H6 p=none->Q (.ref p) (upd H6 p (.lst (ms.map V.int))):=by
  unfold a5J
  simp only[e6]
 rw[so]
 refine⟨_,b0t _,by rw[b5];omega,fun p7 ms hperm hsort hp7=>?_⟩
 obtain⟨O,hO,rfl⟩:=b4C hperm
 have hsO:=b5H hsort
 have ndO:O.Nodup:=hO.nodup_iff.mpr I5.nd
 have memO:∀k,k∈O↔k∈S:=fun k=>hO.mem_iff
 obtain⟨H7,hH7⟩:∃H7,H7=upd H6 p7 (.lst ((O.map fun(n:Nat)=>(n:Int)).map V.int)):=⟨_,rfl⟩
 rw[<-hH7]
 have s7:t9 H6 H7:=hH7 ▸ C5 hp7
 have e7:H7 p7=some (.lst ((O.map fun(n:Nat)=>(n:Int)).map V.int)):=hH7 ▸ g9
 clear hH7 so
 have hOl:O.length<=24:=by rw[hO.length_eq];omega
 ext
 have n7:=(n5.same s6).same s7
 have s07:t9 H H7:=((s03.trans I5.same).trans s6).trans s7
 have valid:a5x (a6t N2 O):=b8l ((memO 0).mpr I5.zero) hsO ndO (fun k hk=>I5.lt k ((memO k).mp hk)) (by omega) (fun k hk l hl' t ht=>(memO t).mpr (hcl k ((memO k).mp hk) l hl' t ht)) (fun k hk=>I5.rc k ((memO k).mp hk))
  (fun l hl'=>(small2 l hl').1) gd2
 specialize V7 (Z1 ?_)
 refine⟨p7,rfl,⟨_,SqL.of e7⟩,fun B hB=>?_⟩
 refine U9 (xs:=(O.map fun(n:Nat)=>(n:Int)).map V.int) (fun i ys H8=>∃bs:List Addr,ys=bs.map V.ref/\bs.length=i/\(∀(j:Nat) x l,bs[j]? = some x->(a6t N2 O)[j]? = some l->H8 x=some (.lst (IL l))/\x≠B)/\H8 B=some (.lst ys)/\t9 H7 H8) ?_ ?_ ?_ ?_ ?_
 ·exact⟨[],rfl,rfl,by simp,g9,C5 hB⟩
 ·rintro i ys H8 ⟨_,_,_,_,h,_⟩
  exact h
 ·rintro i ys H8 _ ⟨_,_,_,_,_,s8⟩
  exact SqL.of (s8 _ _ e7)
 ·rintro i x ys H8 hx ⟨bs,rfl,lb,at8,hB8,s8⟩ R hR
  rw[c8,c8]at hx
  cases ho:O[i]? with
  | none=>rw[ho]at hx;cases hx
  | some kk=>
   rw[ho]at hx
   cases hx
   have hko:=mI ho
   have hks:=(memO kk).mp hko
   have hkl:=I5.lt kk hks
   obtain⟨ys8,x8,f1,f2,f3,_⟩:=(n7.same s8).at (L4 hkl)
   obtain⟨l8,hl8⟩:∃l8,l8=N2[kk]:=⟨_,rfl⟩
   rw[<-hl8]at f3
   have hN8:N2[kk]? = some l8:=by rw[hl8];exact L4 hkl
   specialize V7 (Z1 ?_)
   refine J9 f1 f2 ?_
   refine⟨x8,rfl,⟨_,SqL.of f3⟩,fun C hC=>?_⟩
   refine U9 (xs:=IL l8) (fun j zs H9=>zs=IL ((l8.take j).map fun t=>O.idxOf t)/\H9 C=some (.lst zs)/\t9 H8 H9) ⟨rfl,g9,C5 hC⟩ ?_ ?_ ?_ ?_
   ·rintro j zs H9 ⟨_,h,_⟩
    exact h
   ·rintro j zs H9 _ ⟨_,_,s9⟩
    exact SqL.of (s9 _ _ f3)
   ·rintro j y zs H9 hy ⟨rfl,hC9,s9⟩ R' hR'
    have hy:(l8.map fun(n:Nat)=>V.int (n:Int))[j]? = some y:=hy
    rw[c8]at hy
    cases ht:l8[j]? with
    | none=>rw[ht]at hy;cases hy
    | some t=>
     rw[ht]at hy
     cases hy
     have htO:t∈O:=(memO t).mpr (hcl kk hks l8 hN8 t (mI ht))
     specialize b4k ?_
     have e9:H9 p7=_:=s9 _ _ (s8 _ _ e7)
     exists ⟨a3m e9,?_⟩
     have ix:a8h (.ref p7) [.int (t:Int)] H9=fun Q=>∃ns,a1G ((O.map fun(n:Nat)=>(n:Int)).map V.int)=some ns/\ns.length<10000/\(t:Int)∈ns/\Q (.int (ns.idxOf (t:Int):Nat)) H9:=by
      unfold a8h
      simp only[e9]
     rw[ix]
     refine⟨_,b0t _,by rw[b5];omega,G5.mpr ⟨t,htO,rfl⟩,?_⟩
     rw[c1L]
     have hl2:=(small2 l8 (mI hN8)).1
     refine hR' _ _ hC9 (M9 ?_) ⟨?_,g9,fun b o e=>?_⟩
     ·rw[K6,b5,J0];omega
     ·unfold IL
      rw[b2X l8 (fun t=>O.idxOf t) j ht]
      simp
     ·rw[j7 (d5 e hC)];exact s9 _ _ e
   ·rintro zs H9 ⟨rfl,hC9,s9⟩
    rw[K6,V6]at hC9
    refine hR _ _ (s9 _ _ hB8) (M9 (by rw[b5];have:=(gI ho);omega)) ⟨bs++[C],by simp,by simp[lb],?_,g9,fun b o e=>?_⟩
    ·have nCB:C≠B:=(d5 hB8 hC).symm
     intro j y l' h1 h2
     rcases a0J h1 with ⟨_,g1⟩ | ⟨hj,g1⟩
     ·obtain⟨g2,g3⟩:=at8 j y l' g1 h2
      exact⟨by rw[j7 g3];exact s9 _ _ g2,g3⟩
     ·rw[hj,lb]at h2
      subst g1
      refine⟨?_,nCB⟩
      rw[j7 nCB,hC9]
      have h2':(a6t N2 O)[i]? = some (l8.map fun t=>O.idxOf t):=by
       unfold a6t
       rw[c8,ho]
       simp[M3,hN8]
      rw[h2']at h2
      cases h2
      rfl
    ·rw[j7 (d5 e hB)]
     exact s9 _ _ (s8 _ _ e)
 ·rintro ys H8 ⟨bs,rfl,lb,at8,hB8,s8⟩
  rw[b5,b5]at lb
  have hlen:(a6t N2 O).length=O.length:=by simp[a6t]
  exact k B (a6t N2 O) H8 ⟨bs,hB8,by rw[lb,hlen],fun i x l h1 h2=>(at8 i x l h1 h2).1⟩ valid (by rw[hlen];exact hOl) (s07.trans s8)
structure G6(H:Hp)(a:Addr)(N:Nt):Prop where
 ex:∃rs:List Addr,H a=some (.lst (rs.map V.ref))/\rs.length=N.length/\∀(i:Nat) x l,rs[i]? = some x->N[i]? = some l->a5U H (.ref x) (l.length == 2)
theorem G6.same(h:G6 H a N)(k:t9 H H'):G6 H' a N:=by
 obtain⟨rs,h1,h2,h3⟩:=h.ex
 exact⟨rs,k a _ h1,h2,fun i x l e1 e2=>(h3 i x l e1 e2).ts (t9.ts k)⟩
theorem G6.kept(h:G6 H a N)(hB:Bag H b c)(k:z5 b H H'):G6 H' a N:=by
 obtain⟨rs,h1,h2,h3⟩:=h.ex
 exact⟨rs,k.1 a _ h1 (a1F hB h1),h2,fun i x l e1 e2=>(h3 i x l e1 e2).ts (z5.ts k hB)⟩
theorem G6.len(h:G6 H a N):∃xs,H a=some (.lst xs)/\xs.length=N.length:=by
 obtain⟨as,h1,h2,h3⟩:=h.ex
 exact⟨_,h1,by rw[b5,h2]⟩
theorem c1X{K:Fg}{E:XK}(hB:Bag H b c)
  (k:∀p ra na N H',H' p=some (.tup [.ref ra,.ref na])->G6 H' ra N->E7 H' na N->a5x N->N.length<=24->Bag H' b c->z5 b H H'->Q (.ref p) H'):a7k K [.ref b] H Q E:=by
 refine⟨rfl,?_⟩
 unfold b7l
 nofun
 exists D3 hB (by decide) (by decide) fun n1 H1 a0 a1 B1 k1=>?_
 exact_mod_cast Y7 (P:=fun σ H2=>∃m:Nat,σ=[some (.ref b),some (.int (m:Int)),none,none,none]/\0<m/\m<=24/\Bag H2 b c/\z5 b H H2) ?_ ?_
 rotate_left
 ·intro nx hnx
  ext
  exists D3 B1 (by decide) (by decide) fun n2 H2 b0 b1 B2 k2=>?_
  refine V1 (fun _=>?_) (fun _=>?_)
  ·ext
   exists D3 B2 (by decide) (by decide) fun n3 H3 c0 c1 B3 k3=>?_
   obtain⟨n3,rfl⟩:=K8 c0
   exact hnx _ _ ⟨15+n3,rfl,by omega,by omega,B3,(k1.trans k2).trans k3⟩
  ·ext
   obtain⟨n1,rfl⟩:=K8 a0
   exact hnx _ _ ⟨1+n1,rfl,by omega,by omega,B2,k1.trans k2⟩
 rintro _ H2 ⟨m,rfl,m0,m1,B2,k2⟩
 nofun
 exists c7a B2 m0 m1 fun a N0 H3 n3 l3 s3 z3 B3 k3=>?_
 exists b8X n3 (by omega) (by omega) (by rw[l3];exact s3) (by rw[l3];exact z3) fun na N H4 n4 v4 lN s4=>?_
 have B4:=B3.same s4
 have k4:z5 b H H4:=(k2.trans k3).trans (z5.of_same s4)
 nofun
 exists b4D B4 fun sa H5 N5 B5 k5 _=>?_
 have n5:=n4.kept B4 v4.two k5
 nofun
 specialize V7 (a0d ?_)
 exists D3 B5 (by decide) (by decide) fun n6 H6 d0 d1 B6 k6=>?_
 obtain⟨n6,rfl⟩:=K8 d0
 refine⟨1+n6,rfl,by omega,by omega,fun D hD=>?_⟩
 obtain⟨nb,nc⟩:=B6.nb hD
 have n6':=n5.kept B5 v4.two k6
 obtain⟨N6,_⟩:=N5.kept B5 k6
 refine a5t (fun i ys H7=>∃ps:List Addr,ys=ps.map V.ref/\ps.length=i/\(∀p∈ps,a8V H7 p)/\H7 D=some (.lst ys)/\Bag H7 b c/\z5 b H6 H7) ?_ ?_ ?_ ?_
 ·exact⟨[],rfl,rfl,by simp,g9,B6.new hD,z5.new hD⟩
 ·rintro i ys H7 ⟨_,_,_,_,h,_⟩
  exact h
 ·rintro i ys H7 hi ⟨ps,rfl,lp,hp,hD7,B7,k7⟩ R hR
  obtain⟨N7,_⟩:=N6.kept B6 k7
  ext
  refine b7M B7 N7 fun p H8 hd8 _ B8 k8=>?_
  have hD8:=k8.1 _ _ hD7 nb
  refine hR _ _ hD8 (M9 (by rw[b5];omega)) ⟨ps++[p],by simp,by simp[lp],fun q hq=>?_,g9,B8.put nb nc,(k7.trans k8).put hD⟩
  rcases y8.mp hq with z | z
  ·exact((hp q z).ts (z5.ts k8 B7)).ts (Z6.put hD8)
  ·rw[g6.mp z];exact hd8.ts (Z6.put hD8)
 rintro ys H7 ⟨ps,rfl,lp,hp,hD7,B7,k7⟩
 ext
 have P7:b2e H7 D:=⟨ps,hD7,by intro z;subst z;simp at lp;omega,by omega,hp⟩
 obtain⟨N7,_⟩:=N6.kept B6 k7
 have n7:=n6'.kept B6 v4.two k7
 have k07:z5 b H H7:=((k4.trans k5).trans k6).trans k7
 specialize V7 (Z1 ?_)
 obtain⟨as,q1,q2,q3⟩:=id n7.ex
 refine⟨na,rfl,⟨_,SqL.of q1⟩,fun R' hR'=>?_⟩
 obtain⟨rb,rc⟩:=B7.nb hR'
 refine U9 (xs:=as.map V.ref) (fun i ys H8=>∃rs:List Addr,ys=rs.map V.ref/\rs.length=i/\(∀(j:Nat) x l,rs[j]? = some x->N[j]? = some l->a5U H8 (.ref x) (l.length == 2))/\H8 R'=some (.lst ys)/\Bag H8 b c/\z5 b H7 H8) ?_ ?_ ?_ ?_ ?_
 ·exact⟨[],rfl,rfl,by simp,g9,B7.new hR',z5.new hR'⟩
 ·rintro i ys H8 ⟨_,_,_,_,h,_⟩
  exact h
 ·rintro i ys H8 _ ⟨_,_,_,_,_,_,k8⟩
  exact SqL.of (k8.1 _ _ q1 (a1F B7 q1))
 ·rintro i x ys H8 hx ⟨rs,rfl,lr,hr,hR8,B8,k8⟩ R hR
  rw[c8]at hx
  cases hxa:as[i]? with
  | none=>rw[hxa]at hx;cases hx
  | some xa=>
   rw[hxa]at hx
   cases hx
   have hi:i<N.length:=by rw[<-q2];exact(gI hxa)
   have n8:=n7.kept B7 v4.two k8
   have hx8:=q3 i xa _ hxa (L4 hi)
   have hx8:=k8.1 _ _ hx8 (a0P B7 hx8 (by rw[K6];have:=v4.two _ (C8 hi);omega))
   obtain⟨N8,_⟩:=N7.kept B7 k8
   have P8:=P7.kept B7 k8
   ext
   exists F2 hx8 ?_
   rw[K6]
   refine c0I B8 N8 P8 fun v H9 r9 B9 k9=>?_
   obtain⟨pv,xv,rfl,_⟩:=id r9
   have hR9:=k9.1 _ _ hR8 rb
   refine hR _ _ hR9 (M9 (by rw[b5];omega)) ⟨rs++[pv],by simp,by simp[lr],?_,g9,B9.put rb rc,(k8.trans k9).put hR'⟩
   intro j y l h1 h2
   rcases a0J h1 with ⟨_,g1⟩ | ⟨hj,g1⟩
   ·exact((hr j y l g1 h2).ts (z5.ts k9 B8)).ts (Z6.put hR9)
   ·rw[hj,lr,L4 hi]at h2
    cases h2
    subst g1
    exact r9.ts (Z6.put hR9)
 ·rintro ys H8 ⟨rs,rfl,lr,hr,hR8,B8,k8⟩
  rw[b5]at lr
  ext
  refine A2 (by simp) fun p H9 hp9 e9 s9=>?_
  exact k p R' na N H9 e9 ((⟨rs,hR8,by rw[lr,q2],hr⟩:G6 H8 R' N).same s9) ((n7.kept B7 v4.two k8).same s9) v4 lN (B8.same s9) ((k07.trans k8).trans (z5.of_same s9))
theorem big(h:n<=1000000):n<=t6:=F3 h (by rw[a3W];decide)
theorem a0X{K:Fg}{E:XK}(ha:H a=some (.lst xs))(h1:1<=xs.length)(h2:xs.length<=400)(k:Q .non H):Z5 K [.ref a,.int 0,.int 1] H Q E:=by
 refine⟨rfl,?_⟩
 unfold a5e
 nofun
 exists Y8 (s := "list") (by simp only[D9,ha]) (by decide) ?_
 exists A3 (by decide) ?_
 exists F2 ha ?_
 exists A3 (d0J (by omega)) ?_
 exists F2 ha ?_
 exists A3 (d0J (by omega)) ?_
 exact k
theorem a2c{K:Fg}{E:XK}(ha:H a=some (.lst (g7 n (V.bl true))))(k:∀H',t9 H H'->Q .non H'):a0a K [.ref a] H Q E:=by
 refine⟨rfl,?_⟩
 unfold a7i
 specialize a1o (a7q ?_)
 refine⟨a,rfl,⟨_,SqL.of ha⟩,?_⟩
 refine b7L n (fun i σ H2=>∃x1 x2,σ=[some (.ref a),x1,x2]/\t9 H H2) ⟨_,_,rfl,t9.refl _⟩ ?_ ?_ ?_
 ·rintro _ H2 ⟨x1,x2,rfl,s2⟩
  exact⟨⟨_,SqL.of (s2 _ _ ha),by simp⟩,k H2 s2⟩
 ·rintro i _ H2 hi ⟨x1,x2,rfl,s2⟩
  exact⟨_,V.bl true,SqL.of (s2 _ _ ha),by rw[D0,if_pos hi]⟩
 ·rintro i _ H2 hi ⟨x1,x2,rfl,s2⟩ x H3 ⟨p,y,hp,rfl,rfl,hy⟩
  have hy:=hy _ (SqL.of (s2 _ _ ha))
  rw[D0,if_pos hi]at hy
  cases hy
  exists a3p (SqT.of g9) ?_
  exists A3 rfl ?_
  exact⟨_,_,rfl,s2.trans (C5 hp)⟩
theorem a9L(n:Nat):g7 n (V.bl true)++[V.bl true]=g7 (n+1) (V.bl true):=by
 rw[a6R]
theorem c7d(h:n=0\/n=1):inV (.int (n:Int)) [.int 0,.int 1]=true:=by
 rcases h with rfl | rfl <;> decide
theorem a7M{K:Fg}{x:Addr}{E:XK}(hv:a5U H v (l.length == 2))(hx:H x=some (.lst (IL l)))(h2:l.length<=2)(hlt:∀t∈l,t<m)(k:∀H',t9 H H'->Q (.bl true) H') :
  W2 K [v,.ref x,.int (m:Int)] H Q E:=by
 obtain⟨p,xs,rfl,hp,_,kd,r,rfl,hk⟩:=hv
 refine⟨rfl,?_⟩
 unfold a3n
 nofun
 exists Y8 (s := "list") (by simp only[D9,hx]) (by decide) ?_
 exists A3 (by decide) ?_
 exact_mod_cast Y7 (P:=fun σ H1=>∃w ws,σ=[some (.ref p),some (.ref x),some (.int (m:Int)),some (.ref w)]/\H1 w=some (.tup ws)/\ws.all O7=true/\inV (.int (l.length:Int)) ws=true/\t9 H H1) ?_ ?_
 rotate_left
 ·intro nx hnx
  ext
  exists W3 hp (a3d _ _) ?_
  by_cases e:kd = "ask"
  ·exists D2 (d0K (by rw[e])) ?_
   refine A2 (by simp) fun w H1 hw e1 s1=>?_
   rw[d0K e]at hk
   have:l.length=2:=by simpa using hk.symm
   exact hnx _ _ ⟨w,_,rfl,e1,rfl,by rw[this];decide,s1⟩
  ·exists A3 (d0J (fun z=>e (V.str.inj z))) ?_
   refine A2 (by simp) fun w H1 hw e1 s1=>?_
   rw[d0J e]at hk
   have:¬l.length=2:=by
    intro z
    rw[z]at hk
    exact absurd hk (by decide)
   exact hnx _ _ ⟨w,_,rfl,e1,rfl,c7d (by omega),s1⟩
 rintro _ H1 ⟨w,ws,rfl,hw,fw,iw,s1⟩
 ext
 exists F2 (s1 _ _ hx) ?_
 rw[K6]
 refine b1H hw rfl fw ?_
 exists ⟨_,rfl,D2 iw ?_⟩
 specialize V7 (Z1 ?_)
 refine⟨x,rfl,⟨_,SqL.of (s1 _ _ hx)⟩,fun D hD=>?_⟩
 refine U9 (xs:=IL l) (fun i ys H2=>ys=g7 i (V.bl true)/\H2 D=some (.lst ys)/\t9 H1 H2) ⟨rfl,g9,C5 hD⟩ ?_ ?_ ?_ ?_
 ·rintro i ys H2 ⟨_,h,_⟩
  exact h
 ·rintro i ys H2 _ ⟨_,_,s2⟩
  exact SqL.of (s2 _ _ (s1 _ _ hx))
 ·rintro i y ys H2 hy ⟨rfl,hD2,s2⟩ R hR
  have hy:(l.map fun(n:Nat)=>V.int (n:Int))[i]? = some y:=hy
  rw[c8]at hy
  cases ht:l[i]? with
  | none=>rw[ht]at hy;cases hy
  | some t=>
   rw[ht]at hy
   cases hy
   have hi:=(gI ht)
   have:=hlt t (mI ht)
   ext
   refine b2W (by omega) (by omega) ?_
   refine hR _ _ hD2 (M9 (by rw[G0];omega)) ⟨a9L i,g9,fun b o e=>?_⟩
   rw[j7 (d5 e hD)];exact s2 _ _ e
 ·rintro ys H2 ⟨rfl,hD2,s2⟩
  ext
  have e:g7 (IL l).length (V.bl true)=(g7 l.length true).map V.bl:=by rw[K6];simp
  rw[e]at hD2
  refine c5g hD2 ?_
  have:(g7 l.length true).all id=true:=by simp
  rw[this]
  exact k H2 (s1.trans s2)
theorem a5u{K:Fg}{E:XK}(hr:G6 H ra N)(hn:E7 H na N)(h400:N.length<=400)(h2:∀l∈N,l.length<=2)(hlt:∀l∈N,∀t∈l,t<N.length)(k:∀H',t9 H H'->Q .non H') :
  a0p K [.ref ra,.ref na] H Q E:=by
 obtain⟨rs,r1,r2,r3⟩:=id hr.ex
 obtain⟨as,a1,a2,a3⟩:=id hn.ex
 refine⟨rfl,?_⟩
 unfold a6d
 nofun
 exists Y8 (s := "list") (by simp only[D9,a1]) (by decide) ?_
 exists A3 (by decide) ?_
 exists F2 a1 ?_
 exists F2 r1 ?_
 exists A3 (by rw[b5,b5,r2,a2];simp) ?_
 specialize b2A (c0E ?_)
 refine⟨ra,na,rfl,⟨_,SqL.of r1⟩,⟨_,SqL.of a1⟩,fun D hD=>?_⟩
 refine b6P N.length (fun i ys H2=>ys=g7 i (V.bl true)/\H2 D=some (.lst ys)/\t9 H H2) ⟨rfl,g9,C5 hD⟩ ?_ ?_ ?_ ?_
 ·rintro i ys H2 ⟨_,h,_⟩
  exact h
 ·rintro ys H2 ⟨rfl,hD2,s2⟩
  exists ⟨⟨_,_,SqL.of (s2 _ _ r1),SqL.of (s2 _ _ a1),.inl (by rw[b5,r2];exact j9 _)⟩,?_⟩
  exact a2c hD2 fun H3 s3=>k H3 (s2.trans s3)
 ·rintro i ys H2 hi ⟨_,_,s2⟩
  have e1:rs[i]? = some (rs[i]'(by omega)):=by simp[r2,hi]
  have e2:as[i]? = some (as[i]'(by omega)):=by simp[a2,hi]
  exact⟨_,_,_,_,SqL.of (s2 _ _ r1),SqL.of (s2 _ _ a1),by rw[c8,e1];rfl,by rw[c8,e2];rfl⟩
 ·rintro i ys H2 hi ⟨rfl,hD2,s2⟩ x H3 ⟨p,y1,y2,hp,rfl,rfl,g1,g2⟩
  obtain⟨rx,e1⟩:∃rx,rs[i]? = some rx:=⟨_,j6 (by omega)⟩
  obtain⟨ax,e2⟩:∃ax,as[i]? = some ax:=⟨_,j6 (by omega)⟩
  have g1:=g1 _ (SqL.of (s2 _ _ r1))
  have g2:=g2 _ (SqL.of (s2 _ _ a1))
  rw[c8,e1]at g1
  rw[c8,e2]at g2
  cases g1
  cases g2
  refine⟨p,_,_,rfl,SqT.of g9,fun R S hR hS=>?_⟩
  have s3:t9 H2 (upd H2 p (.tup [V.ref rx,V.ref ax])):=C5 hp
  obtain⟨H3,hH3⟩:∃H3,H3=upd H2 p (.tup [V.ref rx,V.ref ax]):=⟨_,rfl⟩
  rw[<-hH3]at s3 ⊢
  ext
  exists D2 rfl ?_
  have s03:=s2.trans s3
  exists F2 (s03 _ _ r1) ?_
  have hl:=L4 hi
  rw[b5,r2]
  refine a7M ((r3 i _ _ e1 hl).ts (t9.ts s03)) (s03 _ _ (a3 i _ _ e2 hl)) (h2 _ (C8 hi)) (hlt _ (C8 hi)) fun H4 s4=>?_
  refine hR _ _ (s4 _ _ (s3 _ _ hD2)) (M9 (by rw[G0];omega)) ⟨a9L i,g9,fun b o e=>?_⟩
  rw[j7 (d5 e hD)];exact s4 _ _ (s03 _ _ e)
def a3F(N:Nt)(k:Nat):Bool:=(N.getD k []).isEmpty
def a6u(N:Nt):List Nat:=(u7 N.length).filter (a3F N)
theorem b1N{k:Nat}(h:N[k]? = some []):k∈a6u N:=by
 refine U0.mpr ⟨G8.mpr (gI h),?_⟩
 unfold a3F
 simp[M3,h]
theorem a8K{K:Fg}{E:XK}(hn:E7 H na N)(h400:N.length<=400)(k:∀a H',H a=none->H' a=some (.lst (IL (a6u N)))->t9 H H'->Q (.ref a) H'):a2k K [.ref na] H Q E:=by
 obtain⟨as,a1,a2,a3⟩:=id hn.ex
 refine⟨rfl,?_⟩
 unfold a9M
 ext
 specialize b2A (a7q ?_)
 refine⟨na,rfl,⟨_,SqL.of a1⟩,fun D hD=>?_⟩
 refine b6P N.length (fun i ys H2=>ys=IL ((u7 i).filter (a3F N))/\H2 D=some (.lst ys)/\t9 H H2) ⟨rfl,g9,C5 hD⟩ ?_ ?_ ?_ ?_
 ·rintro i ys H2 ⟨_,h,_⟩
  exact h
 ·rintro ys H2 ⟨rfl,hD2,s2⟩
  exact⟨⟨_,SqL.of (s2 _ _ a1),by rw[b5,a2];exact j9 _⟩,k D H2 hD hD2 s2⟩
 ·rintro i ys H2 hi ⟨_,_,s2⟩
  exact⟨_,_,SqL.of (s2 _ _ a1),by rw[c8,j6 (show i<as.length by omega)];rfl⟩
 ·rintro i ys H2 hi ⟨rfl,hD2,s2⟩ x H3 ⟨p,y,hp,rfl,rfl,g1⟩
  obtain⟨ax,e1⟩:∃ax,as[i]? = some ax:=⟨_,j6 (by omega)⟩
  have g1:=g1 _ (SqL.of (s2 _ _ a1))
  rw[c8,e1]at g1
  cases g1
  refine⟨p,_,_,rfl,SqT.of g9,fun R S hR hS=>?_⟩
  have s3:t9 H2 (upd H2 p (.tup [V.int (i:Int),V.ref ax])):=C5 hp
  obtain⟨H3,hH3⟩:∃H3,H3=upd H2 p (.tup [V.int (i:Int),V.ref ax]):=⟨_,rfl⟩
  rw[<-hH3]at s3 ⊢
  have s03:=s2.trans s3
  have hl:=L4 hi
  ext
  exists F2 (s03 _ _ (a3 i _ _ e1 hl)) ?_
  have hst:a3F N i=decide (V.int ((IL N[i]).length:Int)=V.int 0):=by
   rw[b1V,K6]
   unfold a3F
   simp only[M3,hl,a2v]
   cases N[i] with
   | nil=>rfl
   | cons a r=>
    rw[List.isEmpty_cons,eq_comm,decide_eq_false_iff_not,z9]
    omega
  rw[<-hst]
  cases hb:a3F N i with
  | true=>
   exists D2 rfl ?_
   refine hR _ _ (s3 _ _ hD2) (M9 ?_) ⟨?_,g9,fun b o e=>?_⟩
   ·rw[K6]
    have:=a0w (a3F N) (u7 i)
    rw[a2e]at this
    omega
   ·rw[a1M,a1P]
    unfold IL
    rw[Q3]
    congr 1
    simp[hb]
   ·rw[j7 (d5 e hD)];exact s03 _ _ e
  | false=>
   refine A3 rfl ?_
   refine hS _ ⟨?_,s3 _ _ hD2,s03⟩
   rw[a1M,a1P]
   simp[hb]
theorem c5k{α:Type}{l:List α}(nd:l.Nodup){x:α}(h1:l[i]? = some x)(h2:l[j]? = some x):i=j:=
 (List.getElem?_inj (gI h1) nd).mp (h1.trans h2.symm)
structure a5y(H0 H:Hp)(a:Addr)(as:List Addr)(M:Nt):Prop where
 same:t9 H0 H
 h:H a=some (.lst (as.map V.ref))
 len:as.length=M.length
 nd:as.Nodup
 na:a∉as
 at_:∀(i:Nat) x l,as[i]? = some x->M[i]? = some l->H x=some (.lst (IL l))
 new:H0 a=none/\∀x∈as,H0 x=none
theorem a5y.next(h:a5y H0 H a as M)(s:t9 H H'):a5y H0 H' a as M:=
 ⟨h.same.trans s,s _ _ h.h,h.len,h.nd,h.na,fun i x l e1 e2=>s _ _ (h.at_ i x l e1 e2),h.new⟩
theorem a5y.add(h:a5y H0 H a as M){p:Nat}{x:Addr}(e1:as[t]? = some x)(e2:M[t]? = some l) :
  a5y H0 (upd H x (.lst (IL (l++[p])))) a as (M.set t (l++[p])):=by
 have hx:=mI e1
 have hxa:x≠a:=fun z=>h.na (z ▸ hx)
 refine⟨fun b o e=>by rw[j7 (d5 e (h.new.2 x hx))];exact h.same b o e,by rw[j7 hxa.symm];exact h.h,by rw[v8];exact h.len,h.nd,h.na,fun i y l' f1 f2=>?_,h.new⟩
 by_cases e:i=t
 ·subst e
  rw[e1]at f1
  cases f1
  rw[D5 (gI e2)]at f2
  cases f2
  exact g9
 ·rw[C9 (Ne.symm e)]at f2
  have:y≠x:=by
   rintro rfl
   exact e (c5k h.nd f1 e1)
  rw[j7 this]
  exact h.at_ i y l' f1 f2
theorem a5y.net(h:a5y H0 H a as M):E7 H a M:=⟨as,h.h,h.len,h.at_⟩
theorem a5y.nil(n:H0 a=none)(s:t9 H0 H)(e:H a=some (.lst [])):a5y H0 H a [] []:=⟨s,e,rfl,by simp,by simp,by simp,n,by simp⟩
theorem a5y.snoc(h:a5y H0 H a as M)(hp:H p=none)(ep:H' p=some (.lst (IL [])))(s:t9 H H') :
  a5y H0 (upd H' a (.lst ((as++[p]).map V.ref))) a (as++[p]) (M++[[]]):=by
 have npa:p≠a:=(d5 h.h hp).symm
 have npas:p∉as:=fun z=>by
  obtain⟨i,hi⟩:=E4.mp z
  have hl:i<M.length:=by rw[<-h.len];exact(gI hi)
  have:=h.at_ i p _ hi (L4 hl)
  rw[hp]at this
  cases this
 have fr0:H0 p=none:=h.same.free hp
 refine⟨fun b o e=>by rw[j7 (d5 e h.new.1)];exact s _ _ (h.same b o e),g9,by simp[h.len],?_,?_,fun i x l f1 f2=>?_,h.new.1,fun x hx=>?_⟩
 ·rw[c4N]
  exact⟨h.nd,by simp,fun x hx y hy=>by rw[g6.mp hy];intro z;exact npas (z ▸ hx)⟩
 ·intro z
  rcases y8.mp z with q | q
  ·exact h.na q
  ·exact npa (g6.mp q).symm
 ·rcases a0J f1 with ⟨hi,g1⟩ | ⟨hi,g1⟩
  ·rcases a0J f2 with ⟨hj,g2⟩ | ⟨hj,g2⟩
   ·have:x≠a:=fun z=>h.na (z ▸ mI g1)
    rw[j7 this]
    exact s _ _ (h.at_ i x l g1 g2)
   ·have:=h.len;omega
  ·rcases a0J f2 with ⟨hj,g2⟩ | ⟨hj,g2⟩
   ·have:=h.len;omega
   ·subst g1 g2
    rw[j7 npa]
    exact ep
 ·rcases y8.mp hx with q | q
  ·exact h.new.2 x q
  ·rw[g6.mp q];exact fr0
theorem b7p{u:Nat}{l':List Nat}(h:(M.set t l)[u]? = some l'):(u=t/\l'=l)\/(u≠t/\M[u]? = some l'):=by
 by_cases e:u=t
 ·subst e
  have hl:=(gI h)
  rw[v8]at hl
  rw[D5 hl]at h
  exact .inl ⟨rfl,(Option.some.inj h).symm⟩
 ·rw[C9 (Ne.symm e)]at h
  exact .inr ⟨e,h⟩
theorem b1w{K:Fg}{E:XK}(hn:E7 H na N)(h400:N.length<=400)(h2:∀l∈N,l.length<=2)(hlt:∀l∈N,∀t∈l,t<N.length)
  (k:∀a M H',E7 H' a M->M.length=N.length->(∀(p:Nat) (l:List Nat),N[p]? = some l->∀t∈l,∃l',M[t]? = some l'/\p∈l')->(∀l∈M,l.length<=2 * N.length/\∀p∈l,p<N.length)->(∀(t:Nat) (l':List Nat),M[t]? = some l'->∀p∈l',∃l,N[p]? = some l/\t∈l)->t9 H H'->Q (.ref a) H'):a3Q K [.ref na] H Q E:=by
 obtain⟨ns,a1,a2,a3⟩:=id hn.ex
 refine⟨rfl,?_⟩
 unfold b3P
 exact_mod_cast Y6 ?_
 specialize V7 (Z1 ?_)
 refine⟨na,rfl,⟨_,SqL.of a1⟩,fun A hA=>?_⟩
 refine U9 (xs:=ns.map V.ref) (fun i ys H2=>∃as,ys=as.map V.ref/\a5y H H2 A as (g7 i [])) ?_ ?_ ?_ ?_ ?_
 ·exact⟨[],rfl,.nil hA (C5 hA) g9⟩
 ·rintro i ys H2 ⟨as,rfl,I⟩
  exact I.h
 ·rintro i ys H2 _ ⟨as,rfl,I⟩
  exact SqL.of (I.same _ _ a1)
 ·rintro i x ys H2 hx ⟨as,rfl,I⟩ R hR
  have hi:i<N.length:=by
   have:=(gI hx)
   rw[b5,a2]at this
   exact this
  ext
  refine A2 (by simp) fun p H3 hp e3 s3=>?_
  have:=I.len
  rw[G0]at this
  refine hR _ _ (s3 _ _ I.h) (M9 (by rw[b5];omega)) ⟨as++[p],by simp,?_⟩
  have q:=I.snoc hp e3 s3
  rw[show g7 i ([]:List Nat)++[[]]=g7 (i+1) [] from by rw[a6R]]at q
  rw[show as.map V.ref++[V.ref p]=(as++[p]).map V.ref by simp]
  exact q
 rintro ys H2 ⟨as,rfl,I2⟩
 rw[b5,a2]at I2
 ext
 exact_mod_cast Y6 ?_
 specialize a1o (a7q ?_)
 refine⟨na,rfl,⟨_,SqL.of (I2.same _ _ a1)⟩,?_⟩
 refine b7L N.length (fun i σ H3=>∃x2 x3 x4 M,σ=[some (.ref na),some (.ref A),x2,x3,x4]/\a5y H H3 A as M/\M.length=N.length/\(∀(p:Nat) (l:List Nat),p<i->N[p]? = some l->∀t∈l,∃l',M[t]? = some l'/\p∈l')/\(∀l∈M,l.length<=2 * i/\∀p∈l,p<N.length)/\(∀(t:Nat) (l':List Nat),M[t]? = some l'->∀p∈l',∃l,N[p]? = some l/\t∈l)) ?_ ?_ ?_ ?_
 ·exact⟨_,_,_,_,rfl,I2,by simp,by omega,fun l hl=>by rw[b5s hl];simp,fun t l' e p hp=>by rw[b5s (mI e)]at hp;cases hp⟩
 ·rintro _ H3 ⟨x2,x3,x4,M,rfl,I3,lM,g1,g2,g3⟩
  exists ⟨⟨_,SqL.of (I3.same _ _ a1),by rw[b5,a2];exact j9 _⟩,?_⟩
  exact k A M H3 I3.net lM (fun p l hl=>g1 p l (gI hl) hl) g2 g3 I3.same
 ·rintro i _ H3 hi ⟨x2,x3,x4,M,rfl,I3,lM,g1,g2,g3⟩
  exact⟨_,_,SqL.of (I3.same _ _ a1),by rw[c8,j6 (show i<ns.length by omega)];rfl⟩
 ·rintro i _ H3 hi ⟨x2,x3,x4,M,rfl,I3,lM,g1,g2,g3⟩ x H4 ⟨p,y,hp,rfl,rfl,gy⟩
  obtain⟨nx,e1⟩:∃nx,ns[i]? = some nx:=⟨_,j6 (by omega)⟩
  have gy:=gy _ (SqL.of (I3.same _ _ a1))
  rw[c8,e1]at gy
  cases gy
  refine a3p (SqT.of g9) ?_
  have s4:t9 H3 (upd H3 p (.tup [V.int (i:Int),V.ref nx])):=C5 hp
  obtain⟨H4,hH4⟩:∃H4,H4=upd H3 p (.tup [V.int (i:Int),V.ref nx]):=⟨_,rfl⟩
  rw[<-hH4]at s4 ⊢
  have I4:=I3.next s4
  have hl:=L4 hi
  obtain⟨l,hle⟩:∃l,l=N[i]:=⟨_,rfl⟩
  rw[<-hle]at hl
  have hx:H nx=some (.lst (IL l)):=a3 i nx l e1 hl
  have hll:=h2 l (mI hl)
  specialize a1o (Z1 ?_)
  refine⟨nx,rfl,⟨_,SqL.of (I4.same _ _ hx)⟩,a7G (xs:=IL l) (fun j σ H5=>∃x4 M',σ=[some (.ref na),some (.ref A),some (.int (i:Int)),some (.ref nx),x4]/\a5y H H5 A as M'/\M'.length=N.length/\(∀(p:Nat) (l:List Nat),p<i->N[p]? = some l->∀t∈l,∃l',M'[t]? = some l'/\p∈l')/\(∀t∈l.take j,∃l',M'[t]? = some l'/\i∈l')/\(∀l∈M',l.length<=2 * i+j/\∀p∈l,p<N.length)/\(∀(t:Nat) (l':List Nat),M'[t]? = some l'->∀p∈l',∃l,N[p]? = some l/\t∈l)) ?_ ?_ ?_ ?_⟩
  ·exact⟨_,M,rfl,I4,lM,g1,by simp,g2,g3⟩
  ·rintro j σ H5 _ ⟨_,_,_,I5,_⟩
   exact SqL.of (I5.same _ _ hx)
  ·rintro j y _ H5 hy ⟨x4,M',rfl,I5,lM',c1,c2,c3,c4⟩
   have hy:(l.map fun(n:Nat)=>V.int (n:Int))[j]? = some y:=hy
   rw[c8]at hy
   cases ht:l[j]? with
   | none=>rw[ht]at hy;cases hy
   | some t=>
    rw[ht]at hy
    cases hy
    have tm:=mI ht
    have hj:=(gI ht)
    have htn:t<N.length:=hlt l (mI hl) t tm
    ext
    obtain⟨z,hz⟩:∃z,as[t]? = some z:=⟨_,j6 (by have:=I5.len;omega)⟩
    have hMt:=L4 (show t<M'.length by omega)
    have hMz:=I5.at_ t z _ hz hMt
    specialize b4k ?_
    refine J9 I5.h (a0g (by rw[c8,hz];rfl)) ?_
    exists ⟨a3m hMz,?_⟩
    have hb:=c3 _ (C8 (show t<M'.length by omega))
    refine a7w hMz (M9 (by rw[K6];omega)) ?_
    refine⟨_,M'.set t (M'[t]++[i]),rfl,?_,by rw[v8];exact lM',?_,?_,?_,?_⟩
    ·have:=I5.add (p:=i) hz hMt
     rw[show IL M'[t]++[V.int (i:Int)]=IL (M'[t]++[i]) by simp[IL]]
     exact this
    ·intro p' l' hp' hl' u hu
     obtain⟨l'',q1,q2⟩:=c1 p' l' hp' hl' u hu
     by_cases e:u=t
     ·subst e
      rw[hMt]at q1
      cases q1
      exact⟨_,D5 (by omega),A4 _ q2⟩
     ·exact⟨l'',by rw[C9 (Ne.symm e)];exact q1,q2⟩
    ·intro u hu
     rw[K0,ht]at hu
     by_cases e:u=t
     ·subst e
      exact⟨_,D5 (by omega),by simp⟩
     ·rcases y8.mp hu with q | q
      ·obtain⟨l'',q1,q2⟩:=c2 u q
       exact⟨l'',by rw[C9 (Ne.symm e)];exact q1,q2⟩
      ·exact absurd (by simpa using q) e
    ·intro l' hl'
     obtain⟨u,hu⟩:=E4.mp hl'
     rcases b7p hu with ⟨_,rfl⟩ | ⟨_,q⟩
     ·refine⟨by rw[u9,O3];omega,fun p' hp'=>?_⟩
      rcases y8.mp hp' with q | q
      ·exact hb.2 p' q
      ·rw[g6.mp q];exact hi
     ·obtain⟨r1,r2⟩:=c3 l' (mI q)
      exact⟨by omega,r2⟩
    ·intro u l' hu q hq
     rcases b7p hu with ⟨rfl,rfl⟩ | ⟨_,z⟩
     ·rcases y8.mp hq with z | z
      ·exact c4 _ _ hMt q z
      ·rw[g6.mp z];exact⟨l,hl,tm⟩
     ·exact c4 u l' z q hq
  ·rintro _ H5 ⟨x4,M',rfl,I5,lM',c1,c2,c3,c4⟩
   rw[K6,V6]at c2
   refine⟨_,_,x4,M',rfl,I5,lM',fun p' l' hp' hl' t ht=>?_,fun l' hl'=>?_,fun t l' hl' q hq=>?_⟩
   ·by_cases e:p'=i
    ·subst e
     rw[hl]at hl'
     cases hl'
     exact c2 t ht
    ·exact c1 p' l' (by omega) hl' t ht
   ·obtain⟨r1,r2⟩:=c3 l' hl'
    rw[K6]at r1
    exact⟨by omega,r2⟩
   ·exact c4 t l' hl' q hq
theorem a4i{K:Fg}{ba la:Addr}{bs:List Nat}{B:Nat}{E:XK}(hb:H ba=some (.lst (IL bs)))(hm:E7 H la M)(h400:M.length<=400)(hB:B<=800)(hl:∀l∈M,l.length<=B/\∀t∈l,t<M.length)(hbs:∀x∈bs,x<M.length)(lb:bs.length<=400)(P:Nat->Prop)(p0:∀x∈bs,P x)(p1:∀k l,P k->M[k]? = some l->∀t∈l,P t)
  (k:∀d S H',H' d=some (.dK (KS S))->S.Nodup->(∀x∈S,x<M.length)->(∀x∈bs,x∈S)->a6O M S->(∀x∈S,P x)->t9 H H'->Q (.ref d) H'):a1b K [.ref ba,.ref la] H Q E:=by
 refine⟨rfl,?_⟩
 unfold b1y
 nofun
 exists b2z fun d H1 hd e1 s1=>?_
 nofun
 exists b2B (s1 _ _ hb) fun w H2 hw e2 s2=>?_
 have s02:=s1.trans s2
 have hw0:H w=none:=s1.free hw
 have ndw:d≠w:=d5 e1 hw
 exact_mod_cast Y6 ?_
 exact_mod_cast c2Z ?_
 refine⟨fun m σ H3=>∃x4 ws S,σ=[some (.ref ba),some (.ref la),some (.ref d),some (.ref w),x4]/\H3 w=some (.lst (IL ws))/\H3 d=some (.dK (KS S))/\t9 H H3/\S.Nodup/\(∀x∈S,x<M.length)/\(∀x∈ws,x<M.length/\P x)/\(∀x∈S,P x) /\
  (∀x∈bs,x∈S\/x∈ws)/\(∀k∈S,∀l,M[k]? = some l->∀t∈l,t∈S\/t∈ws)/\ws.length<=400+S.length * B/\m=(M.length - S.length) * (B+1)+ws.length,?_,?_⟩
 ·exact⟨_,_,bs,[],rfl,e2,s2 _ _ e1,s02,by simp,by simp,fun x hx=>⟨hbs x hx,p0 x hx⟩,by simp,fun x hx=>.inr hx,by simp,by omega,rfl⟩
 rintro m _ H3 ⟨x4,ws,S,rfl,hw3,hd3,s3,nd,hS,hws,hP,c1,c2,c3,rfl⟩
 ext
 exists F2 hw3 ?_
 have hSl:=a7A _ _ nd hS
 rcases b5I ws with rfl | ⟨r,p,rfl⟩
 ·exists A3 (d0J (by rw[K6];simp)) ?_
  refine k d S H3 hd3 nd hS (fun x hx=>(c1 x hx).elim id fun z=>by simp at z) (fun a ha l hl' t ht=>(c2 a ha l hl' t ht).elim id fun z=>by simp at z) hP s3
 refine D2 (d0K (by rw[K6,u9,O3];omega)) ?_
 have hp:p<M.length:=(hws p (by simp)).1
 have hPp:P p:=(hws p (by simp)).2
 have eIL:IL (r++[p])=IL r++[V.int (p:Int)]:=by simp[IL]
 rw[eIL]at hw3
 refine⟨fun σ H4=>∃m' x4 ws S',σ=[some (.ref ba),some (.ref la),some (.ref d),some (.ref w),x4]/\H4 w=some (.lst (IL ws))/\H4 d=some (.dK (KS S'))/\t9 H H4/\S'.Nodup/\(∀x∈S',x<M.length)/\(∀x∈ws,x<M.length/\P x)/\(∀x∈S',P x) /\
  (∀x∈bs,x∈S'\/x∈ws)/\(∀k∈S',∀l,M[k]? = some l->∀t∈l,t∈S'\/t∈ws)/\ws.length<=400+S'.length * B/\m'=(M.length - S'.length) * (B+1)+ws.length/\m'<(M.length - S.length) * (B+1)+(r++[p]).length,?_,?_⟩
 ·rintro σ' H4 ⟨m',x4,ws,S',e,r1,r2,r3,r4,r5,r6,r6',r7,r8,r9,r10,r11⟩
  exact⟨m',r11,x4,ws,S',e,r1,r2,r3,r4,r5,r6,r6',r7,r8,r9,r10⟩
 nofun
 specialize c8d ?_
 exists ⟨a3m hw3,c8j hw3 ?_⟩
 have sW:t9 H (upd H3 w (.lst (IL r))):=fun b o e=>by rw[j7 (d5 e hw0)];exact s3 b o e
 have hdW:(upd H3 w (.lst (IL r))) d=some (.dK (KS S)):=by rw[j7 ndw];exact hd3
 have hwW:(upd H3 w (.lst (IL r))) w=some (.lst (IL r)):=g9
 obtain⟨H4,hH4⟩:∃H4,H4=upd H3 w (.lst (IL r)):=⟨_,rfl⟩
 rw[<-hH4]at sW hdW hwW ⊢
 rw[u9,O3]at c3 ⊢
 specialize a2o ?_
 obtain⟨o,g1,g2⟩:=a0B hdW p
 refine⟨d,o,rfl,g1,?_⟩
 rw[g2]
 ext
 by_cases hps:p∈S
 ·exists A3 (by rw[d0K hps];rfl) ?_
  refine⟨_,_,r,S,rfl,hwW,hdW,sW,nd,hS,fun x hx=>hws x (A4 _ hx),hP,fun x hx=>?_,fun a ha l hl' t ht=>?_,by omega,rfl,by omega⟩
  ·rcases c1 x hx with z | z
   ·exact .inl z
   ·rcases y8.mp z with q | q
    ·exact .inr q
    ·exact .inl (g6.mp q ▸ hps)
  ·rcases c2 a ha l hl' t ht with z | z
   ·exact .inl z
   ·rcases y8.mp z with q | q
    ·exact .inr q
    ·exact .inl (g6.mp q ▸ hps)
 refine D2 (by rw[d0J hps];rfl) ?_
 obtain⟨xs,y,f1,f2,f3,_⟩:=(hm.same sW).at (L4 hp)
 obtain⟨l,hle⟩:∃l,l=M[p]:=⟨_,rfl⟩
 have hlp:M[p]? = some l:=by rw[hle];exact L4 hp
 rw[<-hle]at f3
 obtain⟨b1,b2⟩:=hl l (mI hlp)
 have hput:Y5 S p=S++[p]:=by unfold Y5;rw[if_neg hps]
 have hS1:S.length<M.length:=by
  have:=a7A _ _ (a7z (k:=p) nd) fun x hx=>(U8.mp hx).elim (hS x) fun z=>z ▸ hp
  rw[hput,u9,O3]at this
  omega
 exact_mod_cast Y6 ?_
 specialize b0b ?_
 refine⟨d,_,rfl,a7J hdW (by omega) p,?_⟩
 rw[hput]
 obtain⟨H5,hH5⟩:∃H5,H5=upd H4 d (.dK (KS (S++[p]))):=⟨_,rfl⟩
 have hd5:H5 d=some (.dK (KS (S++[p]))):=hH5 ▸ g9
 have oth:∀b o,H4 b=some o->b≠d->H5 b=some o:=fun b o e n=>by rw[hH5,j7 n];exact e
 have s5:t9 H H5:=fun b o e=>oth b o (sW b o e) (d5 e hd)
 rw[<-hH5]
 have hw5:=oth w _ hwW (Ne.symm ndw)
 have fx5:=oth _ _ f1 (T7 f1 hdW (by intro z;cases z))
 have fy5:=oth _ _ f3 (T7 f3 hdW (by intro z;cases z))
 ext
 specialize b4k ?_
 exists ⟨a3m hw5,?_⟩
 refine J9 fx5 f2 ?_
 have hSB:S.length * B<=400 * 800:=Nat.mul_le_mul (by omega) hB
 ext
 refine b4n hw5 fy5 (big (by rw[K6,K6];omega)) ?_
 have e6:IL r++IL l=IL (r++l):=by simp[IL]
 rw[e6]
 ext
 have key:(M.length - (S.length+1)) * (B+1)+(B+1)=(M.length - S.length) * (B+1):=by
  rw[<-b9A]
  congr 1
  omega
 refine⟨_,_,r++l,S++[p],rfl,g9,by rw[j7 ndw];exact hd5,fun b o e=>by rw[j7 (d5 e hw0)];exact s5 b o e,hput ▸ a7z nd,fun x hx=>?_,fun x hx=>?_,fun x hx=>(y8.mp hx).elim (hP x) fun q=>g6.mp q ▸ hPp,fun x hx=>?_,fun a ha l' hl' t ht=>?_,?_,rfl,?_⟩
 ·rcases y8.mp hx with q | q
  ·exact hS x q
  ·rw[g6.mp q];exact hp
 ·rcases y8.mp hx with q | q
  ·exact hws x (A4 _ q)
  ·exact⟨b2 x q,p1 p l hPp hlp x q⟩
 ·rcases c1 x hx with z | z
  ·exact .inl (A4 _ z)
  ·rcases y8.mp z with q | q
   ·exact .inr (A4 _ q)
   ·exact .inl (u5 _ q)
 ·rcases y8.mp ha with q | q
  ·rcases c2 a q l' hl' t ht with z | z
   ·exact .inl (A4 _ z)
   ·rcases y8.mp z with u | u
    ·exact .inr (A4 _ u)
    ·exact .inl (u5 _ u)
  ·rw[g6.mp q,hlp]at hl'
   cases hl'
   exact .inr (u5 _ ht)
 ·rw[u9,u9,O3,b9A]
  omega
 ·rw[u9,u9,O3]
  omega
theorem b1d{K:Fg}{E:XK}(hn:E7 H na N)(hv:a5x N)(k:∀H',t9 H H'->Q .non H'):a0O K [.ref na] H Q E:=by
 refine⟨rfl,?_⟩
 unfold a7h
 nofun
 exists A2 (by simp) fun p1 H1 hp1 e1 s1=>?_
 exists a4i (bs:=[0]) (B:=2) e1 (hn.same s1) hv.le (by decide) (fun l hl=>⟨hv.two l hl,hv.lt l hl⟩) (by simpa using hv.pos) (by simp) (fun _=>True) (fun _ _=>trivial) (fun _ _ _ _ _ _=>trivial) fun d1 S1 H2 hd1 nd1 hS1 hb1 cl1 _ s2=>?_
 have in1:∀x,Rc N x->x∈S1:=by
  intro x h
  induction h with
  | zero=>exact hb1 0 (by simp)
  | @step a t l _ hl ht ih=>exact cl1 a ih l hl t ht
 nofun
 exists a8K ((hn.same s1).same s2) hv.le fun sa H3 _ e3 s3=>?_
 exists b1w (((hn.same s1).same s2).same s3) hv.le hv.two hv.lt fun ta M H4 m4 lM hM1 hM2 _ s4=>?_
 have lst:(a6u N).length<=N.length:=by
  have:=a0w (a3F N) (u7 N.length)
  rwa [a2e]at this
 have hle:=hv.le
 refine a4i (bs:=a6u N) (B:=2 * N.length) (s4 _ _ e3) m4 (by omega) (by omega) (fun l hl=>⟨(hM2 l hl).1,by rw[lM];exact(hM2 l hl).2⟩) (fun x hx=>by
  rw[lM]
  exact G8.mp (U0.mp hx).1) (by omega) (fun _=>True) (fun _ _=>trivial) (fun _ _ _ _ _ _=>trivial) fun d2 S2 H5 hd2 nd2 hS2 hb2 cl2 _ s5=>?_
 have in2:∀x,Gd N x->x∈S2:=by
  intro x h
  induction h with
  | @stop a h=>exact hb2 a (b1N h)
  | @step a t l h ht _ ih=>
   obtain⟨l',q1,q2⟩:=hM1 a l h t ht
   exact cl2 t ih l' q1 a q2
 have s05:=(((s1.trans s2).trans s3).trans s4).trans s5
 have hd1':H5 d1=_:=s5 _ _ (s4 _ _ (s3 _ _ hd1))
 obtain⟨ys,hy,ly⟩:=(hn.same s05).len
 ext
 specialize a1o (a0d ?_)
 refine F2 hy ?_
 refine⟨N.length,by rw[ly],by omega,by omega,?_⟩
 rw[z8]
 refine V9 (fun i σ H6=>∃x3,σ=[some (.ref na),some (.ref d1),some (.ref d2),x3]/\H6=H5) ⟨_,rfl,rfl⟩ ?_ ?_
 ·rintro i _ H6 hi ⟨x3,rfl,rfl⟩
  ext
  rw[V4]
  specialize a2o ?_
  obtain⟨o,g1,g2⟩:=a0B hd1' i
  refine⟨d1,o,rfl,g1,?_⟩
  rw[g2,d0K (in1 i (hv.rc i hi))]
  ext
  exists A3 rfl ?_
  specialize a2o ?_
  obtain⟨o',g1',g2'⟩:=a0B hd2 i
  refine⟨d2,o',rfl,g1',?_⟩
  rw[g2',d0K (in2 i (hv.gd i hi))]
  ext
  exists A3 rfl ?_
  exact⟨_,rfl,rfl⟩
 ·rintro _ H6 ⟨x3,rfl,rfl⟩
  exact k _ s05
abbrev Stp:=Int×Int
def FST:Stp:=(-1,0)
def a4e(N:Nt)(p:Nat):List Stp:=(u7 (N.getD p []).length).map fun(a:Nat)=>((p:Int),(a:Int))
def a6v(N:Nt)(i:Nat):List Stp:=FST::(u7 i).flatMap (a4e N)
def a2T(N:Nt):List Stp:=a6v N N.length
def a5r(N:Nt)(s:Stp):Nat:=if s=FST then 0 else (N.getD s.1.toNat []).getD s.2.toNat 0
theorem a8L(N:Nt)(i:Nat):a6v N (i+1)=a6v N i++a4e N i:=by
 unfold a6v
 rw[a1M,List.flatMap_append]
 simp
def b6X(N:Nt)(s:Stp):Prop:=s=FST\/∃(p q:Nat) (l:List Nat) (t:Nat),s=((p:Int),(q:Int))/\N[p]? = some l/\l[q]? = some t
theorem b9d{s:Stp}(h:s∈a2T N):b6X N s:=by
 rcases o0.mp h with z | z
 ·exact .inl z
 ·obtain⟨p,hp,q⟩:=List.mem_flatMap.mp z
  have hp:=G8.mp hp
  obtain⟨a,ha,rfl⟩:=G5.mp q
  have ha:=G8.mp ha
  have e:N.getD p []=N[p]:=by simp[M3,hp]
  rw[e]at ha
  exact .inr ⟨p,a,N[p],N[p][a],rfl,L4 hp,by simp⟩
theorem c4m{s:Stp}(hv:a5x N)(h:b6X N s):a5r N s<N.length:=by
 unfold a5r
 rcases h with rfl | ⟨p,q,l,t,rfl,h1,h2⟩
 ·rw[if_pos rfl];exact hv.pos
 ·split
  ·exact hv.pos
  ·have:(N.getD ((p:Int),(q:Int)).1.toNat []).getD ((p:Int),(q:Int)).2.toNat 0=t:=by
    show(N.getD (p:Int).toNat []).getD (q:Int).toNat 0=t
    rw[z8,z8]
    simp[M3,h1,h2]
   rw[this]
   exact hv.lt l (mI h1) t (mI h2)
def a6n(K:Fg)(H:Hp)(a:Addr)(s:Stp):Prop:=H a=some (.tup [.int s.1,.int s.2])\/(s=FST/\∀H,SqT K H a [.int (-1),.int 0])
theorem a6n.ts{K:Fg}{s:Stp}(h:a6n K H a s)(t:Z6 H H'):a6n K H' a s:=by
 rcases h with h | h
 ·exact .inl (t _ _ h)
 ·exact .inr h
theorem a6n.sq{K:Fg}{s:Stp}(h:a6n K H a s):SqT K H a [.int s.1,.int s.2]:=by
 rcases h with h | ⟨e,h⟩
 ·exact SqT.of h
 ·subst e;exact h H
structure a1I(K:Fg)(H:Hp)(l:Addr)(S:List Stp):Prop where
 ex:∃vs:List Addr,H l=some (.lst (vs.map V.ref))/\vs.length=S.length/\∀(i:Nat) x s,vs[i]? = some x->S[i]? = some s->a6n K H x s
theorem a1I.same{K:Fg}{l:Addr}{S:List Stp}(h:a1I K H l S)(s:t9 H H'):a1I K H' l S:=by
 obtain⟨vs,h1,h2,h3⟩:=h.ex
 exact⟨vs,s _ _ h1,h2,fun i x t e1 e2=>(h3 i x t e1 e2).ts (t9.ts s)⟩
theorem a1I.put{K:Fg}{l y:Addr}{S:List Stp}(h:a1I K H l S)(hy:H y=some (.lst xs))(n:l≠y):a1I K (upd H y (.lst ys)) l S:=by
 obtain⟨vs,h1,h2,h3⟩:=h.ex
 exact⟨vs,by rw[j7 n];exact h1,h2,fun i x t e1 e2=>(h3 i x t e1 e2).ts (Z6.put hy)⟩
theorem b3X{K:Fg}{c:Cn}{E:XK}(ck:a4A K c)(hn:E7 H na N)(h400:N.length<=400)(h2:∀l∈N,l.length<=2)
  (k:∀a H',H a=none->a1I K H' a (a2T N)->t9 H H'->Q (.ref a) H'):a3o K c [.ref na] H Q E:=by
 obtain⟨ns,a1,a2,a3⟩:=id hn.ex
 refine⟨rfl,?_⟩
 unfold a9N
 nofun
 exists A2 (by simp) fun D H1 hD e1 s1=>?_
 exact_mod_cast Y6 ?_
 specialize a1o (a7q ?_)
 refine⟨na,rfl,⟨_,SqL.of (s1 _ _ a1)⟩,?_⟩
 refine b7L N.length (fun i σ H2=>∃x2 x3 vs,σ=[some (.ref na),some (.ref D),x2,x3]/\H2 D=some (.lst ((vs:List Addr).map V.ref))/\vs.length=(a6v N i).length/\vs.length<=1+2 * i/\(∀(j:Nat) x s,vs[j]? = some x->(a6v N i)[j]? = some s->a6n K H2 x s)/\t9 H H2) ?_ ?_ ?_ ?_
 ·refine⟨_,_,[c.a1O],rfl,e1,rfl,by simp,fun j x s f1 f2=>?_,s1⟩
  cases j with
  | zero=>
   cases f1
   cases f2
   exact .inr ⟨rfl,ck.a7Q⟩
  | succ j=>simp at f1
 ·rintro _ H2 ⟨x2,x3,vs,rfl,hD2,lv,_,at2,s2⟩
  exists ⟨⟨_,SqL.of (s2 _ _ a1),by rw[b5,a2];exact j9 _⟩,?_⟩
  exact k D H2 hD ⟨vs,hD2,lv,at2⟩ s2
 ·rintro i _ H2 hi ⟨x2,x3,vs,rfl,hD2,lv,_,at2,s2⟩
  exact⟨_,_,SqL.of (s2 _ _ a1),by rw[c8,j6 (show i<ns.length by omega)];rfl⟩
 ·rintro i _ H2 hi ⟨x2,x3,vs,rfl,hD2,lv,lv2,at2,s2⟩ x H3 ⟨p,y,hp,rfl,rfl,gy⟩
  obtain⟨nx,f1⟩:∃nx,ns[i]? = some nx:=⟨_,j6 (by omega)⟩
  have gy:=gy _ (SqL.of (s2 _ _ a1))
  rw[c8,f1]at gy
  cases gy
  refine a3p (SqT.of g9) ?_
  have s3:t9 H2 (upd H2 p (.tup [V.int (i:Int),V.ref nx])):=C5 hp
  obtain⟨H3,hH3⟩:∃H3,H3=upd H2 p (.tup [V.int (i:Int),V.ref nx]):=⟨_,rfl⟩
  rw[<-hH3]at s3 ⊢
  have s03:=s2.trans s3
  have hl:=L4 hi
  obtain⟨l,hle⟩:∃l,l=N[i]:=⟨_,rfl⟩
  rw[<-hle]at hl
  have hll:=h2 l (mI hl)
  have hx:=s03 _ _ (a3 i nx l f1 hl)
  ext
  specialize b4k ?_
  exists ⟨a3m (s3 _ _ hD2),?_⟩
  specialize V7 (a0d ?_)
  refine F2 hx ?_
  rw[K6]
  refine⟨l.length,rfl,by omega,by omega,fun A hA=>?_⟩
  rw[z8]
  refine a5t (fun j ys H4=>∃ws:List Addr,ys=ws.map V.ref/\ws.length=j/\(∀(q:Nat) x,ws[q]? = some x->H4 x=some (.tup [.int (i:Int),.int (q:Int)]))/\H4 A=some (.lst ys)/\t9 H3 H4) ?_ ?_ ?_ ?_
  ·exact⟨[],rfl,rfl,by simp,g9,C5 hA⟩
  ·rintro j ys H4 ⟨_,_,_,_,h,_⟩
   exact h
  ·rintro j ys H4 hj ⟨ws,rfl,lw,at4,hA4,s4⟩ R hR
   ext
   refine A2 (by simp) fun z H5 hz e5 s5=>?_
   rw[V4]at e5
   have nzA:z≠A:=(d5 hA4 hz).symm
   refine hR _ _ (s5 _ _ hA4) (M9 (by rw[b5];omega)) ⟨ws++[z],by simp,by simp[lw],fun q x hq=>?_,g9,fun b o e=>?_⟩
   ·rcases a0J hq with ⟨_,g⟩ | ⟨hq',g⟩
    ·have:=s5 _ _ (at4 q x g)
     rw[j7 (T7 this (s5 _ _ hA4) (by intro z;cases z))]
     exact this
    ·subst g
     rw[j7 nzA,e5,hq',lw]
   ·rw[j7 (d5 e hA)];exact s5 _ _ (s4 _ _ e)
  ·rintro ys H4 ⟨ws,rfl,lw,at4,hA4,s4⟩
   ext
   have hD4:H4 D=_:=s4 _ _ (s3 _ _ hD2)
   have s04:=s03.trans s4
   refine b4n hD4 hA4 (big (by rw[b5,b5];omega)) ?_
   rw[<-Q3]
   have hon:a4e N i=(u7 l.length).map fun(a:Nat)=>((i:Int),(a:Int)):=by
    unfold a4e
    simp[M3,hl]
   have hU:=a8L N i
   have lon:(a4e N i).length=l.length:=by rw[hon];simp
   refine⟨_,_,vs++ws,rfl,g9,by rw[hU,u9,u9,lv,lw,lon],by rw[u9];omega,fun j x s g1 g2=>?_,fun b o e=>?_⟩
   ·rw[hU]at g2
    by_cases hj:j<vs.length
    ·rw[Q4 hj]at g1
     rw[Q4 (by omega)]at g2
     exact((at2 j x s g1 g2).ts (t9.ts (s3.trans s4))).ts (Z6.put hD4)
    ·rw[P6 (by omega)]at g1
     rw[P6 (by omega),<-lv,hon,c8]at g2
     have hq:j - vs.length<l.length:=by
      have:=(gI g1)
      omega
     rw[a3k hq]at g2
     cases g2
     have:=at4 _ _ g1
     exact .inl (by rw[j7 (T7 this hD4 (by intro z;cases z))];exact this)
   ·rw[j7 (d5 e hD)];exact s04 _ _ e
def c8U(c:Cn)(H:Hp)(x:Addr)(N:Nt):Prop:=∃dx fs n,H x=some (.ins c.V0 dx fs)/\fs.lookup ("nexts" : Str)=some (V.ref n)/\E7 H n N
theorem eq2(p q:Int):a0K [.int p,.int q] [.int (-1),.int 0]=decide ((p,q)=FST):=by
 unfold a0K
 simp only[z9,a3h,Nat.zero_add,Nat.reduceAdd,b9B]
 rw[show u7 2=[0,1] from rfl]
 simp only[b5t,c9c,c8X,M3,b7a,List.getElem?_cons_succ,a2v,beq_self_eq_true]
 unfold FST
 by_cases h:p = -1
 ·by_cases h':q=0
  ·subst h h';decide
  ·subst h
   simp[eqV,h']
 ·simp[eqV,h]
theorem b4I{K:Fg}{c:Cn}{x:Addr}{s:Stp}{E:XK}(ck:a4A K c)(hp:c8U c H x N)(ha:a6n K H a s)(hs:b6X N s)(k:Q (.int (a5r N s:Nat)) H):a0x K c [.ref x,.ref a] H Q E:=by
 refine⟨rfl,?_⟩
 unfold a4I
 nofun
 refine⟨_,_,_,_,rfl,rfl,ha.sq,ck.a7Q H,rfl,rfl,?_⟩
 rw[eq2]
 ext
 by_cases e:s=FST
 ·exists D2 (d0K e) ?_
  unfold a5r at k
  rw[if_pos e]at k
  exact k
 ·exists A3 (d0J e) ?_
  rcases hs with z | ⟨p,q,l,t,rfl,h1,h2⟩
  ·exact(e z).elim
  rcases ha with ha | ⟨z,_⟩
  rotate_left
  ·exact(e z).elim
  obtain⟨dx,fs,n,hx,hf,hn⟩:=hp
  specialize c0F ?_
  exists ⟨x,_,dx,fs,_,rfl,hx,ck.a3g,ck.a0T,hf,?_⟩
  refine W3 ha (a3d _ _) ?_
  obtain⟨xs,y,f1,f2,f3,_⟩:=hn.at h1
  exists J9 f1 f2 ?_
  refine W3 ha (a6N _ _ _) ?_
  refine J9 f3 (c5r h2) ?_
  have:a5r N ((p:Int),(q:Int))=t:=by
   unfold a5r
   rw[if_neg e]
   show(N.getD (p:Int).toNat []).getD (q:Int).toNat 0=t
   rw[z8,z8]
   simp[M3,h1,h2]
  rw[this]at k
  exact k
structure c2p(K:Fg)(H0 H:Hp)(e:Addr)(es:List Addr)(P:List (List Stp)):Prop where
 same:t9 H0 H
 h:H e=some (.lst (es.map V.ref))
 len:es.length=P.length
 nd:es.Nodup
 na:e∉es
 at_:∀(i:Nat) y S,es[i]? = some y->P[i]? = some S->a1I K H y S
 new:H0 e=none/\∀y∈es,H0 y=none
theorem c2p.add{K:Fg}{e:Addr}{es:List Addr}{P:List (List Stp)}(h:c2p K H0 H e es P){y:Addr}{S:List Stp}{s:Stp}{vs:List Addr}(e1:es[t]? = some y)(e2:P[t]? = some S)(hy:H y=some (.lst (vs.map V.ref)))
  (lv:vs.length=S.length) (at2:∀(i:Nat) x s,vs[i]? = some x->S[i]? = some s->a6n K H x s) (ha:a6n K H a s):c2p K H0 (upd H y (.lst ((vs++[a]).map V.ref))) e es (P.set t (S++[s])):=by
 have hm:=mI e1
 have ye:y≠e:=fun z=>h.na (z ▸ hm)
 refine⟨fun b o q=>by rw[j7 (d5 q (h.new.2 y hm))];exact h.same b o q,by rw[j7 ye.symm];exact h.h,by rw[v8];exact h.len,h.nd,h.na,fun i z S' f1 f2=>?_,h.new⟩
 by_cases q:i=t
 ·subst q
  rw[e1]at f1
  cases f1
  rw[D5 (gI e2)]at f2
  cases f2
  refine⟨vs++[a],g9,by simp[lv],fun j x s' g1 g2=>?_⟩
  rcases a0J g1 with ⟨_,k1⟩ | ⟨j1,k1⟩
  ·rcases a0J g2 with ⟨_,k2⟩ | ⟨j2,k2⟩
   ·exact(at2 j x s' k1 k2).ts (Z6.put hy)
   ·omega
  ·rcases a0J g2 with ⟨_,k2⟩ | ⟨j2,k2⟩
   ·omega
   ·subst k1 k2
    exact ha.ts (Z6.put hy)
 ·rw[C9 (Ne.symm q)]at f2
  have:z≠y:=by
   rintro rfl
   exact q (c5k h.nd f1 e1)
  exact(h.at_ i z S' f1 f2).put hy this
structure c9w(K:Fg)(c:Cn)(H:Hp)(x:Addr)(N:Nt):Prop where
 ex:∃dx r n e es,H x=some (.ins c.V0 dx [("rows",.ref r),("nexts",.ref n),("entries",.ref e)])/\G6 H r N/\E7 H n N/\H e=some (.lst ((es:List Addr).map V.ref))/\es.length=N.length /\
  ∀(t:Nat) y,es[t]? = some y->a1I K H y ((a2T N).filter fun s=>decide (a5r N s=t))
structure c8T(K:Fg)(c:Cn)(Z:Addr->Prop)(rs:List Addr)(H:Hp)(x:Addr)(N:Nt):Prop where
 ex:∃dx r n e es ns,H x=some (.ins c.V0 dx [("rows",.ref r),("nexts",.ref n),("entries",.ref e)])/\(G6 H r N/\H r=some (.lst (rs.map V.ref)))/\H n=some (.lst ((ns:List Addr).map V.ref))/\ns.length=N.length/\(∀(i:Nat) y l,ns[i]? = some y->N[i]? = some l->H y=some (.lst (IL l))) /\
  H e=some (.lst ((es:List Addr).map V.ref))/\es.length=N.length/\(∀(t:Nat) y,es[t]? = some y->a1I K H y ((a2T N).filter fun s=>decide (a5r N s=t)))/\∀z,Z z->z≠r/\z≠n/\z≠e/\z∉ns/\z∉es
theorem E7.ins{H:Hp}{a x C dx:Addr}{N:Nt}{fs:List (Str×V)}{o:HO}(h:E7 H a N)(hx:H x=some (.ins C dx fs)):E7 (upd H x o) a N:=by
 obtain⟨as,q1,q2,q3⟩:=h.ex
 exact⟨as,by rw[j7 (T7 q1 hx (by intro z;cases z))];exact q1,q2,fun j y l e1 e2=>by
  have q:=q3 j y l e1 e2
  rw[j7 (T7 q hx (by intro z;cases z))];exact q⟩
theorem Z6.ins{H:Hp}{x C dx:Addr}{fs:List (Str×V)}{o:HO}(hx:H x=some (.ins C dx fs)):Z6 H (upd H x o):=fun a xs e=>by
 rw[j7 (T7 e hx (by intro z;cases z))];exact e
theorem G6.ins{H:Hp}{a x C dx:Addr}{N:Nt}{fs:List (Str×V)}{o:HO}(h:G6 H a N)(hx:H x=some (.ins C dx fs)):G6 (upd H x o) a N:=by
 obtain⟨as,q1,q2,q3⟩:=h.ex
 exact⟨as,by rw[j7 (T7 q1 hx (by intro z;cases z))];exact q1,q2,fun j y l e1 e2=>(q3 j y l e1 e2).ts (Z6.ins hx)⟩
theorem b8q(h:∀l∈N,l.length<=2):(a2T N).length<=1+2 * N.length:=by
 have go:∀i,i<=N.length->(a6v N i).length<=1+2 * i:=by
  intro i
  induction i with
  | zero=>intro _;show 1<=1;exact j9 _
  | succ i ih=>
   intro hi
   rw[a8L,u9]
   have:=ih (by omega)
   have h2:(a4e N i).length<=2:=by
    unfold a4e
    rw[b5,a2e]
    have e:N.getD i []=N[i]:=by simp[M3,show i<N.length by omega]
    rw[e]
    exact h _ (C8 _)
   omega
 exact go _ (j9 _)
theorem b6M{S:List Stp}{f:Stp->Nat}{s:Stp}(h:S[i]? = some s):(S.take (i+1)).filter (fun s=>decide (f s=t))=(S.take i).filter (fun s=>decide (f s=t))++(if f s=t then [s] else []):=by
 rw[K0,h,a1P]
 congr 1
 by_cases e:f s=t
 ·rw[if_pos e];simp[e]
 ·rw[if_neg e];simp[e]
theorem b2I{K:Fg}{c:Cn}{x:Addr}{rs:List Addr}{E:XK}(ck:a4A K c)(hrs:H ra=some (.lst (rs.map V.ref)))(hr:G6 H ra N)(hn:E7 H na N)(hv:a5x N)(hx:H x=some (.ins c.V0 dx []))
  (k:∀H',c8T K c (fun z=>∃o,H z=some o/\z≠x) rs H' x N->(∀b o,H b=some o->b≠x->H' b=some o)->Q .non H'):a2I K c [.ref x,.ref ra,.ref na] H Q E:=by
 obtain⟨rs',r1,r2,r3⟩:=id hr.ex
 obtain rfl:rs'=rs:=by
  rw[hrs]at r1
  exact(c2A (f:=V.ref) (fun a b h=>V.ref.inj h) |>.mp (HO.lst.inj (Option.some.inj r1))).symm
 obtain⟨ns,n1,n2,n3⟩:=id hn.ex
 have hpos:=hv.pos
 have h400:=hv.le
 refine⟨rfl,?_⟩
 unfold a8J
 nofun
 exists a0X r1 (by rw[b5];omega) (by rw[b5];omega) ?_
 nofun
 specialize V7 (Z1 ?_)
 refine⟨ra,rfl,⟨_,SqL.of r1⟩,fun D hD=>?_⟩
 refine U9 (xs:=rs'.map V.ref) (fun i ys H2=>ys=g7 i (V.bl true)/\H2 D=some (.lst ys)/\t9 H H2) ⟨rfl,g9,C5 hD⟩ ?_ ?_ ?_ ?_
 ·rintro i ys H2 ⟨_,h,_⟩
  exact h
 ·rintro i ys H2 _ ⟨_,_,s2⟩
  exact SqL.of (s2 _ _ r1)
 ·rintro i y ys H2 hy ⟨rfl,hD2,s2⟩ R hR
  rw[c8]at hy
  cases hrx:rs'[i]? with
  | none=>rw[hrx]at hy;cases hy
  | some rx=>
   rw[hrx]at hy
   cases hy
   have hi:i<N.length:=by rw[<-r2];exact(gI hrx)
   ext
   refine a8t ck ((r3 i rx _ hrx (L4 hi)).ts (t9.ts s2)) fun H3 s3=>?_
   refine hR _ _ (s3 _ _ hD2) (M9 (by rw[G0];omega)) ⟨a9L i,g9,fun b o e=>?_⟩
   rw[j7 (d5 e hD)];exact s3 _ _ (s2 _ _ e)
 rintro ys H2 ⟨rfl,hD2,s2⟩
 ext
 refine a2c hD2 fun H3 s3=>?_
 have s03:=s2.trans s3
 ext
 nofun
 refine a5u (hr.same s03) (hn.same s03) h400 hv.two hv.lt fun H4 s4=>?_
 have s04:=s03.trans s4
 ext
 nofun
 refine b1d (hn.same s04) hv fun H5 s5=>?_
 have s05:=s04.trans s5
 ext
 exact_mod_cast Y6 ?_
 specialize b5R ?_
 refine b2B (s05 _ _ r1) fun rp H6 hrp e6 s6=>?_
 have s06:=s05.trans s6
 ext
 refine⟨x,_,dx,[],rfl,s06 _ _ hx,ck.a3g,ck.a4E,by simp,?_⟩
 obtain⟨H7,hH7⟩:∃H7,H7=upd H6 x (.ins c.V0 dx (a3j "rows" (.ref rp) [])):=⟨_,rfl⟩
 have x7:H7 x=some (.ins c.V0 dx [("rows",.ref rp)]):=hH7 ▸ g9
 have f7:∀b o,H6 b=some o->b≠x->H7 b=some o:=fun b o e n=>by rw[hH7,j7 n];exact e
 have rows7:G6 H7 rp N:=by
  have q:G6 H6 rp N:=⟨rs',e6,r2,fun i y l a b=>(r3 i y l a b).ts (t9.ts s06)⟩
  rw[hH7]
  exact q.ins (s06 _ _ hx)
 have net7:E7 H7 na N:=by rw[hH7];exact(hn.same s06).ins (s06 _ _ hx)
 have ra7:H7 ra=some (.lst (rs'.map V.ref)):=f7 _ _ (s06 _ _ r1) (T7 r1 hx (by intro z;cases z))
 rw[<-hH7]
 clear hH7
 exact_mod_cast Y6 ?_
 exact_mod_cast b5R ?_
 exact_mod_cast V7 (Z1 ?_)
 obtain⟨ns',m1,m2,m3⟩:=id net7.ex
 ext
 refine⟨na,rfl,⟨_,SqL.of m1⟩,fun np hnp=>?_⟩
 refine U9 (xs:=ns'.map V.ref) (fun i ys H8=>∃as:List Addr,ys=as.map V.ref/\as.length=i/\(∀(j:Nat) y l,as[j]? = some y->N[j]? = some l->H8 y=some (.lst (IL l))/\y≠np)/\H8 np=some (.lst ys)/\t9 H7 H8/\∀y∈as,H7 y=none) ?_ ?_ ?_ ?_ ?_
 ·exact⟨[],rfl,rfl,by simp,g9,C5 hnp,by simp⟩
 ·rintro i ys H8 ⟨_,_,_,_,h,_⟩
  exact h
 ·rintro i ys H8 _ ⟨_,_,_,_,_,s8,_⟩
  exact SqL.of (s8 _ _ m1)
 ·rintro i y ys H8 hy ⟨as,rfl,la,at8,hnp8,s8,fr8⟩ R hR
  rw[c8]at hy
  cases hnx:ns'[i]? with
  | none=>rw[hnx]at hy;cases hy
  | some nx=>
   rw[hnx]at hy
   cases hy
   have hi:i<N.length:=by rw[<-m2];exact(gI hnx)
   ext
   refine b2B (s8 _ _ (m3 i nx _ hnx (L4 hi))) fun q H9 hq e9 s9=>?_
   have nq:q≠np:=(d5 hnp8 hq).symm
   refine hR _ _ (s9 _ _ hnp8) (M9 (by rw[b5];omega)) ⟨as++[q],by simp,by simp[la],fun j y l g1 g2=>?_,g9,fun b o e=>?_,fun y hy=>?_⟩
   ·rcases a0J g1 with ⟨_,f1⟩ | ⟨hj,f1⟩
    ·obtain⟨f2,f3⟩:=at8 j y l f1 g2
     exact⟨by rw[j7 f3];exact s9 _ _ f2,f3⟩
    ·rw[hj,la,L4 hi]at g2
     cases g2
     subst f1
     exact⟨by rw[j7 nq];exact e9,nq⟩
   ·rw[j7 (d5 e hnp)];exact s9 _ _ (s8 _ _ e)
   ·rcases y8.mp hy with z | z
    ·exact fr8 y z
    ·rw[g6.mp z];exact s8.free hq
 rintro ys H8 ⟨as,rfl,la,at8,hnp8,s8,fr8⟩
 rw[b5,m2]at la
 have net8:E7 H8 np N:=⟨as,hnp8,la,fun i y l a b=>(at8 i y l a b).1⟩
 ext
 refine⟨x,_,dx,_,rfl,s8 _ _ x7,ck.a3g,ck.a0T,by simp,?_⟩
 obtain⟨H9,hH9⟩:∃H9,H9=upd H8 x (.ins c.V0 dx (a3j "nexts" (.ref np) [("rows",.ref rp)])):=⟨_,rfl⟩
 have x9:H9 x=some (.ins c.V0 dx [("rows",.ref rp),("nexts",.ref np)]):=by
  rw[hH9,g9]
  simp only[a3j]
  rw[if_neg (by decide)]
 have f9:∀b o,H8 b=some o->b≠x->H9 b=some o:=fun b o e n=>by rw[hH9,j7 n];exact e
 have rows9:G6 H9 rp N:=by rw[hH9];exact(rows7.same s8).ins (s8 _ _ x7)
 have net9:E7 H9 np N:=by rw[hH9];exact net8.ins (s8 _ _ x7)
 have ra9:H9 ra=some (.lst (rs'.map V.ref)):=f9 _ _ (s8 _ _ ra7) (T7 ra7 x7 (by intro z;cases z))
 rw[<-hH9]
 clear hH9
 exact_mod_cast Y6 ?_
 exact_mod_cast b5R ?_
 specialize V7 (Z1 ?_)
 refine⟨ra,rfl,⟨_,SqL.of ra9⟩,fun ep hep=>?_⟩
 refine U9 (xs:=rs'.map V.ref) (fun i ys H10=>∃es,ys=es.map V.ref/\a5y H9 H10 ep es (g7 i [])) ?_ ?_ ?_ ?_ ?_
 ·exact⟨[],rfl,.nil hep (C5 hep) g9⟩
 ·rintro i ys H10 ⟨es,rfl,I⟩
  exact I.h
 ·rintro i ys H10 _ ⟨es,rfl,I⟩
  exact SqL.of (I.same _ _ ra9)
 ·rintro i y ys H10 hy ⟨es,rfl,I⟩ R hR
  have hi:i<N.length:=by
   have:=(gI hy)
   rw[b5,r2]at this
   exact this
  ext
  refine A2 (by simp) fun p H11 hp e11 s11=>?_
  have:=I.len
  rw[G0]at this
  refine hR _ _ (s11 _ _ I.h) (M9 (by rw[b5];omega)) ⟨es++[p],by simp,?_⟩
  have q:=I.snoc hp e11 s11
  rw[show g7 i ([]:List Nat)++[[]]=g7 (i+1) [] from by rw[a6R]]at q
  rw[show es.map V.ref++[V.ref p]=(es++[p]).map V.ref by simp]
  exact q
 rintro ys H10 ⟨es,rfl,I10⟩
 rw[b5,r2]at I10
 ext
 have x10:=I10.same _ _ x9
 refine⟨x,_,dx,_,rfl,x10,ck.a3g,ck.a0Y,by simp,?_⟩
 obtain⟨F,hF⟩:∃F:List (Str×V),F=([("rows",.ref rp),("nexts",.ref np),("entries",.ref ep)]:List (Str×V)):=⟨_,rfl⟩
 have hput:a3j "entries" (.ref ep) [("rows",.ref rp),("nexts",.ref np)]=F:=by
  rw[hF]
  simp only[a3j]
  rw[if_neg (by decide),if_neg (by decide)]
 rw[hput]
 obtain⟨H11,hH11⟩:∃H11,H11=upd H10 x (.ins c.V0 dx F):=⟨_,rfl⟩
 obtain⟨H0,hH0⟩:∃H0,H0=upd H9 x (.ins c.V0 dx F):=⟨_,rfl⟩
 have x0:H0 x=some (.ins c.V0 dx F):=hH0 ▸ g9
 have f0:∀b o,H9 b=some o->b≠x->H0 b=some o:=fun b o e n=>by rw[hH0,j7 n];exact e
 have rows0:G6 H0 rp N:=by rw[hH0];exact rows9.ins x9
 have net0:E7 H0 np N:=by rw[hH0];exact net9.ins x9
 have np0:H0 np=some (.lst (as.map V.ref)):=by
  have:=f9 _ _ hnp8 (T7 hnp8 (s8 _ _ x7) (by intro z;cases z))
  exact f0 _ _ this (T7 this x9 (by intro z;cases z))
 have rp0:H0 rp=some (.lst (rs'.map V.ref)):=by
  have q:=s8 _ _ (f7 _ _ e6 (T7 e6 (s06 _ _ hx) (by intro z;cases z)))
  have q:=f9 _ _ q (T7 q (s8 _ _ x7) (by intro z;cases z))
  exact f0 _ _ q (T7 q x9 (by intro z;cases z))
 have at0:∀(i:Nat) y l,as[i]? = some y->N[i]? = some l->H0 y=some (.lst (IL l)):=fun i y l a b=>by
  have q:=(at8 i y l a b).1
  have q:=f9 _ _ q (T7 q (s8 _ _ x7) (by intro z;cases z))
  exact f0 _ _ q (T7 q x9 (by intro z;cases z))
 have old9:∀b o,H b=some o->b≠x->H9 b=some o:=fun b o e n=>f9 _ _ (s8 _ _ (f7 _ _ (s06 _ _ e) n)) n
 have ent11:c2p K H0 H11 ep es (g7 N.length []):=by
  have nxe:x≠ep:=d5 x9 hep
  have nxes:∀y∈es,x≠y:=fun y hy=>d5 x9 (I10.new.2 y hy)
  refine⟨fun b o e=>?_,by rw[hH11,j7 nxe.symm];exact I10.h,by rw[G0];have:=I10.len;rwa [G0]at this,I10.nd,I10.na,fun i y S a b=>?_,by rw[hH0,j7 nxe.symm];exact hep,fun y hy=>by rw[hH0,j7 (nxes y hy).symm];exact I10.new.2 y hy⟩
  ·rw[hH0]at e
   rw[hH11]
   by_cases q:b=x
   ·subst q
    rw[g9]at e ⊢
    exact e
   ·rw[j7 q]at e ⊢
    exact I10.same _ _ e
  ·have hi:=(gI b)
   rw[G0]at hi
   have q:=I10.at_ i y [] a (by rw[D0,if_pos hi])
   rw[D0,if_pos hi]at b
   cases b
   refine⟨[],?_,rfl,by simp⟩
   rw[hH11,j7 (T7 q x10 (by intro z;cases z))]
   exact q
 have old:∀b o,H b=some o->b≠x->H0 b=some o:=fun b o e n=>f0 _ _ (f9 _ _ (s8 _ _ (f7 _ _ (s06 _ _ e) n)) n) n
 rw[<-hH11]
 clear hH11 hH0 I10 x10 f0 f9 x9 ra9 net9 rows9
 specialize a1o (Z1 ?_)
 specialize c0F ?_
 exists ⟨x,_,dx,F,.ref np,rfl,ent11.same _ _ x0,ck.a3g,ck.a0T,by rw[hF];rfl,?_⟩
 refine b3X ck (net0.same ent11.same) h400 hv.two fun sl H12 hsl S12 s12=>?_
 obtain⟨vs,v1,v2,v3⟩:=id S12.ex
 have nsl:sl∉es:=fun z=>by
  obtain⟨i,hi⟩:=E4.mp z
  have hil:i<N.length:=by
   have:=ent11.len
   rw[G0]at this
   rw[<-this];exact(gI hi)
  obtain⟨ws,w1,_⟩:=(ent11.at_ i sl [] hi (by rw[D0,if_pos hil])).ex
  rw[hsl]at w1
  cases w1
 refine⟨sl,rfl,⟨_,SqL.of v1⟩,a7G (xs:=vs.map V.ref) (fun i σ H13=>∃x3 P,σ=[some (.ref x),some (.ref ra),some (.ref na),x3]/\c2p K H0 H13 ep es P/\P.length=N.length/\(∀t,t<N.length->P[t]? = some (((a2T N).take i).filter fun s=>decide (a5r N s=t)))/\a1I K H13 sl (a2T N)/\H13 sl=some (.lst (vs.map V.ref))) ?_ ?_ ?_ ?_⟩
 ·refine⟨_,g7 N.length [],rfl,⟨ent11.same.trans s12,s12 _ _ ent11.h,ent11.len,ent11.nd,ent11.na,fun i y S a b=>(ent11.at_ i y S a b).same s12,ent11.new⟩,by simp,fun t ht=>by rw[D0,if_pos ht];simp,S12,v1⟩
 ·rintro i σ H13 _ ⟨_,_,_,_,_,_,_,h⟩
  exact SqL.of h
 ·rintro i y _ H13 hy ⟨x3,P,rfl,I13,lP,hP,S13,hsl13⟩
  rw[c8]at hy
  cases hvx:vs[i]? with
  | none=>rw[hvx]at hy;cases hy
  | some vx=>
   rw[hvx]at hy
   cases hy
   obtain⟨ws,w1,w2,w3⟩:=S13.ex
   have ews:ws=vs:=by
    rw[hsl13]at w1
    have:=c2A (f:=V.ref) (fun a b h=>V.ref.inj h) |>.mp (HO.lst.inj (Option.some.inj w1))
    exact this.symm
   subst ews
   have hi:i<(a2T N).length:=by rw[<-w2];exact(gI hvx)
   obtain⟨s,hs⟩:∃s,(a2T N)[i]? = some s:=⟨_,j6 hi⟩
   have hst:=w3 i vx s hvx hs
   have hm:=mI hs
   have his:=b9d hm
   have hlt:=c4m hv his
   have x13:=I13.same _ _ x0
   ext
   specialize b4k ?_
   specialize c0F ?_
   refine⟨x,_,dx,F,.ref ep,rfl,x13,ck.a3g,ck.a0Y,by rw[hF];rfl,?_⟩
   specialize c5N ?_
   exists ⟨x,dx,F,rfl,x13,by rw[hF];rfl,?_⟩
   refine b4I ck ⟨dx,F,np,x13,by rw[hF];rfl,net0.same I13.same⟩ hst his ?_
   obtain⟨z,hz⟩:∃z,es[a5r N s]? = some z:=⟨_,j6 (by have:=I13.len;omega)⟩
   refine J9 I13.h (a0g (by rw[c8,hz];rfl)) ?_
   have hPt:=hP _ hlt
   obtain⟨us,u1,u2,u3⟩:=(I13.at_ _ z _ hz hPt).ex
   exists ⟨a3m u1,?_⟩
   have hul:us.length<=i:=by
    rw[u2]
    refine F3 (a0w _ _) ?_
    rw[J0];omega
   have hlen1:(a2T N).length<=1000:=by
    rw[<-w2]
    have:(a2T N).length<=1+2 * N.length:=b8q hv.two
    omega
   refine a7w u1 (M9 (by rw[b5];omega)) ?_
   have add:=I13.add (a:=vx) (s:=s) hz hPt u1 u2 u3 hst
   rw[show us.map V.ref++[V.ref vx]=(us++[vx]).map V.ref by simp]
   have nz:sl≠z:=fun q=>nsl (q ▸ mI hz)
   refine⟨_,_,rfl,add,by rw[v8];exact lP,fun t ht=>?_,S13.put u1 nz,by rw[j7 nz];exact hsl13⟩
   rw[b6M hs]
   by_cases q:a5r N s=t
   ·subst q
    rw[D5 (by omega),if_pos rfl]
   ·rw[C9 q,if_neg q,L7]
    exact hP t ht
 ·rintro _ H13 ⟨x3,P,rfl,I13,lP,hP,S13,hsl13⟩
  have f8:∀b o,H b=some o->b≠x->H7 b=some o:=fun b o e n=>f7 _ _ (s06 _ _ e) n
  refine k H13 ⟨dx,rp,np,ep,es,as,hF ▸ I13.same _ _ x0,⟨rows0.same I13.same,I13.same _ _ rp0⟩,I13.same _ _ np0,la,fun i y l a b=>I13.same _ _ (at0 i y l a b),I13.h,by rw[I13.len,lP],fun t y hy=>?_,fun z ⟨o,ho,hzx⟩=>⟨d5 (s05 _ _ ho) hrp,d5 (f8 _ _ ho hzx) hnp,d5 (old9 _ _ ho hzx) hep,fun q=>d5 (f8 _ _ ho hzx) (fr8 z q) rfl,fun q=>d5 (old _ _ ho hzx) (I13.new.2 z q) rfl⟩⟩ fun b o e n=>I13.same _ _ (old b o e n)
  have ht:t<N.length:=by
   have:=(gI hy)
   have:=I13.len
   omega
  have q:=I13.at_ t y _ hy (hP t ht)
  rw[b5,v2,V6]at q
  exact q
section
variable {K:Fg}{e:Xn}{n:Int}{E:XK}
theorem a2Y(ck:a5w K e)(hj:j<4)(ha:∀R:VK,R (.int n) H->ta σ H R)(k:Rz e j n H E):a3z (e.at j) (O9 K (b6K j)) (fun _=>E) (a8 ta c6) D σ H:=by
 unfold a3z
 exact_mod_cast a1c ?_
 refine ha _ ?_
 exact_mod_cast a8M ?_
 refine⟨M9 (by simp) |> a5X,fun a ha=>⟨a,.int n,e.at j,rfl,g9,ck.xc j (by omega),ck.na j (by omega),fun d d1 d2=>⟨rfl,some d,g9,k d _ ?_ fun b o q=>?_⟩⟩⟩
 ·rw[a4r d2,j7 d2,g9]
 ·have hb:b≠a:=d5 q ha
  rw[j7 d2]at d1
  rw[a4r hb,j7 hb,j7 (d5 q d1),j7 hb]
  exact q
theorem b6y{m:Int}(ck:a5w K e)(hv:D9 v H=some s)(hs:a0t s "list" = false)(k:Rz e 0 n H E):U3 K e [v,.int n,.int m] H Q E:=by
 refine⟨rfl,?_⟩
 unfold a0U
 nofun
 exists Y8 hv (by decide) ?_
 refine D2 (by rw[hs];rfl) ?_
 refine D2 rfl ?_
 exact a2Y (j:=0) ck (by decide) (fun R h=>⟨_,rfl,h⟩) k
theorem c5o{bs:List Bool}{k:Nat}(ck:a5w K e)(ha:H a=some (.lst (bs.map V.bl)))(hk:bs[k]? = some false)(hb:∀i,i<k->bs[i]? = some true)(r:∀H',t9 H H'->Rz e 1 (k:Int) H' E):a2W K e [.ref a] H Q E:=by
 refine⟨rfl,?_⟩
 unfold a6f
 specialize a1o (a7q ?_)
 refine⟨a,rfl,⟨_,SqL.of ha⟩,?_⟩
 refine b7L (k+1) (fun i σ H2=>i<=k/\∃x1 x2,σ=[some (.ref a),x1,x2]/\t9 H H2) ⟨L5 _,_,_,rfl,t9.refl _⟩ ?_ ?_ ?_
 ·rintro _ H2 ⟨h,_⟩
  omega
 ·rintro i _ H2 hi ⟨h,x1,x2,rfl,s2⟩
  have hlt:i<bs.length:=c4M h (gI hk)
  exact⟨_,V.bl bs[i],SqL.of (s2 _ _ ha),by rw[c8,j6 hlt];rfl⟩
 ·rintro i _ H2 hi ⟨h,x1,x2,rfl,s2⟩ x H3 ⟨p,y,hp,rfl,rfl,hy⟩
  have hy:=hy _ (SqL.of (s2 _ _ ha))
  rw[c8]at hy
  refine a3p (SqT.of g9) ?_
  by_cases hik:i=k
  ·subst hik
   rw[hk]at hy
   cases hy
   ext
   refine D2 rfl ?_
   exact a2Y (j:=1) ck (by decide) (fun R h=>⟨_,rfl,h⟩) (r _ (s2.trans (C5 hp)))
  ·rw[hb i (by omega)]at hy
   cases hy
   ext
   exists A3 rfl ?_
   exact⟨by omega,_,_,rfl,s2.trans (C5 hp)⟩
theorem b1a{m:Int}(ck:a5w K e)(ha:H a=some (.lst xs))(hl:(xs.length:Int)<m)(k:Rz e 0 n H E):U3 K e [.ref a,.int n,.int m] H Q E:=by
 refine⟨rfl,?_⟩
 unfold a0U
 nofun
 exists Y8 (s := "list") (by simp only[D9,ha]) (by decide) ?_
 exists A3 (by decide) ?_
 exists F2 ha ?_
 refine D2 (d0K hl) ?_
 exact a2Y (j:=0) ck (by decide) (fun R h=>⟨_,rfl,h⟩) k
theorem b2S{m:Int}(ck:a5w K e)(ha:H a=some (.lst xs))(hl:¬(xs.length:Int)<m)(h4:400<xs.length)(k:Rz e 3 400 H E):U3 K e [.ref a,.int n,.int m] H Q E:=by
 refine⟨rfl,?_⟩
 unfold a0U
 nofun
 exists Y8 (s := "list") (by simp only[D9,ha]) (by decide) ?_
 exists A3 (by decide) ?_
 exists F2 ha ?_
 exists A3 (d0J hl) ?_
 exists F2 ha ?_
 refine D2 (d0K (by omega)) ?_
 exact a2Y (j:=3) ck (by decide) (fun R h=>h) k
theorem b8U(ck:a5w K e)(hv:D9 v H=some s)(hs:a0t s "list" = false)(k:Rz e 0 1 H E):V8 K e [w,v] H Q E:=by
 refine⟨rfl,?_⟩
 unfold a1z
 nofun
 exists Y8 hv (by decide) ?_
 refine D2 (by rw[hs];rfl) ?_
 refine D2 rfl ?_
 exact a2Y (j:=0) ck (by decide) (fun R h=>h) k
theorem b6q(ck:a5w K e)(ha:H a=some (.lst xs))(hb:H b=some (.lst ys))(hl:ys.length≠xs.length)(k:Rz e 0 1 H E):V8 K e [.ref a,.ref b] H Q E:=by
 refine⟨rfl,?_⟩
 unfold a1z
 nofun
 exists Y8 (s := "list") (by simp only[D9,hb]) (by decide) ?_
 exists A3 (by decide) ?_
 exists F2 hb ?_
 exists F2 ha ?_
 refine D2 (by rw[d0J (fun z=>hl (by have:=V.int.inj z;omega))];rfl) ?_
 exact a2Y (j:=0) ck (by decide) (fun R h=>h) k
end
section
variable {K:Fg}{c:Cn}{E:XK}
def Ty(H:Hp)(v:V):Prop:=(∃s,D9 v H=some s)/\∀z,v=.str z->z.length<=400
def wB:V->Bool
 | .int _=>true
 | _=>false
def nmB:V->Bool
 | .str z=>a3S z
 | _=>false
def blB(m:Int):V->Bool
 | .int n=>decide (0<=n)&&decide (n<m)
 | _=>false
def opB(v:V):Bool:=nmB v||blB 1000000000000 v
theorem c0J(h:D9 (.ref a) H=some s):s = "list" \/ s = "tuple" \/ s = "dict" := by
 unfold D9 at h
 dsimp only at h
 split at h <;> first | (cases h;simp) | cases h
theorem b5B(hv:D9 v H=some s):(a0t s "int" && !a0t s "bool")=wB v:=by
 cases v with
 | ref a=>rcases c0J hv with rfl | rfl | rfl <;> (show _=false;decide)
 | _=>first | (cases hv;rfl) | cases hv
theorem c0p(hv:D9 v H=some s)(hn:∀z,v≠.str z):a0t s "str" = false:=by
 cases v with
 | ref a=>rcases c0J hv with rfl | rfl | rfl <;> decide
 | str z=>exact absurd rfl (hn z)
 | _=>first | (cases hv;rfl) | cases hv
theorem b6B(hv:D9 v H=some s)(k:Q (.bl (wB v)) H):a0o K [v] H Q E:=by
 refine⟨rfl,?_⟩
 unfold a9P
 rw[<-b5B hv]at k
 ext
 exists Y8 hv (by decide) ?_
 refine V1 (fun e=>?_) (fun e=>?_)
 ·ext
  exists Y8 hv (by decide) ?_
  rw[e]at k
  exact k
 ·rw[a9z.mpr e]at k
  exact k
theorem b7U{tm:TE}{m:Int}(hv:D9 v H=some s)(σ:St)(hs:σ[0]? = some (some v))(hm:∀R:VK,R (.int m) H->tm σ H R)(k:Q (.bl (blB m v)) H):a1n (t8 (a0o K) [] E0 (a8 (b8 0) c6)) (a4d qLe qLt (tC (.int 0)) (b8 0) tm) σ H Q:=by
 exact_mod_cast c0G (b5U (a1c (a7o hs (a8M ?_))))
 refine b6B hv ⟨_,rfl,?_⟩
 cases v with
 | int n=>
  refine D2 rfl ?_
  specialize b7u (s_c (a7o hs ?_))
  by_cases h0:0<=n
  ·refine D2 (d0K h0) ?_
   exists hm _ ?_
   have:blB m (.int n)=decide (n<m):=by show(decide (0<=n)&&decide (n<m))=_;rw[d0K h0,Y4]
   rw[this]at k
   exact k
  ·refine A3 (d0J h0) ?_
   have:blB m (.int n)=false:=by show(decide (0<=n)&&decide (n<m))=_;rw[d0J h0,c7L]
   rw[this]at k
   exact k
 | _=>exact A3 rfl k
theorem b6C(hv:D9 v H=some s)(k:Q (.bl (blB 1000000000000 v)) H):a2m K [v] H Q E:=by
 refine⟨rfl,?_⟩
 unfold a6r
 exact_mod_cast b1C ?_
 exact b7U hv _ rfl (fun R h=>h) k
theorem b6G{m:Int}(hv:D9 v H=some s)(k:Q (.bl (blB m v)) H):a2n K [v,.int m] H Q E:=by
 refine⟨rfl,?_⟩
 unfold a6s
 exact_mod_cast b1C ?_
 exact b7U hv _ rfl (fun R h=>⟨_,rfl,h⟩) k
theorem b6E(hv:D9 v H=some s)(hn:∀z,v≠.str z)(k:Q (.bl false) H):U7 K [v] H Q E:=by
 refine⟨rfl,?_⟩
 unfold a5F
 nofun
 exists Y8 hv (by decide) ?_
 refine D2 (by rw[c0p hv hn];rfl) ?_
 exists D2 rfl ?_
 exact k
theorem a5N(h:Ty H v)(k:∀H',t9 H H'->Q (.bl (nmB v)) H'):U7 K [v] H Q E:=by
 obtain⟨⟨s,hv⟩,hl⟩:=h
 cases v with
 | str z=>exact a8R (hl z rfl) k
 | _=>exact b6E hv (fun z q=>by cases q) (k H (t9.refl _))
theorem Ty.same(h:Ty H v)(t:t9 H H'):Ty H' v:=by
 obtain⟨⟨s,hv⟩,hl⟩:=h
 refine⟨?_,hl⟩
 cases v with
 | ref a=>
  unfold D9 at hv ⊢
  dsimp only at hv ⊢
  cases e:H a with
  | none=>rw[e]at hv;cases hv
  | some o=>rw[t a o e];rw[e]at hv;exact⟨s,hv⟩
 | _=>exact⟨s,hv⟩
theorem a2M(h:Ty H v)(k:∀H',t9 H H'->Q (.bl (opB v)) H'):T6 K [v] H Q E:=by
 refine⟨rfl,?_⟩
 unfold a4b
 ext
 refine a5N h fun H1 s1=>⟨_,rfl,?_⟩
 unfold opB at k
 cases e:nmB v with
 | true=>
  rw[e]at k
  exact D2 rfl (k H1 s1)
 | false=>
  rw[e,b5u]at k
  exists A3 rfl ?_
  obtain⟨⟨s,hv⟩,_⟩:=h.same s1
  exact b6C hv (k H1 s1)
theorem b0s(hv:D9 v H=some s)(hs:a0t s "tuple" = false)(k:Q (.bl false) H):Z0 K c [v] H Q E:=by
 refine⟨rfl,?_⟩
 unfold a3O
 nofun
 exists Y8 hv (by decide) ?_
 refine D2 (by rw[hs];rfl) ?_
 exists D2 rfl ?_
 exact k
theorem b4N(hp:H p=some (.tup xs))(hl:xs.length≠3)(k:Q (.bl false) H):Z0 K c [.ref p] H Q E:=by
 refine⟨rfl,?_⟩
 unfold a3O
 nofun
 exists Y8 (s := "tuple") (by simp only[D9,hp]) (by decide) ?_
 exists A3 (by decide) ?_
 exists a0r hp ?_
 exists D2 (by rw[d0J (fun z=>hl (by have:=V.int.inj z;omega))];rfl) ?_
 exact k
def kdB(k:Str):Bool:=inV (.str k) [.str "plus",.str "minus",.str "times",.str "less",.str "same"]
theorem b9c{kd:Str}{a b:V}(ck:a4A K c)(hp:H p=some (.tup [.str kd,a,b]))(ha:Ty H a)(hb:Ty H b)(k:∀H',t9 H H'->Q (.bl (kdB kd&&(opB a&&opB b))) H'):Z0 K c [.ref p] H Q E:=by
 refine⟨rfl,?_⟩
 unfold a3O
 nofun
 exists Y8 (s := "tuple") (by simp only[D9,hp]) (by decide) ?_
 exists A3 (by decide) ?_
 exists a0r hp ?_
 exists A3 (by simp) ?_
 exists W3 hp (a3d _ _) ?_
 refine⟨_,_,rfl,ck.a7R H,rfl,rfl,?_⟩
 refine⟨_,rfl,?_⟩
 rw[show inV (V.str kd) _=kdB kd from rfl]
 cases e:kdB kd with
 | false=>
  refine A3 rfl ?_
  rw[e]at k
  exact k H (t9.refl _)
 | true=>
  refine D2 rfl ?_
  rw[e,Y4]at k
  ext
  exists W3 hp (a6N _ _ _) ?_
  refine a2M ha fun G1 s1=>⟨_,rfl,?_⟩
  cases e2:opB a with
  | false=>
   rw[e2]at k
   exact A3 rfl (k G1 s1)
  | true=>
   rw[e2,Y4]at k
   exists D2 rfl ?_
   exists W3 (s1 _ _ hp) (c4B _ _ _ _) ?_
   exact a2M (hb.same s1) fun G2 s2=>k G2 (s1.trans s2)
theorem b1R(hv:D9 v H=some s)(hs:a0t s "tuple" = false)(k:Q (.bl false) H):Z9 K c [v] H Q E:=by
 refine⟨rfl,?_⟩
 unfold a5d
 nofun
 exists Y8 hv (by decide) ?_
 refine D2 (by rw[hs];rfl) ?_
 exists D2 rfl ?_
 exact k
theorem b6D(hp:H p=some (.tup []))(k:Q (.bl false) H):Z9 K c [.ref p] H Q E:=by
 refine⟨rfl,?_⟩
 unfold a5d
 nofun
 exists Y8 (s := "tuple") (by simp only[D9,hp]) (by decide) ?_
 exists A3 (by decide) ?_
 exists a0r hp ?_
 exists D2 (by decide) ?_
 exact k
def a2C(k:Str)(r:List V)(db:Bool):Bool:=
 if k = "set" then (match r with | [a,_]=>nmB a&&db | _=>false)
 else if k = "copy" then (match r with | [a,b]=>nmB a&&opB b | _=>false)
 else if k = "take" then (match r with | [a]=>nmB a | _=>false)
 else if inV (.str k) [.str "tell",.str "ask"]=true then (match r with | [a]=>opB a | _=>false)
 else decide (k = "skip")&&decide (r.length=0)
theorem b7G{r:List V}(h:r.length=1):∃a,r=[a]:=match r,h with
 | [a],_=>⟨a,rfl⟩
theorem b7F{r:List V}(h:r.length=2):∃a b,r=[a,b]:=match r,h with
 | [a,b],_=>⟨a,b,rfl⟩
theorem b4U{a b:Str}:decide (V.str a=V.str b)=decide (a=b):=by
 by_cases h:a=b
 ·rw[h,d0K rfl,d0K rfl]
 ·rw[d0J h,d0J fun z=>h (V.str.inj z)]
theorem b4V{a b:Nat}:decide (V.int (a:Int)=V.int (b:Int))=decide (a=b):=by
 rw[b1V]
 by_cases h:a=b
 ·rw[h,d0K rfl,d0K rfl]
 ·rw[d0J h,d0J (by omega)]
theorem b0r{kd:Str}{r:List V}{db:Bool}(hp:H p=some (.tup (.str kd::r)))(hr:∀a∈r,Ty H a)(hd:∀a d,r=[a,d]->kd = "set" -> nmB a=true->∀H' Q E,t9 H H'->(∀H'',t9 H' H''->Q (.bl db) H'')->Z0 K c [d] H' Q E)
  (k:∀H',t9 H H'->Q (.bl (a2C kd r db)) H'):Z9 K c [.ref p] H Q E:=by
 refine⟨rfl,?_⟩
 unfold a5d
 nofun
 exists Y8 (s := "tuple") (by simp only[D9,hp]) (by decide) ?_
 exists A3 (by decide) ?_
 exists a0r hp ?_
 exists A3 (d0J (by intro z;have:=V.int.inj z;rw[z9]at this;omega)) ?_
 nofun
 exists W3 hp (a3d _ _) ?_
 nofun
 refine c5d hp (b4y _ _) fun q G hq e s=>?_
 rw[c7t]at e
 have hr:∀a∈r,Ty G a:=fun a ha=>(hr a ha).same s
 ext
 nofun
 rw[b4U]
 by_cases k1:kd = "set"
 ·exists D2 (d0K k1) ?_
  exists a0r e ?_
  rw[show(V.int 2)=V.int ((2:Nat):Int)from rfl,b4V]
  by_cases hl:r.length=2
  ·refine D2 (d0K hl) ?_
   obtain⟨a,d,rfl⟩:=b7F hl
   have ef:a2C kd [a,d] db=(nmB a&&db):=by unfold a2C;rw[if_pos k1]
   rw[ef]at k
   ext
   exists W3 e (a3d _ _) ?_
   refine a5N (hr a (by simp)) fun G1 s1=>⟨_,rfl,?_⟩
   cases en:nmB a with
   | false=>rw[en]at k;exact A3 rfl (k _ (s.trans s1))
   | true=>
    rw[en,Y4]at k
    exists D2 rfl ?_
    exists W3 (s1 _ _ e) (a6N _ _ _) ?_
    exact hd a d rfl k1 en _ _ _ (s.trans s1) fun G2 s2=>k _ ((s.trans s1).trans s2)
  ·refine A3 (d0J hl) ?_
   have ef:a2C kd r db=false:=by
    unfold a2C;rw[if_pos k1]
    split
    ·exact absurd rfl hl
    ·rfl
   rw[ef]at k
   exact k _ s
 exists A3 (d0J k1) ?_
 nofun
 rw[b4U]
 by_cases k2:kd = "copy"
 ·exists D2 (d0K k2) ?_
  exists a0r e ?_
  rw[show(V.int 2)=V.int ((2:Nat):Int)from rfl,b4V]
  by_cases hl:r.length=2
  ·refine D2 (d0K hl) ?_
   obtain⟨a,d,rfl⟩:=b7F hl
   have ef:a2C kd [a,d] db=(nmB a&&opB d):=by unfold a2C;rw[if_neg k1,if_pos k2]
   rw[ef]at k
   ext
   exists W3 e (a3d _ _) ?_
   refine a5N (hr a (by simp)) fun G1 s1=>⟨_,rfl,?_⟩
   cases en:nmB a with
   | false=>rw[en]at k;exact A3 rfl (k _ (s.trans s1))
   | true=>
    rw[en,Y4]at k
    exists D2 rfl ?_
    exists W3 (s1 _ _ e) (a6N _ _ _) ?_
    exact a2M ((hr d (by simp)).same s1) fun G2 s2=>k _ ((s.trans s1).trans s2)
  ·refine A3 (d0J hl) ?_
   have ef:a2C kd r db=false:=by
    unfold a2C;rw[if_neg k1,if_pos k2]
    split
    ·exact absurd rfl hl
    ·rfl
   rw[ef]at k
   exact k _ s
 exists A3 (d0J k2) ?_
 nofun
 rw[b4U]
 by_cases k3:kd = "take"
 ·exists D2 (d0K k3) ?_
  exists a0r e ?_
  rw[show(V.int 1)=V.int ((1:Nat):Int)from rfl,b4V]
  by_cases hl:r.length=1
  ·refine D2 (d0K hl) ?_
   obtain⟨a,rfl⟩:=b7G hl
   have ef:a2C kd [a] db=nmB a:=by unfold a2C;rw[if_neg k1,if_neg k2,if_pos k3]
   rw[ef]at k
   ext
   exists W3 e (a3d _ _) ?_
   exact a5N (hr a (by simp)) fun G1 s1=>k _ (s.trans s1)
  ·refine A3 (d0J hl) ?_
   have ef:a2C kd r db=false:=by
    unfold a2C;rw[if_neg k1,if_neg k2,if_pos k3]
    split
    ·exact absurd rfl hl
    ·rfl
   rw[ef]at k
   exact k _ s
 exists A3 (d0J k3) ?_
 nofun
 refine A2 (by simp) fun q2 G2 hq2 e2 s2=>?_
 refine b1H e2 rfl rfl ?_
 have s02:=s.trans s2
 have e:=s2 _ _ e
 have hr:∀a∈r,Ty G2 a:=fun a ha=>(hr a ha).same s2
 ext
 by_cases k4:inV (.str kd) [.str "tell",.str "ask"]=true
 ·exists D2 k4 ?_
  exists a0r e ?_
  rw[show(V.int 1)=V.int ((1:Nat):Int)from rfl,b4V]
  by_cases hl:r.length=1
  ·refine D2 (d0K hl) ?_
   obtain⟨a,rfl⟩:=b7G hl
   have ef:a2C kd [a] db=opB a:=by unfold a2C;rw[if_neg k1,if_neg k2,if_neg k3,if_pos k4]
   rw[ef]at k
   ext
   exists W3 e (a3d _ _) ?_
   exact a2M (hr a (by simp)) fun G1 s1=>k _ (s02.trans s1)
  ·refine A3 (d0J hl) ?_
   have ef:a2C kd r db=false:=by
    unfold a2C;rw[if_neg k1,if_neg k2,if_neg k3,if_pos k4]
    split
    ·exact absurd rfl hl
    ·rfl
   rw[ef]at k
   exact k _ s02
 exists A3 (a9z.mpr k4) ?_
 have ef:a2C kd r db=(decide (kd = "skip")&&decide (r.length=0)):=by unfold a2C;rw[if_neg k1,if_neg k2,if_neg k3,if_neg k4]
 rw[ef]at k
 rw[b4U]
 cases e5:decide (kd = "skip")with
 | false=>rw[e5]at k;exact A3 rfl (k _ s02)
 | true=>
  rw[e5,Y4]at k
  exists D2 rfl ?_
  exists a0r e ?_
  rw[show(V.int 0)=V.int ((0:Nat):Int)from rfl,b4V]
  exact k _ s02
end
section
variable {K:Fg}{c:Cn}{e:Xn}{E:XK}
def a1J(K:Fg)(c:Cn)(H:Hp)(v:V)(b:Bool):Prop:=∀(H':Hp) (Q:VK) (E:XK),t9 H H'->(∀H'',t9 H' H''->Q (.bl b) H'')->Z9 K c [v] H' Q E
def a5R(K:Fg)(H:Hp)(r v:V)(m:Nat)(b:Bool):Prop:=∀(H':Hp) (Q:VK) (E:XK),t9 H H'->(∀H'',t9 H' H''->Q (.bl b) H'')->W2 K [r,v,.int (m:Int)] H' Q E
theorem a1J.same{b:Bool}(h:a1J K c H v b)(s:t9 H H'):a1J K c H' v b:=fun H2 Q E s2=>h H2 Q E (s.trans s2)
theorem a5R.same{b:Bool}(h:a5R K H r v m b)(s:t9 H H'):a5R K H' r v m b:=fun H2 Q E s2=>h H2 Q E (s.trans s2)
theorem a8f{bs:List Bool}(ha:H ra=some (.lst vs))(hl:bs.length=vs.length)(h400:vs.length<=400)(ht:∀(i:Nat) v b,vs[i]? = some v->bs[i]? = some b->a1J K c H v b)(hi:σ[i]? = some (some (.ref ra)))
  (k:∀a H',t9 H H'->H' a=some (.lst (bs.map V.bl))->Q (.ref a) H'):S3 (X4 K (b8 i)) T5 (t8 (Z9 K c) [] E0 (a8 (b8 0) c6)) σ H Q:=by
 exact_mod_cast V7 (Z1 ?_)
 exact_mod_cast a7o hi ?_
 refine⟨ra,rfl,⟨_,SqL.of ha⟩,fun D hD=>?_⟩
 refine U9 (xs:=vs) (fun i ys H2=>ys=(bs.take i).map V.bl/\H2 D=some (.lst ys)/\t9 H H2) ⟨by simp,g9,C5 hD⟩ ?_ ?_ ?_ ?_
 ·rintro i ys H2 ⟨_,h,_⟩
  exact h
 ·rintro i ys H2 _ ⟨_,_,s2⟩
  exact SqL.of (s2 _ _ ha)
 ·rintro i v ys H2 hv ⟨rfl,hD2,s2⟩ R hR
  have hlt:=(gI hv)
  obtain⟨b,hb⟩:∃b,bs[i]? = some b:=⟨_,j6 (by omega)⟩
  ext
  refine ht i v b hv hb H2 _ _ s2 fun H3 s3=>?_
  refine hR _ _ (s3 _ _ hD2) (M9 (by rw[b5,J0];omega)) ⟨?_,g9,fun x o q=>?_⟩
  ·rw[K0,hb];simp
  ·rw[j7 (d5 q hD)];exact s3 _ _ (s2 _ _ q)
 ·rintro ys H2 ⟨rfl,hD2,s2⟩
  rw[M0 (by omega)]at hD2
  exact k D H2 s2 hD2
theorem b7x(n:Nat):(g7 n true).map V.bl=g7 n (V.bl true):=by simp
theorem a5n{x:Addr}{n:V}(h:∀Q:VK,U3 K e [r,.int 0,.int 1] H Q E):X2 K c e [.ref x,r,n] H Q E:=by
 refine⟨rfl,?_⟩
 unfold a1A a2z
 nofun
 exact .inr (h _)
theorem b6b{x:Addr}{n:V}{bs:List Bool}{k:Nat}(ck:a5w K e)(ha:H ra=some (.lst vs))(hl:bs.length=vs.length)(h1:1<=vs.length)(h400:vs.length<=400)(ht:∀(i:Nat) v b,vs[i]? = some v->bs[i]? = some b->a1J K c H v b)
  (hk:bs[k]? = some false) (hb:∀i,i<k->bs[i]? = some true) (r:∀H',t9 H H'->Rz e 1 (k:Int) H' E):X2 K c e [.ref x,.ref ra,n] H Q E:=by
 refine⟨rfl,?_⟩
 unfold a1A a2z
 nofun
 refine .inl (a0X ha h1 h400 ?_)
 exact_mod_cast Y6 ?_
 exact_mod_cast b2y ?_
 exact_mod_cast a1c ?_
 refine a8f ha hl h400 ht rfl fun a H1 s1 e1=>?_
 exact_mod_cast a8M ?_
 exact .inr (c5o ck e1 hk hb fun H2 s2=>r H2 (s1.trans s2))
theorem a5m{x:Addr}{n:V}(ha:H ra=some (.lst vs))(h1:1<=vs.length)(h400:vs.length<=400)(ht:∀v∈vs,a1J K c H v true)
  (h:∀(H':Hp) (Q:VK),t9 H H'->V8 K e [.ref ra,n] H' Q E):X2 K c e [.ref x,.ref ra,n] H Q E:=by
 refine⟨rfl,?_⟩
 unfold a1A a2z
 nofun
 refine .inl (a0X ha h1 h400 ?_)
 exact_mod_cast Y6 ?_
 exact_mod_cast b2y ?_
 exact_mod_cast a1c ?_
 refine a8f (bs:=g7 vs.length true) ha (by simp) h400 (fun i v b e1 e2=>?_) rfl fun a H1 s1 e1=>?_
 ·rw[D0]at e2
  split at e2
  ·cases e2;exact ht v (mI e1)
  ·cases e2
 exact_mod_cast a8M ?_
 rw[b7x]at e1
 refine .inl (a2c e1 fun H2 s2=>?_)
 nofun
 exact .inr (h H2 _ (s1.trans s2))
theorem b1E(ck:a4A K c)(hr:G6 H ra N):∃vs,H ra=some (.lst vs)/\vs.length=N.length/\∀v∈vs,a1J K c H v true:=by
 obtain⟨rs,r1,r2,r3⟩:=hr.ex
 refine⟨_,r1,by rw[b5,r2],fun v hv=>?_⟩
 obtain⟨y,hy,rfl⟩:=G5.mp hv
 obtain⟨i,hi⟩:=E4.mp hy
 have hlt:=(gI hi)
 exact fun H' Q E s k=>a8t ck ((r3 i y _ hi (L4 (by omega))).ts (t9.ts s)) k
theorem b6a{x:Addr}(ck:a4A K c)(hr:G6 H ra N)(hn:E7 H na N)(h1:1<=N.length)(h400:N.length<=400)(h2:∀l∈N,l.length<=2)(hlt:∀l∈N,∀t∈l,t<N.length)
  (h:∀(H':Hp) (Q:VK),t9 H H'->a1D K e [.ref na] H' Q E):X2 K c e [.ref x,.ref ra,.ref na] H Q E:=by
 obtain⟨vs,ha,lv,ht⟩:=b1E ck hr
 refine⟨rfl,?_⟩
 unfold a1A a2z
 nofun
 refine .inl (a0X ha (by omega) (by omega) ?_)
 exact_mod_cast Y6 ?_
 exact_mod_cast b2y ?_
 exact_mod_cast a1c ?_
 refine a8f (bs:=g7 vs.length true) ha (by simp) (by omega) (fun i v b e1 e2=>?_) rfl fun a H1 s1 e1=>?_
 ·rw[D0]at e2
  split at e2
  ·cases e2;exact ht v (mI e1)
  ·cases e2
 exact_mod_cast a8M ?_
 rw[b7x]at e1
 refine .inl (a2c e1 fun H2 s2=>?_)
 have s02:=s1.trans s2
 nofun
 refine .inl (a5u (hr.same s02) (hn.same s02) h400 h2 hlt fun H3 s3=>?_)
 nofun
 exact .inr (h H3 _ (s02.trans s3))
theorem b4B{bs:List Bool}{k:Nat}(ck:a5w K e)(hr:H ra=some (.lst rs))(hn:H na=some (.lst vs))(hl:vs.length=rs.length)(hb':bs.length=rs.length)(h400:rs.length<=400)(ht:∀(i:Nat) r v b,rs[i]? = some r->vs[i]? = some v->bs[i]? = some b->a5R K H r v rs.length b)
  (hk:bs[k]? = some false) (hb:∀i,i<k->bs[i]? = some true) (r:∀H',t9 H H'->Rz e 1 (k:Int) H' E):V8 K e [.ref ra,.ref na] H Q E:=by
 refine⟨rfl,?_⟩
 unfold a1z a2z
 nofun
 exists Y8 (s := "list") (by simp only[D9,hn]) (by decide) ?_
 exists A3 (by decide) ?_
 exists F2 hn ?_
 exists F2 hr ?_
 exists A3 (by rw[hl];simp) ?_
 specialize b2A (c0E ?_)
 refine⟨ra,na,rfl,⟨_,SqL.of hr⟩,⟨_,SqL.of hn⟩,fun D hD=>?_⟩
 refine b6P rs.length (fun i ys H2=>ys=(bs.take i).map V.bl/\H2 D=some (.lst ys)/\t9 H H2) ⟨by simp,g9,C5 hD⟩ ?_ ?_ ?_ ?_
 ·rintro i ys H2 ⟨_,h,_⟩
  exact h
 ·rintro ys H2 ⟨rfl,hD2,s2⟩
  rw[M0 (by omega)]at hD2
  exists ⟨⟨_,_,SqL.of (s2 _ _ hr),SqL.of (s2 _ _ hn),.inl (j9 _)⟩,?_⟩
  exact .inr (c5o ck hD2 hk hb fun H3 s3=>r H3 (s2.trans s3))
 ·rintro i ys H2 hi ⟨_,_,s2⟩
  exact⟨_,_,_,_,SqL.of (s2 _ _ hr),SqL.of (s2 _ _ hn),j6 hi,j6 (by omega)⟩
 ·rintro i ys H2 hi ⟨rfl,hD2,s2⟩ x H3 ⟨p,y1,y2,hp,rfl,rfl,g1,g2⟩
  have g1:=g1 _ (SqL.of (s2 _ _ hr))
  have g2:=g2 _ (SqL.of (s2 _ _ hn))
  obtain⟨b,hbi⟩:∃b,bs[i]? = some b:=⟨_,j6 (by omega)⟩
  refine⟨p,_,_,rfl,SqT.of g9,fun R S hR hS=>?_⟩
  have s3:t9 H2 (upd H2 p (.tup [y1,y2])):=C5 hp
  obtain⟨H3,hH3⟩:∃H3,H3=upd H2 p (.tup [y1,y2]):=⟨_,rfl⟩
  rw[<-hH3]at s3 ⊢
  ext
  exists D2 rfl ?_
  have s03:=s2.trans s3
  exists F2 (s03 _ _ hr) ?_
  refine ht i y1 y2 b g1 g2 hbi H3 _ _ s03 fun H4 s4=>?_
  refine hR _ _ (s4 _ _ (s3 _ _ hD2)) (M9 (by rw[b5,J0];omega)) ⟨?_,g9,fun x o q=>?_⟩
  ·rw[K0,hbi];simp
  ·rw[j7 (d5 q hD)];exact s4 _ _ (s03 _ _ q)
theorem b6J(h:∀(t:Nat) (l':List Nat),M[t]? = some l'->∀p∈l',∃l,N[p]? = some l/\t∈l):∀k l,Gd N k->M[k]? = some l->∀t∈l,Gd N t:=fun k l g hm t ht=>by
 obtain⟨l',h1,h2⟩:=h k l hm t ht
 exact .step h1 h2 g
theorem c0q:∀x∈a6u N,Gd N x:=fun x hx=>by
 obtain⟨h1,h2⟩:=U0.mp hx
 have hlt:=G8.mp h1
 refine .stop ?_
 unfold a3F at h2
 simp only[M3,L4 hlt,a2v]at h2
 rw[L4 hlt,List.isEmpty_iff.mp h2]
theorem c7S{k:Nat}(ck:a5w K e)(hn:E7 H na N)(h0:0<N.length)(h400:N.length<=400)(h2:∀l∈N,l.length<=2)(hlt:∀l∈N,∀t∈l,t<N.length)(hk:k<N.length)(bad:¬(Rc N k/\Gd N k))(ok:∀i,i<k->Rc N i/\Gd N i)
  (r:∀H',t9 H H'->Rz e 2 (k:Int) H' E):a1D K e [.ref na] H Q E:=by
 refine⟨rfl,?_⟩
 unfold a6e
 nofun
 exists A2 (by simp) fun p1 H1 hp1 e1 s1=>?_
 exists a4i (bs:=[0]) (B:=2) e1 (hn.same s1) h400 (by decide) (fun l hl=>⟨h2 l hl,hlt l hl⟩) (by simpa using h0) (by simp) (Rc N) (fun x hx=>by rw[g6.mp hx];exact .zero) (fun _ _ a b t ht=>.step a b ht) fun d1 S1 H2 hd1 nd1 hS1 hb1 cl1 P1 s2=>?_
 have in1:∀x,Rc N x->x∈S1:=by
  intro x h
  induction h with
  | zero=>exact hb1 0 (by simp)
  | @step a t l _ hl ht ih=>exact cl1 a ih l hl t ht
 nofun
 exists a8K ((hn.same s1).same s2) h400 fun sa H3 _ e3 s3=>?_
 exists b1w (((hn.same s1).same s2).same s3) h400 h2 hlt fun ta M H4 m4 lM hM1 hM2 hM3 s4=>?_
 have lst:(a6u N).length<=N.length:=by
  have:=a0w (a3F N) (u7 N.length)
  rwa [a2e]at this
 refine a4i (bs:=a6u N) (B:=2 * N.length) (s4 _ _ e3) m4 (by omega) (by omega) (fun l hl=>⟨(hM2 l hl).1,by rw[lM];exact(hM2 l hl).2⟩) (fun x hx=>by
  rw[lM]
  exact G8.mp (U0.mp hx).1) (by omega) (Gd N) c0q (b6J hM3) fun d2 S2 H5 hd2 nd2 hS2 hb2 cl2 P2 s5=>?_
 have in2:∀x,Gd N x->x∈S2:=by
  intro x h
  induction h with
  | @stop a h=>exact hb2 a (b1N h)
  | @step a t l h ht _ ih=>
   obtain⟨l',q1,q2⟩:=hM1 a l h t ht
   exact cl2 t ih l' q1 a q2
 have s05:=(((s1.trans s2).trans s3).trans s4).trans s5
 have hd1':H5 d1=_:=s5 _ _ (s4 _ _ (s3 _ _ hd1))
 obtain⟨ys,hy,ly⟩:=(hn.same s05).len
 ext
 specialize a1o (a0d ?_)
 refine F2 hy ?_
 refine⟨N.length,by rw[ly],by omega,by omega,?_⟩
 rw[z8]
 refine V9 (fun i σ H6=>i<=k/\∃x3,σ=[some (.ref na),some (.ref d1),some (.ref d2),x3]/\H6=H5) ⟨L5 _,_,rfl,rfl⟩ ?_ ?_
 ·rintro i _ H6 hi ⟨hik,x3,rfl,rfl⟩
  ext
  rw[V4]
  specialize a2o ?_
  obtain⟨o,g1,g2⟩:=a0B hd1' i
  refine⟨d1,o,rfl,g1,?_⟩
  rw[g2]
  ext
  by_cases q:i=k
  ·subst q
   have rz:a3z e.C_NoWay (O9 K "at") (fun _=>E) (a8 (b8 3) c6) { nx:=fun σ H'=>i+1<=i/\∃x3,σ=[some (.ref na),some (.ref d1),some (.ref d2),x3]/\H'=H6,ct:=fun σ H'=>i+1<=i/\∃x3,σ=[some (.ref na),some (.ref d1),some (.ref d2),x3]/\H'=H6,bk:=fun _ H'=>Q .non H',rt:=Q } [some (.ref na),some (.ref d1),some (.ref d2),some (.int (i:Int))] H6:=
    a2Y (j:=2) ck (by decide) (fun R h=>⟨_,rfl,h⟩) (r _ s05)
   by_cases i1:i∈S1
   ·exists A3 (by rw[d0K i1];rfl) ?_
    specialize a2o ?_
    obtain⟨o',g1',g2'⟩:=a0B hd2 i
    refine⟨d2,o',rfl,g1',?_⟩
    have i2:i∉S2:=fun z=>bad ⟨P1 i i1,P2 i z⟩
    rw[g2',d0J i2]
    ext
    refine D2 rfl ?_
    exact rz
   ·refine D2 (by rw[d0J i1];rfl) ?_
    refine D2 rfl ?_
    exact rz
  ·obtain⟨o1,o2⟩:=ok i (by omega)
   exists A3 (by rw[d0K (in1 i o1)];rfl) ?_
   specialize a2o ?_
   obtain⟨o',g1',g2'⟩:=a0B hd2 i
   refine⟨d2,o',rfl,g1',?_⟩
   rw[g2',d0K (in2 i o2)]
   ext
   exists A3 rfl ?_
   exact⟨by omega,_,rfl,rfl⟩
 ·rintro _ H6 ⟨h,_⟩
  omega
end
section
variable {K:Fg}{c:Cn}{e:Xn}{n:Int}{x:Addr}{dx:Option Addr}{E:XK}
theorem a8u(ck:a5w K e)(hj:j<5)(hi:i<5)(hx:b5k dx H)(k:Q (.bl (decide (j=i))) H):qX K x (e.at j) dx [.ref x,.ref (e.at i)] H Q:=
 ⟨hx,.ref (e.at i),.ref (e.at i),_,rfl,rfl,ck.kit j i hj hi,fun u r=>r,ck.xi j hj,k⟩
theorem c8I(ck:a5w K e)(hj:j<5)(hx:b5k dx H)(k:Q (.bl true) H):qX K x (e.at j) dx [.ref x,.ty "ValueError"] H Q:=
 ⟨hx,.ty "ValueError",.type "ValueError",_,rfl,rfl,ck.ve j hj,fun u r=>r,ck.xi j hj,k⟩
theorem b7c(h:b5k dx H)(s:t9 H H'):b5k dx H':=fun d e=>let⟨fs,q⟩:=h d e; ⟨fs,s _ _ q⟩
theorem b7g(ck:a5w K e)(hj:j<5)(hd:H d=some (.xd [(b6K j,.int n)]))(hx:σ[3]? = some (some (.ref x)))(k:Q (.int n) H):b3S K x (e.at j) (some d) (b8 3) (b6K j) σ H Q:=by
 refine⟨.ref x,hx,rfl,d,_,.int n,rfl,hd,?_,ck.xi j hj,ck.na j hj,k⟩
 simp[V2]
theorem b3O(k:Q (.bl true) H):a5h K [.int n] H Q E:=⟨rfl,c1J k⟩
def a9J:Nat->Str
 | 0 => "wrong"
 | 1 => "thing"
 | 2 => "way"
 | _ => "many"
def a3C(j:Nat):List Bool:=[decide (j=0),decide (j=1),decide (j=3),decide (j=2)]
theorem b8z{y0 y1 y2 y4:Option V}(ck:a5w K e)(hj:j<4)(hd:H d=some (.xd [(b6K j,.int n)]))
  (k:∀p y H',t9 H H'->H' p=some (.tup [.str (a9J j),.int n])->D.nx [y0,y1,some (.ref p),some (.ref x),y] H'):a7g K e x (e.at j) (some d) D [y0,y1,y2,some (.ref x),y4] H:=by
 have hx:b5k (some d) H:=fun d' q=>by cases q;exact⟨_,hd⟩
 have h5:j<5:=by omega
 unfold a7g b3V
 nofun
 exists a8u (i:=0) ck h5 (by decide) hx ?_
 exists a8u (i:=1) ck h5 (by decide) hx ?_
 exists a8u (i:=3) ck h5 (by decide) hx ?_
 exists a8u (i:=2) ck h5 (by decide) hx ?_
 refine A2 (by simp) fun p1 H1 hp1 e1 s1=>?_
 have e1:H1 p1=some (.lst ((a3C j).map V.bl)):=e1
 ext
 nofun
 exists a8u (i:=4) ck h5 (by decide) (b7c hx s1) ?_
 refine A3 (d0J (by omega)) ?_
 specialize c5K ?_
 specialize V7 (Z1 ?_)
 refine⟨p1,rfl,⟨_,SqL.of e1⟩,fun D' hD=>?_⟩
 refine U9 (xs:=(a3C j).map V.bl) (fun i ys H2=>ys=((a3C j).take i).map (fun b=>V.int (if b then 1 else 0))/\H2 D'=some (.lst ys)/\t9 H1 H2) ⟨by simp,g9,C5 hD⟩ ?_ ?_ ?_ ?_
 ·rintro i ys H2 ⟨_,h,_⟩
  exact h
 ·rintro i ys H2 _ ⟨_,_,s2⟩
  exact SqL.of (s2 _ _ e1)
 ·rintro i v ys H2 hv ⟨rfl,hD2,s2⟩ R hR
  rw[c8]at hv
  cases hb:(a3C j)[i]? with
  | none=>rw[hb]at hv;cases hv
  | some b=>
   rw[hb]at hv
   cases hv
   have hlt:=(gI hb)
   ext
   refine(show R (.int (if b then 1 else 0)) H2 from ?_)
   refine hR _ _ hD2 (M9 (by rw[b5,J0];have:(a3C j).length=4:=rfl;omega)) ⟨?_,g9,fun z o q=>?_⟩
   ·rw[K0,hb];simp
   ·rw[j7 (d5 q hD)];exact s2 _ _ q
 rintro _ H2 ⟨rfl,h2,s2⟩
 have s02:=s1.trans s2
 have hx2:=b7c hx s02
 have e2:=s2 _ _ e1
 have hd2:=s02 _ _ hd
 have h2:H2 D'=some (.lst ((a3C j).map (fun b=>V.int (if b then 1 else 0)))):=h2
 ext
 have hs:∃ns,a1G ((a3C j).map (fun b=>V.int (if b then 1 else 0)))=some ns/\ns.sum=1:=by
  have hc:j=0\/j=1\/j=2\/j=3:=by omega
  rcases hc with rfl | rfl | rfl | rfl <;> exact⟨_,rfl,by decide⟩
 obtain⟨ns,hn1,hn2⟩:=hs
 refine(show b1I [.ref D'] H2 _ from ?_)
 unfold b1I
 simp only[h2]
 refine⟨ns,hn1,?_⟩
 rw[hn2]
 ext
 exists A3 (by decide) ?_
 exists c8I ck h5 hx2 ?_
 exists A3 rfl ?_
 nofun
 exists a8u (i:=3) ck h5 (by decide) hx2 ?_
 by_cases h3:j=3
 ·subst h3
  exists D2 rfl ?_
  exists b7g (j:=3) ck (by decide) hd2 rfl ?_
  exists A2 (by simp) fun p H3 hp e3 s3=>?_
  exists W3 e3 (a6N _ _ _) ?_
  exists b3O ?_
  exists A3 rfl ?_
  exact k p _ H3 (s02.trans s3) e3
 ·exists A3 (d0J h3) ?_
  exists A2 (by simp) fun q H3 hq e3 s3=>?_
  have e4:=s3 _ _ e2
  specialize b4k ?_
  exists ⟨a3m e4,?_⟩
  obtain⟨i,w,hi,hno,hw,ew⟩:∃(i:Nat) (w:Str),((a3C j).map V.bl)[i]? = some (.bl true)/\(∀i' y,i'<i->((a3C j).map V.bl)[i']? = some y->eqV y (.bl true)=false)/\atI [V.str "wrong",V.str "thing",V.str "many",V.str "way"] (i:Int)=some (.str w)/\w=a9J j:=by
   have hc:j=0\/j=1\/j=2:=by omega
   rcases hc with rfl | rfl | rfl
   ·exact⟨0,_,rfl,fun i' y h=>by omega,a0g rfl,rfl⟩
   ·refine⟨1,_,rfl,fun i' y h q=>?_,a0g rfl,rfl⟩
    have:i'=0:=by omega
    subst this
    cases q
    decide
   ·refine⟨3,_,rfl,fun i' y h q=>?_,a0g rfl,rfl⟩
    have:i'=0\/i'=1\/i'=2:=by omega
    rcases this with rfl | rfl | rfl <;> (cases q;decide)
  have fl:((a3C j).map V.bl).all O7=true:=rfl
  refine⟨p1,true,_,i,rfl,rfl,e4,fl,by show 4<=100000;decide,hi,hno,?_⟩
  refine J9 e3 hw ?_
  subst ew
  ext
  have ef:b6K j = "at" := by
   have hc:j=0\/j=1\/j=2:=by omega
   rcases hc with rfl | rfl | rfl <;> rfl
  rw[<-ef]
  exists b7g ck h5 (s3 _ _ hd2) rfl ?_
  exists A2 (by simp) fun p H5 hp e5 s5=>?_
  exists W3 e5 (a6N _ _ _) ?_
  exists b3O ?_
  exists A3 rfl ?_
  exact k p _ H5 ((s02.trans s3).trans s5) e5
def a5z(H:Hp)(v:V):Option (Nat×Int)->Prop
 | none=>v=.non
 | some (j,n)=>∃p,v=.ref p/\H p=some (.tup [.str (a9J j),.int n])
theorem a5z.ts{o:Option (Nat×Int)}(h:a5z H v o)(t:Z6 H H'):a5z H' v o:=by
 cases o with
 | none=>exact h
 | some q=>obtain⟨p,h1,h2⟩:=h;exact⟨p,h1,t _ _ h2⟩
def b5n(K:Fg)(c:Cn)(H:Hp)(r n:V)(o:Option (Nat×Int)):Prop:=∀(H':Hp) (Q:VK) (E:XK),t9 H H'->(∀v H'',t9 H' H''->a5z H'' v o->Q v H'')->a1a K c [r,n] H' Q E
theorem a3s(ck:a5w K c.x)(hj:j<4)(h:∀(x:Addr) (H':Hp) (Q:VK) (E:XK),t9 H H'->(∀H'',t9 H' H''->Rz c.x j n H'' E)->X2 K c c.x [.ref x,r,w] H' Q E):b5n K c H r w (some (j,n)):=by
 intro H' Q E s k
 refine⟨rfl,?_⟩
 unfold a5E
 nofun
 exact_mod_cast Y7 (P:=fun σ H2=>∃p x4,σ=[some r,some w,some (.ref p),none,x4]/\t9 H' H2/\H2 p=some (.tup [.str (a9J j),.int n])) ?_ ?_
 rotate_left
 ·intro nx hnx
  unfold b3T a0H a9Q
  ext
  intro x dx hx hdx hne
  have sm:t9 H' (upd (upd H' dx (.own x)) x (.ins c.V0 dx [])):=fun b o e=>by
   rw[j7 (d5 e hx),j7 (d5 e hdx)];exact e
  refine .inr (h x _ _ _ (s.trans sm) fun H3 s3=>?_)
  intro d H4 hd s4
  refine⟨c.x.at j,rfl,ck.up j (by omega),fun x' hx'=>?_⟩
  exact b8z ck hj hd fun p y H5 s5 e5=>hnx _ _ ⟨p,y,rfl,((sm.trans s3).trans s4).trans s5,e5⟩
 rintro _ H2 ⟨p,x4,rfl,s2,e2⟩
 ext
 exact k _ H2 s2 ⟨p,rfl,e2⟩
theorem b7h(ck:a4A K c)(hr:G6 H ra N)(hn:E7 H na N)(hv:a5x N):b5n K c H (.ref ra) (.ref na) none:=by
 intro H' Q E s k
 have hr:=hr.same s
 have hn:=hn.same s
 refine⟨rfl,?_⟩
 unfold a5E
 nofun
 exact_mod_cast Y7 (P:=fun σ H2=>∃x3 x4,σ=[some (.ref ra),some (.ref na),some .non,x3,x4]/\t9 H' H2) ?_ ?_
 rotate_left
 ·intro nx hnx
  unfold b3T a0H a9Q
  ext
  intro x dx hx hdx hne
  have sm:t9 H' (upd (upd H' dx (.own x)) x (.ins c.V0 dx [])):=fun b o e=>by
   rw[j7 (d5 e hx),j7 (d5 e hdx)];exact e
  obtain⟨rs,hrs,_⟩:=id hr.ex
  exact .inl (b2I ck (sm _ _ hrs) (hr.same sm) (hn.same sm) hv g9 fun H3 hp old=>⟨rfl,hnx _ _ ⟨_,_,rfl,fun b o e=>old b o (sm b o e) (d5 e hx)⟩⟩)
 rintro _ H2 ⟨x3,x4,rfl,s2⟩
 ext
 exact k _ H2 s2 rfl
end
section
variable {K:Fg}{c:Cn}{q:Addr}{E:XK}
def Fl(v:V):Prop:=O7 v=true/\∀z,v=.str z->z.length<=400
theorem Fl.ty(h:Fl v):Ty H v:=by
 refine⟨?_,h.2⟩
 have:=h.1
 cases v <;> first | exact⟨_,rfl⟩ | cases this
theorem Fl.notup(h:Fl v):∃s,D9 v H=some s/\a0t s "tuple" = false/\a0t s "list" = false:=by
 have:=h.1
 cases v <;> first | exact⟨_,rfl,by decide,by decide⟩ | cases this
inductive b1j(a:Addr)(H:Hp):Addr->Prop
 | lst {q:Addr} {xs:List V}:H q=some (.lst xs)->xs.length<=3->q≠a->b1j a H q
 | len {q:Addr} {xs:List V}:H q=some (.tup xs)->xs.length≠3->b1j a H q
 | bad {q:Addr} {k:Str} {x y:V}:H q=some (.tup [.str k,x,y])->Fl x->Fl y->(kdB k&&(opB x&&opB y))=false->b1j a H q
inductive Z2(a:Addr)(H:Hp):V->Prop
 | flat {v:V}:Fl v->Z2 a H v
 | lst {p:Addr} {xs:List V}:H p=some (.lst xs)->xs.length<=3->p≠a->Z2 a H (.ref p)
 | nil {p:Addr}:H p=some (.tup [])->Z2 a H (.ref p)
 | row {p:Addr} {k:Str} {r:List V}:H p=some (.tup (.str k::r))->(∀x∈r,Fl x)->a2C k r false=false->Z2 a H (.ref p)
 | set {p q:Addr} {n:Str}:H p=some (.tup [.str "set",.str n,.ref q])->n.length<=400->b1j a H q->Z2 a H (.ref p)
 | nam {p q:Addr} {x:V} {xs:List V}:H p=some (.tup [.str "set",x,.ref q])->Fl x->nmB x=false->H q=some (.tup xs)->Z2 a H (.ref p)
def Mv(a:Addr)(H H':Hp):Prop:=Z6 H H'/\∀p xs,H p=some (.lst xs)->xs.length<=3->p≠a->H' p=some (.lst xs)
theorem Mv.same(s:t9 H H'):Mv a H H':=⟨t9.ts s,fun p xs h _ _=>s _ _ h⟩
theorem Mv.kept(B:Bag H b d)(k:z5 b H H'):Mv a H H':=⟨z5.ts k B,fun p xs h l _=>k.1 _ _ h (a0P B h l)⟩
theorem Mv.put(h:H a=some (.lst xs)):Mv a H (upd H a o):=⟨Z6.put h,fun p ys e _ n=>by rw[j7 n];exact e⟩
theorem b1j.mv(h:b1j a H q)(m:Mv a H H'):b1j a H' q:=by
 cases h with
 | lst h l n=>exact .lst (m.2 _ _ h l n) l n
 | len h l=>exact .len (m.1 _ _ h) l
 | bad h x y z=>exact .bad (m.1 _ _ h) x y z
theorem Z2.mv(h:Z2 a H v)(m:Mv a H H'):Z2 a H' v:=by
 cases h with
 | flat h=>exact .flat h
 | lst h l n=>exact .lst (m.2 _ _ h l n) l n
 | nil h=>exact .nil (m.1 _ _ h)
 | row h x y=>exact .row (m.1 _ _ h) x y
 | set h x y=>exact .set (m.1 _ _ h) x (y.mv m)
 | nam h x y z=>exact .nam (m.1 _ _ h) x y (m.1 _ _ z)
theorem Z2.re(h:Z2 a H v)(f:H a'=none):Z2 a' H v:=by
 cases h with
 | flat h=>exact .flat h
 | lst h l n=>exact .lst h l (d5 h f)
 | nil h=>exact .nil h
 | row h x y=>exact .row h x y
 | set h x y=>
  refine .set h x ?_
  cases y with
  | lst h l n=>exact .lst h l (d5 h f)
  | len h l=>exact .len h l
  | bad h x y z=>exact .bad h x y z
 | nam h x y z=>exact .nam h x y z
theorem b1j.tells(ck:a4A K c)(h:b1j a H q)(k:∀H',t9 H H'->Q (.bl false) H'):Z0 K c [.ref q] H Q E:=by
 cases h with
 | lst h l n=>exact b0s (s := "list") (by simp only[D9,h]) (by decide) (k H (t9.refl _))
 | len h l=>exact b4N h l (k H (t9.refl _))
 | bad h x y z=>
  refine b9c ck h x.ty y.ty fun H' s=>?_
  rw[z]
  exact k H' s
theorem Z2.tells(ck:a4A K c)(h:Z2 a H v):a1J K c H v false:=by
 intro H' Q E s k
 have g:=h.mv (Mv.same s)
 clear h
 cases g with
 | flat h=>
  obtain⟨s,h1,h2,_⟩:=h.notup (H:=H')
  exact b1R h1 h2 (k H' (t9.refl _))
 | lst h l n=>exact b1R (s := "list") (by simp only[D9,h]) (by decide) (k H' (t9.refl _))
 | nil h=>exact b6D h (k H' (t9.refl _))
 | row h x y=>
  refine b0r (db:=false) h (fun a ha=>(x a ha).ty) (fun a d e _ _ H2 Q2 E2 s2 k2=>?_) fun H2 s2=>?_
  ·obtain⟨s,h1,h2,_⟩:=(x d (by rw[e];simp)).notup (H:=H2)
   exact b0s h1 h2 (k2 H2 (t9.refl _))
  ·rw[y];exact k H2 s2
 | @set p q n h x y=>
  have hq:Ty H' (.ref q):=by
   refine⟨?_,fun z e=>by cases e⟩
   cases y with
   | lst h _ _=>exact⟨"list",by simp only[D9,h]⟩
   | len h _=>exact⟨"tuple",by simp only[D9,h]⟩
   | bad h _ _ _=>exact⟨"tuple",by simp only[D9,h]⟩
  refine b0r (db:=false) h (fun a ha=>?_) (fun a d e _ _ H2 Q2 E2 s2 k2=>?_) fun H2 s2=>?_
  ·rcases o0.mp ha with rfl | ha
   ·exact⟨⟨_,rfl⟩,fun z e=>by cases e;exact x⟩
   ·rw[g6.mp ha];exact hq
  ·cases e
   exact(y.mv (Mv.same s2)).tells ck k2
  ·have:a2C "set" [.str n,.ref q] false=false:=by
    unfold a2C;rw[if_pos rfl];simp
   rw[this];exact k H2 s2
 | @nam p q x xs h f y z=>
  refine b0r (db:=false) h (fun a ha=>?_) (fun a d e _ en H2 Q2 E2 s2 k2=>?_) fun H2 s2=>?_
  ·rcases o0.mp ha with rfl | ha
   ·exact f.ty
   ·rw[g6.mp ha];exact⟨⟨"tuple",by simp only[D9,z]⟩,fun z e=>by cases e⟩
  ·cases e
   rw[y]at en
   cases en
  ·have:a2C "set" [x,.ref q] false=false:=by
    unfold a2C;rw[if_pos rfl];simp
   rw[this];exact k H2 s2
def b7e(ask:Bool):List V:=if ask then [.int 2] else [.int 0,.int 1]
def nxB(ask:Bool)(m:Nat)(xs:List V):Bool:=inV (.int (xs.length:Int)) (b7e ask)&&xs.all (blB (m:Int))
theorem c2h{m:V}(hv:D9 v H=some s)(hs:a0t s "list" = false)(k:Q (.bl false) H):W2 K [r,v,m] H Q E:=by
 refine⟨rfl,?_⟩
 unfold a3n
 nofun
 exists Y8 hv (by decide) ?_
 exists D2 (by rw[hs];rfl) ?_
 exact k
theorem c8Q{x:Addr}(hv:a5U H r ask)(hx:H x=some (.lst xs))(hl:xs.length<=3)(hf:∀y∈xs,Fl y)(k:∀H',t9 H H'->Q (.bl (nxB ask m xs)) H'):W2 K [r,.ref x,.int (m:Int)] H Q E:=by
 obtain⟨p,rs,rfl,hp,_,kd,rr,rfl,hk⟩:=hv
 refine⟨rfl,?_⟩
 unfold a3n
 nofun
 exists Y8 (s := "list") (by simp only[D9,hx]) (by decide) ?_
 exists A3 (by decide) ?_
 exact_mod_cast Y7 (P:=fun σ H1=>∃w,σ=[some (.ref p),some (.ref x),some (.int (m:Int)),some (.ref w)]/\H1 w=some (.tup (b7e ask))/\t9 H H1) ?_ ?_
 rotate_left
 ·intro nx hnx
  ext
  exists W3 hp (a3d _ _) ?_
  by_cases e:kd = "ask"
  ·exists D2 (d0K (by rw[e])) ?_
   refine A2 (by simp) fun w H1 hw e1 s1=>?_
   rw[d0K e]at hk
   subst hk
   exact hnx _ _ ⟨w,rfl,e1,s1⟩
  ·exists A3 (d0J (fun z=>e (V.str.inj z))) ?_
   refine A2 (by simp) fun w H1 hw e1 s1=>?_
   rw[d0J e]at hk
   subst hk
   exact hnx _ _ ⟨w,rfl,e1,s1⟩
 rintro _ H1 ⟨w,rfl,hw,s1⟩
 ext
 exists F2 (s1 _ _ hx) ?_
 refine b1H hw rfl (by cases ask <;> rfl) ?_
 refine⟨_,rfl,?_⟩
 unfold nxB at k
 cases ei:inV (.int (xs.length:Int)) (b7e ask)with
 | false=>
  rw[ei]at k
  exact A3 rfl (k H1 s1)
 | true=>
 rw[ei,Y4]at k
 exists D2 rfl ?_
 specialize V7 (Z1 ?_)
 refine⟨x,rfl,⟨_,SqL.of (s1 _ _ hx)⟩,fun D hD=>?_⟩
 refine U9 (xs:=xs) (fun i ys H2=>ys=((xs.take i).map (blB (m:Int))).map V.bl/\H2 D=some (.lst ys)/\t9 H1 H2) ⟨by simp,g9,C5 hD⟩ ?_ ?_ ?_ ?_
 ·rintro i ys H2 ⟨_,h,_⟩
  exact h
 ·rintro i ys H2 _ ⟨_,_,s2⟩
  exact SqL.of (s2 _ _ (s1 _ _ hx))
 ·rintro i y ys H2 hy ⟨rfl,hD2,s2⟩ R hR
  ext
  obtain⟨⟨s,hs⟩,_⟩:=(hf y (mI hy)).ty (H:=H2)
  refine b6G hs ?_
  refine hR _ _ hD2 (M9 (by rw[b5,b5,J0];omega)) ⟨?_,g9,fun z o e=>?_⟩
  ·rw[K0,hy];simp
  ·rw[j7 (d5 e hD)];exact s2 _ _ e
 ·rintro ys H2 ⟨rfl,hD2,s2⟩
  ext
  rw[V6]at hD2
  refine c5g hD2 ?_
  have:(xs.map (blB (m:Int))).all id=xs.all (blB (m:Int)):=by rw[c9d];rfl
  rw[this]
  exact k H2 (s1.trans s2)
inductive a3V(a:Addr)(H:Hp)(ask:Bool)(m:Nat):V->Prop
 | flat {v:V}:Fl v->a3V a H ask m v
 | tup {p:Addr} {xs:List V}:H p=some (.tup xs)->a3V a H ask m (.ref p)
 | lst {p:Addr} {xs:List V}:H p=some (.lst xs)->xs.length<=3->(∀x∈xs,Fl x)->p≠a->nxB ask m xs=false->a3V a H ask m (.ref p)
theorem a3V.mv(h:a3V a H ask m v)(mv:Mv a H H'):a3V a H' ask m v:=by
 cases h with
 | flat h=>exact .flat h
 | tup h=>exact .tup (mv.1 _ _ h)
 | lst h l f n z=>exact .lst (mv.2 _ _ h l n) l f n z
theorem a3V.re(h:a3V a H ask m v)(f:H a'=none):a3V a' H ask m v:=by
 cases h with
 | flat h=>exact .flat h
 | tup h=>exact .tup h
 | lst h l x n z=>exact .lst h l x (d5 h f) z
theorem a3V.tells(h:a3V a H ask m v)(hr:a5U H r ask):a5R K H r v m false:=by
 intro H' Q E s k
 have g:=h.mv (Mv.same s)
 clear h
 have hr:=hr.ts (t9.ts s)
 cases g with
 | flat h=>
  obtain⟨s,h1,_,h2⟩:=h.notup (H:=H')
  exact c2h h1 h2 (k H' (t9.refl _))
 | tup h=>exact c2h (s := "tuple") (by simp only[D9,h]) (by decide) (k H' (t9.refl _))
 | lst h l f n z=>
  refine c8Q hr h l f fun H2 s2=>?_
  rw[z]
  exact k H2 s2
end
section
variable {K:Fg}{c:Cn}{E:XK}{P:Hp->V->Prop}
def FlE(σ:St)(te:TE)(v:V):Prop:=∀(H:Hp) (Q:VK),Q v H->te σ H Q
def FlA(σ:St)(tr:TA)(xs:List V):Prop:=∀(H:Hp) (QA:List V->Hp->Prop),QA xs H->tr σ H QA
theorem c1S:FlE σ (tC v) v:=fun _ _ h=>h
theorem c8L(h:σ[n]? = some (some v)):FlE σ (b8 n) v:=fun _ _ q=>⟨v,h,q⟩
theorem c8M:FlE σ (tUn (rU fun i=>.int (-i)) (tC (.int 1))) (.int (-1)):=fun _ _ h=>⟨1,rfl,h⟩
theorem b0v:FlA σ c6 []:=fun _ _ h=>h
theorem a3v(a:FlE σ te v)(b:FlA σ tr xs):FlA σ (a8 te tr) (v::xs):=fun _ _ h=>a _ _ (b _ _ h)
def MkE(H0:Hp)(P:Hp->V->Prop)(σ:St)(te:TE):Prop:=∀(H:Hp) (Q:VK),t9 H0 H->(∀v H',t9 H H'->P H' v->Q v H')->te σ H Q
def MkA(H0:Hp)(P:Hp->V->Prop)(σ:St)(tr:TA)(n:Nat):Prop:=∀(H:Hp) (QA:List V->Hp->Prop),t9 H0 H->(∀vs H',vs.length=n->t9 H H'->(∀v∈vs,P H' v)->QA vs H')->tr σ H QA
def Stb(P:Hp->V->Prop):Prop:=∀H H' v,t9 H H'->P H v->P H' v
theorem c1z:MkA H0 P σ c6 0:=fun H QA _ k=>k [] H rfl (t9.refl _) (by simp)
theorem b7E(st:Stb P)(a:MkE H0 P σ te)(b:MkA H0 P σ tr n):MkA H0 P σ (a8 te tr) (n+1):=fun H QA s k=>
 a H _ s fun v H1 s1 p1=>b H1 _ (s.trans s1) fun vs H2 l s2 p2=>k _ H2 (by rw[z9,l]) (s1.trans s2) fun x hx=>(o0.mp hx).elim (fun z=>z ▸ st _ _ _ s2 p1) (p2 x)
theorem c5l(a:FlE σ te v)(h:∀H,P H v):MkE H0 P σ te:=fun H Q _ k=>a H Q (k v H (t9.refl _) (h H))
theorem c1A{t:TA->TE}{o:List V->HO}(ht:∀(ta:TA) (H:Hp) (Q:VK),(ta σ H fun ys H1=>New (o ys) ys.length H1 Q)->t ta σ H Q)(a:FlA σ tr xs)(hl:xs.length<=100)(h:∀H p H',t9 H0 H->H p=none->H' p=some (o xs)->P H' (.ref p)):MkE H0 P σ (t tr):=fun H Q s k=>
 ht tr H Q (a H _ (A2 (by omega) fun p H' hp e s'=>k _ H' s' (h H p H' s hp e)))
theorem b0n(a:FlA σ tr xs)(hl:xs.length<=100)(h:∀H p H',t9 H0 H->H p=none->H' p=some (.tup xs)->P H' (.ref p)):MkE H0 P σ (J7 tr):=c1A (t:=J7) (o:=.tup) (fun _ _ _ h=>h) a hl h
theorem b2R(a:FlA σ tr xs)(hl:xs.length<=100)(h:∀H p H',t9 H0 H->H p=none->H' p=some (.lst xs)->P H' (.ref p)):MkE H0 P σ (F1 tr):=c1A (t:=F1) (o:=.lst) (fun _ _ _ h=>h) a hl h
theorem a5M(st:Stb P)(a:MkA H0 P σ tr n)(hn:n<=100)(s:t9 H0 H)(k:∀l vs H',H l=none->H' l=some (.lst vs)->vs.length=n->(∀v∈vs,P H' v)->t9 H H'->Q (.ref l) H'):F1 tr σ H Q:=by
 exact_mod_cast c0D ?_
 refine a H _ s fun vs H1 l s1 p1=>A2 (by omega) fun p H2 hp e s2=>?_
 exact k p vs H2 (s1.free hp) e l (fun v hv=>st _ _ _ s2 (p1 v hv)) (s1.trans s2)
theorem a7F(s:t9 H0 H)(hp:H p=none)(ha:H0 a≠none):p≠a:=by
 rintro rfl
 exact ha (s.free hp)
def a3e(H0 H:Hp)(v:V):Prop:=∀a,H0 a≠none->Z2 a H v
def b3r(H0 H:Hp)(v:V):Prop:=∃q,v=.ref q/\∀a,H0 a≠none->b1j a H q
theorem a3b:Stb (a3e H0):=fun _ _ _ s h a ha=>(h a ha).mv (Mv.same s)
def flB(v:V):Bool:=O7 v&&(match v with | .str z=>decide (z.length<=400) | _=>true)
theorem b4Q(h:flB v=true):Fl v:=by
 unfold flB at h
 rw[F5]at h
 refine⟨h.1,fun z e=>?_⟩
 subst e
 exact of_decide_eq_true h.2
theorem c1R{r:List V}(h:r.all flB=true):∀x∈r,Fl x:=fun x hx=>b4Q (J1.mp h x hx)
theorem c8D(a:FlE σ te v)(h:flB v=true):MkE H0 (a3e H0) σ te:=c5l a fun _ _ _=>.flat (b4Q h)
theorem c3Z(a:FlA σ tr xs)(h:xs.length<=3):MkE H0 (a3e H0) σ (F1 tr):=b2R a (by omega) fun _ _ _ s f e _ g=>.lst e h (a7F s f g)
theorem c3X:MkE H0 (a3e H0) σ (J7 c6):=b0n b0v (by simp) fun _ _ _ _ _ e _ _=>.nil e
def okR(k:Str)(r:List V):Bool:=decide (r.length<=90)&&(r.all flB && !a2C k r false)
theorem c3W{k:Str}{r:List V}(a:FlA σ tr (.str k::r))(h:okR k r=true):MkE H0 (a3e H0) σ (J7 tr):=by
 unfold okR at h
 rw[F5,F5]at h
 have hl:=of_decide_eq_true h.1
 exact b0n a (by rw[z9];omega) fun _ _ _ _ _ e _ _=>.row e (c1R h.2.1) (by simpa using h.2.2)
theorem c3V{n:Str}(hn:n.length<=400)(d:MkE H0 (b3r H0) σ te):MkE H0 (a3e H0) σ (J7 (a8 (tC (.str "set")) (a8 (tC (.str n)) (a8 te c6)))):=fun H Q s k=>by
 ext
 exists d H _ s fun v H1 s1 ⟨q,e,hq⟩=>?_
 subst e
 refine A2 (by simp) fun p H2 hp e s2=>?_
 exact k _ H2 (s1.trans s2) fun a ha=>.set e hn ((hq a ha).mv (Mv.same s2))
theorem c1v{k:Str}{x:V}(a:FlA σ tr [.str k,x,y])(h:(flB x&&flB y && !(kdB k&&(opB x&&opB y)))=true):MkE H0 (b3r H0) σ (J7 tr):=by
 rw[F5,F5]at h
 exact b0n a (by simp) fun _ p _ _ _ e=>⟨p,rfl,fun _ _=>.bad e (b4Q h.1.1) (b4Q h.1.2) (by have:=h.2;rwa [a4D]at this)⟩
theorem c1u(a:FlA σ tr xs)(hl:xs.length<=2):MkE H0 (b3r H0) σ (J7 tr):=b0n a (by omega) fun _ p _ _ _ e=>⟨p,rfl,fun _ _=>.len e (by omega)⟩
theorem c1t(a:FlA σ tr xs)(hl:xs.length<=3):MkE H0 (b3r H0) σ (F1 tr):=b2R a (by omega) fun _ p _ s f e=>⟨p,rfl,fun _ h=>.lst e hl (a7F s f h)⟩
theorem c4x{n:Int}:Fl (.int n):=⟨rfl,fun w e=>by cases e⟩
theorem c7U:FlE σ (tOp c0N (tC (.int 10)) (tC (.int 12))) (.int 1000000000000):=fun H Q h=>by
 ext
 refine a1S ⟨by decide,by decide,by decide⟩ ?_
 rw[c5h]
 exact h
theorem c3Y:MkE H0 (a3e H0) σ (J7 (a8 (tC (.str "set")) (a8 (tC (.int 5)) (a8 (J7 (a8 (tC (.str "plus")) (a8 (tC (.int 1)) (a8 (tC (.int 1)) c6)))) c6)))):=fun H Q s k=>by
 ext
 exists A2 (by simp) fun q H1 hq e1 s1=>?_
 refine A2 (by simp) fun p H2 hp e s2=>?_
 exact k _ H2 (s1.trans s2) fun a ha=>.nam e c4x rfl (s2 _ _ e1)
local macro_rules | `(tactic| walk_at "fa") => `(tactic| repeat (with_reducible first | exact b0v | apply a3v c1S | apply a3v c8M | apply a3v c7U))
local macro_rules | `(tactic| walk_at "od") => `(tactic| (with_reducible first
 | exact c3X | exact c3Y
 | (refine c8D c1S ?_ <;> decide +kernel)
 | (refine c3V (by decide +kernel) ?_;first
   | (apply c1v;walk_at "fa";decide +kernel)
   | (apply c1u;walk_at "fa";decide)
   | (apply c1t;walk_at "fa";decide))
 | (apply c3Z;walk_at "fa";decide)
 | (apply c3W;walk_at "fa";decide +kernel)))
local macro_rules | `(tactic| walk_at "ol") => `(tactic| (repeat (with_reducible first | exact c1z | refine b7E a3b (by walk_at "od") ?_)))
theorem a8o(hB:Bag H b d)(k:∀v H',a3e H H' v->Bag H' b d->z5 b H H'->Q v H'):a2O K [.ref b] H Q E:=by
 refine⟨rfl,?_⟩
 unfold b3Q
 exact_mod_cast Y6 (a7s ?_)
 refine a5M (n:=9) (H0:=H) (P:=a3e H) a3b ?_ (by decide) (t9.refl H) fun l1 v1 H1 f1 e1 n1 p1 s1=>?_
 ·walk_at "ol"
 ext
 exact_mod_cast Y6 (a7s (b5S (a7o rfl ?_)))
 refine a5M (n:=5) (H0:=H) (P:=a3e H) a3b ?_ (by decide) s1 fun l2 v2 H2 f2 e2 n2 p2 s2=>?_
 ·walk_at "ol"
 refine a1Z (s2 _ _ e1) e2 (A2 (by omega) fun l3 H3 f3 e3 s3=>?_)
 have s03:=(s1.trans s2).trans s3
 have p3:∀v∈v1++v2,a3e H H3 v:=fun v hv=>(y8.mp hv).elim (fun z=>a3b _ _ _ (s2.trans s3) (p1 v z)) fun z=>a3b _ _ _ s3 (p2 v z)
 have n3:(v1++v2).length=14:=by rw[u9];omega
 ext
 exact_mod_cast Y6 (a7s (b5S (a7o rfl ?_)))
 refine a5M (n:=4) (H0:=H) (P:=a3e H) a3b ?_ (by decide) s03 fun l4 v4 H4 f4 e4 n4 p4 s4=>?_
 ·walk_at "ol"
 refine a1Z (s4 _ _ e3) e4 (A2 (by omega) fun l5 H5 f5 e5 s5=>?_)
 have s05:=(s03.trans s4).trans s5
 have p5:∀v∈(v1++v2)++v4,a3e H H5 v:=fun v hv=>(y8.mp hv).elim (fun z=>a3b _ _ _ (s4.trans s5) (p3 v z)) fun z=>a3b _ _ _ s5 (p4 v z)
 have n5:((v1++v2)++v4).length=18:=by rw[u9];omega
 ext
 exact_mod_cast Y6 (a7s (b5S (a7o rfl ?_)))
 refine a5M (n:=4) (H0:=H) (P:=a3e H) a3b ?_ (by decide) s05 fun l6 v6 H6 f6 e6 n6 p6 s6=>?_
 ·walk_at "ol"
 refine a1Z (s6 _ _ e5) e6 (A2 (by omega) fun l7 H7 f7 e7 s7=>?_)
 have s07:=(s05.trans s6).trans s7
 have p7:∀v∈((v1++v2)++v4)++v6,a3e H H7 v:=fun v hv=>(y8.mp hv).elim (fun z=>a3b _ _ _ (s6.trans s7) (p5 v z)) fun z=>a3b _ _ _ s7 (p6 v z)
 have n7:(((v1++v2)++v4)++v6).length=22:=by rw[u9];omega
 ext
 have B7:=hB.same s07
 refine D3 B7 (by decide) (by decide) fun n H8 a0 a1 B8 k8=>?_
 obtain⟨v,hv,hv2⟩:=a1H (xs:=((v1++v2)++v4)++v6) a0 (by omega)
 obtain⟨xb,hxb⟩:=hB.lst
 have nlb:l7≠b:=a7F ((s05.trans s6)) f7 (by rw[hxb];simp)
 refine J9 (k8.1 _ _ e7 nlb) hv ?_
 exact k v H8 (fun a ha=>(p7 v (mI hv2) a ha).mv (Mv.kept B7 k8)) B8 ((z5.of_same s07).trans k8)
end
section
variable {K:Fg}{c:Cn}{E:XK}
def b3s(H0:Hp)(ask:Bool)(m:Nat)(H:Hp)(v:V):Prop:=∀a,H0 a≠none->a3V a H ask m v
theorem c1w:Stb (b3s H0 ask m):=fun _ _ _ s h a ha=>(h a ha).mv (Mv.same s)
theorem c9r(a:FlE σ te v)(h:flB v=true):MkE H0 (b3s H0 ask m) σ te:=c5l a fun _ _ _=>.flat (b4Q h)
theorem c6Y(a:FlA σ tr xs)(h:xs.length<=3):MkE H0 (b3s H0 ask m) σ (J7 tr):=b0n a (by omega) fun _ _ _ _ _ e _ _=>.tup e
def c8O:V->Bool
 | .int n=>decide (n<0)
 | _=>true
theorem b7C{x:V}(hx:x∈xs)(h:blB (m:Int) x=false):nxB ask m xs=false:=by
 unfold nxB
 rw[Bool.and_eq_false_iff]
 refine .inr (List.all_eq_false.mpr ⟨x,hx,?_⟩)
 rw[h]
 decide
theorem c7x{x:V}(h:c8O x=true):blB (m:Int) x=false:=by
 cases x with
 | int n=>
  have:=of_decide_eq_true h
  show(decide (0<=n)&&_)=false
  rw[d0J (by omega)]
  rfl
 | _=>rfl
def okN(ask:Bool)(xs:List V):Bool:=decide (xs.length<=3)&&(xs.all flB&&(!inV (.int (xs.length:Int)) (b7e ask)||xs.any c8O))
theorem c6Z(t:FlA σ tr xs)(h:okN ask xs=true):MkE H0 (b3s H0 ask m) σ (F1 tr):=by
 unfold okN at h
 rw[F5,F5]at h
 have hl:=of_decide_eq_true h.1
 refine b2R t (by omega) fun _ _ _ s f e _ g=>.lst e hl (c1R h.2.1) (a7F s f g) ?_
 rcases a5Z _ _ ▸ h.2.2 with z | z
 ·unfold nxB
  rw[a4D]at z
  rw[z]
  rfl
 ·obtain⟨x,h1,h2⟩:=b0P.mp z
  exact b7C h1 (c7x h2)
theorem c8E(t:FlA σ tr xs)(hl:xs.length<=3)(hf:∀x∈xs,Fl x)(hx:V.int (m:Int)∈xs):MkE H0 (b3s H0 ask m) σ (F1 tr):=by
 refine b2R t (by omega) fun _ _ _ s f e _ g=>.lst e hl hf (a7F s f g) (b7C hx ?_)
 show(decide (0<=(m:Int))&&decide ((m:Int)<m))=false
 rw[d0J (show ¬(m:Int)<m by omega),c7M]
local macro_rules | `(tactic| walk_at "fa") => `(tactic| repeat (with_reducible first | exact b0v | apply a3v c1S | apply a3v c8M))
local macro_rules | `(tactic| walk_at "on") => `(tactic| first
 | (with_reducible first
  | (refine c9r c1S ?_ <;> decide +kernel)
  | (apply c6Y;walk_at "fa";decide)
  | (apply c6Z;walk_at "fa";decide +kernel))
 | exact c8E (a3v c1S (a3v (c8L rfl) b0v)) (by simp) (by intro x hx;rcases o0.mp hx with z | z;exact z ▸ c4x;exact g6.mp z ▸ c4x) (by simp)
 | exact c8E (a3v (c8L rfl) b0v) (by simp) (by intro x hx;exact g6.mp hx ▸ c4x) (by simp))
local macro_rules | `(tactic| walk_at "nl") => `(tactic| (repeat (with_reducible first | exact c1z | refine b7E c1w (by walk_at "on") ?_)))
theorem a8O(hB:Bag H b d)(hr:a5U H r ask)(k:∀v H',b3s H ask m H' v->Bag H' b d->z5 b H H'->Q v H'):a2l K [.ref b,r,.int (m:Int)] H Q E:=by
 obtain⟨p,xs,rfl,hp,_,kd,rr,rfl,hk⟩:=hr
 obtain⟨xb,hxb⟩:=hB.lst
 refine⟨rfl,?_⟩
 unfold a9O
 have fin:∀(vs:List V) (l:Addr) (H1:Hp),t9 H H1->H l=none->H1 l=some (.lst vs)->vs.length=11->(∀v∈vs,b3s H ask m H1 v)->A1 K [.ref b,.int 11] H1 (fun x H2=>qIx (.ref l) x H2 Q) E0:=by
  intro vs l H1 s1 f1 e1 n1 p1
  have B1:=hB.same s1
  refine D3 B1 (by decide) (by decide) fun n H8 a0 a1 B8 k8=>?_
  obtain⟨v,hv,hv2⟩:=a1H (xs:=vs) a0 (by omega)
  have nlb:l≠b:=by rintro rfl;rw[hxb]at f1;cases f1
  refine J9 (k8.1 _ _ e1 nlb) hv ?_
  exact k v H8 (fun a ha=>(p1 v (mI hv2) a ha).mv (Mv.kept B1 k8)) B8 ((z5.of_same s1).trans k8)
 nofun
 exists W3 hp (a3d _ _) ?_
 rw[b4U]
 rw[hk]
 cases ask with
 | true=>
  refine D2 rfl ?_
  exact_mod_cast Y6 (a7s ?_)
  refine a5M (n:=11) (H0:=H) (P:=b3s H true m) c1w ?_ (by decide) (t9.refl H) fun l1 v1 H1 f1 e1 n1 p1 s1=>?_
  ·walk_at "nl"
  ext
  exact fin v1 l1 H1 s1 f1 e1 n1 p1
 | false=>
  exists A3 rfl ?_
  exact_mod_cast Y6 (a7s ?_)
  refine a5M (n:=11) (H0:=H) (P:=b3s H false m) c1w ?_ (by decide) (t9.refl H) fun l1 v1 H1 f1 e1 n1 p1 s1=>?_
  ·walk_at "nl"
  ext
  exact fin v1 l1 H1 s1 f1 e1 n1 p1
def RwB(a:Addr)(H:Hp)(w:V):Bool->Prop
 | true=>∃q,a5U H w q
 | false=>Z2 a H w
theorem RwB.mv(h:RwB a H w z)(mv:Mv a H H'):RwB a H' w z:=by
 cases z with
 | true=>obtain⟨q,h⟩:=h;exact⟨q,h.ts mv.1⟩
 | false=>exact Z2.mv h mv
theorem RwB.tells(ck:a4A K c)(h:RwB a H w z):a1J K c H w z:=by
 cases z with
 | true=>obtain⟨q,h⟩:=h;exact fun H' Q E s k=>a8t ck (h.ts (t9.ts s)) k
 | false=>exact Z2.tells ck h
structure a4B(a:Addr)(H:Hp)(vs:List V)(bs:List Bool):Prop where
 len:bs.length=vs.length
 at_:∀(i:Nat) w z,vs[i]? = some w->bs[i]? = some z->RwB a H w z
theorem a1Y{α:Type}{xs:List α}{x y:α}(h:(xs.set i x)[j]? = some y):(j=i/\y=x)\/(j≠i/\xs[j]? = some y):=by
 by_cases e:j=i
 ·subst e
  have hl:=(gI h)
  rw[v8]at hl
  rw[D5 hl]at h
  exact .inl ⟨rfl,(Option.some.inj h).symm⟩
 ·rw[C9 (Ne.symm e)]at h
  exact .inr ⟨e,h⟩
theorem a4B.mv{bs:List Bool}(h:a4B a H vs bs)(mv:Mv a H H'):a4B a H' vs bs:=⟨h.len,fun i w z e1 e2=>(h.at_ i w z e1 e2).mv mv⟩
theorem a4B.set{vs:List V}{bs:List Bool}{i:Nat}{z:Bool}(h:a4B a H vs bs)(hw:RwB a H w z):a4B a H (vs.set i w) (bs.set i z):=⟨by rw[v8,v8];exact h.len,fun j w' z' e1 e2=>by
 rcases a1Y e1 with ⟨q,rfl⟩ | ⟨q,e1⟩
 ·rcases a1Y e2 with ⟨_,rfl⟩ | ⟨q',_⟩
  ·exact hw
  ·exact absurd q q'
 ·rcases a1Y e2 with ⟨q',_⟩ | ⟨_,e2⟩
  ·exact absurd q' q
  ·exact h.at_ j w' z' e1 e2⟩
theorem b4m(h:G6 H p N):∃vs,H p=some (.lst vs)/\vs.length=N.length/\a4B a H vs (g7 N.length true):=by
 obtain⟨rs,r1,r2,r3⟩:=h.ex
 refine⟨_,r1,by rw[b5,r2],by simp[r2],fun i w z e1 e2=>?_⟩
 rw[D0]at e2
 split at e2
 ·cases e2
  rename_i hi
  rw[c8,j6 (by omega)]at e1
  cases e1
  exact⟨_,r3 i _ _ (j6 (by omega)) (L4 hi)⟩
 ·cases e2
inductive a1L(b:Addr)(H:Hp):V->Nat->Int->Prop
 | no {v:V} {s:String}:D9 v H=some s->a0t s "list" = false->a1L b H v 0 0
 | nil {p:Addr}:H p=some (.lst [])->a1L b H (.ref p) 0 0
 | many {p:Addr} {xs:List V}:H p=some (.lst xs)->p≠b->400<xs.length->a1L b H (.ref p) 3 400
 | row {p a:Addr} {vs:List V} {bs:List Bool} {k:Nat}:H p=some (.lst vs)->p≠b->1<=vs.length->vs.length<=400->a4B a H vs bs->bs[k]? = some false->(∀i,i<k->bs[i]? = some true)->a1L b H (.ref p) 1 (k:Int)
theorem a9j(h:D9 v H=some s)(t:t9 H H'):D9 v H'=some s:=by
 cases v with
 | ref q=>
  unfold D9 at h ⊢
  dsimp only at h ⊢
  cases e:H q with
  | none=>rw[e]at h;cases h
  | some o=>rw[t _ _ e];rw[e]at h;exact h
 | _=>exact h
theorem c4b(B:Bag H b d)(k:z5 b H H')(h:D9 v H=some s)(hs:a0t s "list" = false):D9 v H'=some s:=by
 cases v with
 | ref q=>
  unfold D9 at h ⊢
  dsimp only at h ⊢
  cases e:H q with
  | none=>rw[e]at h;cases h
  | some o=>
   obtain⟨xb,hxb⟩:=B.lst
   have:q≠b:=by
    rintro rfl
    rw[hxb]at h
    cases h
    exact absurd hs (by decide)
   rw[k.1 _ _ e this]
   rw[e]at h
   exact h
 | _=>exact h
theorem a1L.kept{n:Int}(h:a1L b H v j n)(B:Bag H b d)(k:z5 b H H'):a1L b H' v j n:=by
 cases h with
 | no h hs=>exact .no (c4b B k h hs) hs
 | nil h=>exact .nil (k.1 _ _ h (a0P B h (by simp)))
 | many h n l=>exact .many (k.1 _ _ h n) n l
 | row h n l1 l2 al h1 h2=>exact .row (k.1 _ _ h n) n l1 l2 (al.mv (Mv.kept B k)) h1 h2
theorem a1L.refd{n:Int}(ck:a4A K c)(h:a1L b H v j n):b5n K c H v w (some (j,n)):=by
 cases h with
 | no h hs=>exact a3s ck.xn (by decide) fun x H' Q E s k=>a5n fun Q=>b6y ck.xn (a9j h s) hs (k H' (t9.refl _))
 | nil h=>exact a3s ck.xn (by decide) fun x H' Q E s k=>a5n fun Q=>b1a ck.xn (s _ _ h) (by simp) (k H' (t9.refl _))
 | many h n l=>exact a3s ck.xn (by decide) fun x H' Q E s k=>a5n fun Q=>b2S ck.xn (s _ _ h) (by omega) l (k H' (t9.refl _))
 | row h n l1 l2 al h1 h2=>exact a3s ck.xn (by decide) fun x H' Q E s k=>b6b ck.xn (s _ _ h) al.len l1 l2 (fun i v z e1 e2=>((al.at_ i v z e1 e2).tells ck).same s) h1 h2 k
def NxB(a:Addr)(H:Hp)(m:Nat)(r w:V):Bool->Prop
 | true=>∃x l,w=.ref x/\H x=some (.lst (IL l))/\l.length<=2/\(∀t∈l,t<m)/\a5U H r (l.length == 2)/\x≠a
 | false=>∃ask,a5U H r ask/\a3V a H ask m w
theorem NxB.mv(h:NxB a H m r w z)(mv:Mv a H H'):NxB a H' m r w z:=by
 cases z with
 | true=>
  obtain⟨x,l,h1,h2,h3,h4,h5,h6⟩:=h
  exact⟨x,l,h1,mv.2 _ _ h2 (by rw[K6];omega) h6,h3,h4,h5.ts mv.1,h6⟩
 | false=>obtain⟨ask,h1,h2⟩:=h;exact⟨ask,h1.ts mv.1,h2.mv mv⟩
theorem NxB.re(h:NxB a H m r w z)(f:H a'=none):NxB a' H m r w z:=by
 cases z with
 | true=>
  obtain⟨x,l,h1,h2,h3,h4,h5,h6⟩:=h
  exact⟨x,l,h1,h2,h3,h4,h5,d5 h2 f⟩
 | false=>obtain⟨ask,h1,h2⟩:=h;exact⟨ask,h1,h2.re f⟩
theorem NxB.tells(h:NxB a H m r w z):a5R K H r w m z:=by
 cases z with
 | true=>
  obtain⟨x,l,rfl,h2,h3,h4,h5,h6⟩:=h
  exact fun H' Q E s k=>a7M (h5.ts (t9.ts s)) (s _ _ h2) h3 h4 k
 | false=>obtain⟨ask,h1,h2⟩:=h;exact h2.tells h1
structure a6P(a:Addr)(H:Hp)(m:Nat)(rs vs:List V)(bs:List Bool):Prop where
 l1:vs.length=rs.length
 l2:bs.length=rs.length
 at_:∀(i:Nat) r w z,rs[i]? = some r->vs[i]? = some w->bs[i]? = some z->NxB a H m r w z
theorem a6P.mv{bs:List Bool}(h:a6P a H m rs vs bs)(mv:Mv a H H'):a6P a H' m rs vs bs:=⟨h.l1,h.l2,fun i r w z e0 e1 e2=>(h.at_ i r w z e0 e1 e2).mv mv⟩
theorem a6P.re{bs:List Bool}(h:a6P a H m rs vs bs)(f:H a'=none):a6P a' H m rs vs bs:=⟨h.l1,h.l2,fun i r w z e0 e1 e2=>(h.at_ i r w z e0 e1 e2).re f⟩
theorem a6P.set{rs vs:List V}{bs:List Bool}{i:Nat}{z:Bool}(h:a6P a H m rs vs bs)(hw:∀r,rs[i]? = some r->NxB a H m r w z):a6P a H m rs (vs.set i w) (bs.set i z):=⟨by rw[v8];exact h.l1,by rw[v8];exact h.l2,fun j r w' z' e0 e1 e2=>by
 rcases a1Y e1 with ⟨q,rfl⟩ | ⟨q,e1⟩
 ·rcases a1Y e2 with ⟨_,rfl⟩ | ⟨q',_⟩
  ·exact hw r (q ▸ e0)
  ·exact absurd q q'
 ·rcases a1Y e2 with ⟨q',_⟩ | ⟨_,e2⟩
  ·exact absurd q' q
  ·exact h.at_ j r w' z' e0 e1 e2⟩
inductive b2f(b ra:Addr)(H:Hp)(m:Nat):V->Nat->Int->Prop
 | no {v:V} {s:String}:D9 v H=some s->a0t s "list" = false->b2f b ra H m v 0 1
 | len {p:Addr} {xs:List V}:H p=some (.lst xs)->p≠b->xs.length≠m->b2f b ra H m (.ref p) 0 1
 | odd {p a:Addr} {rs vs:List V} {bs:List Bool} {k:Nat}:H p=some (.lst vs)->p≠b->H ra=some (.lst rs)->ra≠b->rs.length=m->a6P a H m rs vs bs->bs[k]? = some false->(∀i,i<k->bs[i]? = some true)->b2f b ra H m (.ref p) 1 (k:Int)
theorem b2f.refd{n:Int}(ck:a4A K c)(hr:G6 H ra N)(h1:1<=N.length)(h400:N.length<=400)(h:b2f b ra H N.length v j n):b5n K c H (.ref ra) v (some (j,n)):=by
 obtain⟨rs,r1,r2,r3⟩:=b1E ck hr
 cases h with
 | no h hs=>exact a3s ck.xn (by decide) fun x H' Q E s k=>a5m (s _ _ r1) (by omega) (by omega) (fun v hv=>(r3 v hv).same s) fun H2 Q2 s2=>b8U ck.xn (a9j h (s.trans s2)) hs (k H2 s2)
 | len h n l=>exact a3s ck.xn (by decide) fun x H' Q E s k=>a5m (s _ _ r1) (by omega) (by omega) (fun v hv=>(r3 v hv).same s) fun H2 Q2 s2=>b6q ck.xn (s2 _ _ (s _ _ r1)) (s2 _ _ (s _ _ h)) (by omega) (k H2 s2)
 | odd h n h' n' l al g1 g2=>
  rw[r1]at h'
  cases h'
  refine a3s ck.xn (by decide) fun x H' Q E s k=>a5m (s _ _ r1) (by omega) (by omega) (fun v hv=>(r3 v hv).same s) fun H2 Q2 s2=>b4B ck.xn (s2 _ _ (s _ _ r1)) (s2 _ _ (s _ _ h)) al.l1 al.l2 (by omega) (fun i r v z e0 e1 e2=>?_) g1 g2 fun H3 s3=>k H3 (s2.trans s3)
  rw[l]
  exact(NxB.tells (al.at_ i r v z e0 e1 e2)).same (s.trans s2)
end
section
variable {K:Fg}{c:Cn}{E:XK}
theorem c3c(hp:H p=some (.lst ys))(h:∀l H',H l=none->H' l=some (.tup ys)->t9 H H'->Q (.ref l) H'):a5k [.ref p] H Q:=by
 unfold a5k
 simp only[hp]
 exact fun l hl=>h l _ hl g9 (C5 hl)
theorem b7y{k:Int}(hp:H p=some (.lst xs))(h0:0<=k)(h1:k<100000)(hl:xs.length * k.toNat<=100000)(h:∀l H',H l=none->H' l=some (.lst (g7 k.toNat xs).flatten)->t9 H H'->Q (.ref l) H'):b5W (.ref p) (.int k) H Q:=
 ⟨p,k,xs,rfl,rfl,hp,by omega,by omega,small hl,fun l hl=>h l _ hl g9 (C5 hl)⟩
theorem a9p(k:Nat)(x:V):(g7 k [x]).flatten=g7 k x:=by
 induction k with
 | zero=>rfl
 | succ k ih=>rw[U4,a2f,ih,U4];rfl
theorem b7Q(h:i<=xs.length):a4t xs none (some (i:Int))=xs.take i:=by
 unfold a4t
 have e:HT.sIx xs.length xs.length (some (i:Int))=i:=by rw[HT.a7u];omega
 rw[e,HT.b4l,c7K,Nat.sub_zero]
theorem b1W(h:i<=xs.length):a4t xs (some (i:Int)) none=xs.drop i:=by
 unfold a4t
 have e:HT.sIx xs.length 0 (some (i:Int))=i:=by rw[HT.a7u];omega
 rw[e,HT.b4l,M0 (by simp)]
theorem b7q{x:V}(h:i<xs.length):xs.take i++[x]++xs.drop (i+1)=xs.set i x:=by
 rw[List.set_eq_take_append_cons_drop,if_pos h,a4C]
 rfl
theorem a7C(h:0<n):ixN n (-1)=some (n - 1):=by
 unfold ixN
 rw[if_neg (by decide),if_pos (by omega)]
 congr 1
 omega
theorem c1H(h:n<m):ixN m (n:Int)=some n:=by
 unfold ixN
 rw[if_pos (by omega),if_pos (by omega),z8]
theorem a0A{k:Nat}(h:k<n):((g7 n true).set k false)[k]? = some false/\∀i,i<k->((g7 n true).set k false)[i]? = some true:=by
 refine⟨by rw[D5 (by simpa using h)],fun i hi=>?_⟩
 rw[C9 (by omega),D0,if_pos (by omega)]
theorem a4p{k:Nat}(h:k<n):(((g7 n true).set k false).set (n - 1) false)[k]? = some false/\∀i,i<k->(((g7 n true).set k false).set (n - 1) false)[i]? = some true:=by
 obtain⟨f1,f2⟩:=a0A h
 refine⟨?_,fun i hi=>?_⟩
 ·by_cases e:k=n - 1
  ·subst e
   rw[D5 (by simpa using h)]
  ·rw[C9 (Ne.symm e)];exact f1
 ·rw[C9 (by omega)];exact f2 i hi
theorem b9a{H2:Hp}(s:t9 H H')(k:z5 b H' H2):z5 b H H2:=(z5.of_same s).trans k
theorem c0r{z:Str}(hB:Bag H b d)(hx:H ra=some (.lst xs))(hi:σ[i]? = some (some (.ref ra)))(h0:σ[0]? = some (some (.ref b)))
  (k:∀v H',((∃s,D9 v H'=some s/\a0t s "list" = false)\/∃p,v=.ref p/\H' p=some (.lst []))->Bag H' b d->z5 b H H'->Q v H') :
  tOp qIx (F1 (a8 (tC .non) (a8 (tCB a5k (a8 (b8 i) c6)) (a8 (tC (.str z)) (a8 a4c (a8 (tC (.int 5)) (a8 (F1 c6) c6))))))) (t8 (A1 K) [] E0 (a8 (b8 0) (a8 (tC (.int 6)) c6))) σ H Q:=by
 exact_mod_cast b5S (c0D (a1c (s_c (a1c (c8b (a1c (a7o hi (a8M ?_))))))))
 exists c3c hx fun t H2 ht e2 s2=>?_
 exists b2z fun dd H3 hd e3 s3=>?_
 exists A2 (by simp) fun l H4 hl e4 s4=>?_
 refine A2 (by simp) fun q H5 hq e5 s5=>?_
 have s04:=(s2.trans s3).trans s4
 have s05:=s04.trans s5
 have B5:=hB.same s05
 have nq:q≠b:=((hB.same s04).nb hq).1
 specialize b5U (a1c (a7o h0 ?_))
 refine D3 B5 (by decide) (by decide) fun n H6 a0 a1 B6 k6=>?_
 obtain⟨v,hv,hv2⟩:=a1H (xs:=[V.non,.ref t,.str z,.ref dd,.int 5,.ref l]) a0 a1
 refine J9 (k6.1 _ _ e5 nq) hv ?_
 refine k v H6 ?_ B6 (b9a s05 k6)
 have hm:=mI hv2
 obtain⟨xb,hxb⟩:=B5.lst
 have n2:H6 t=some (.tup xs):=(z5.ts k6 B5) _ _ (((s3.trans s4).trans s5) _ _ e2)
 have n3:H6 dd=some (.dK []):=k6.1 _ _ ((s4.trans s5) _ _ e3) (T7 ((s4.trans s5) _ _ e3) hxb (by intro z;cases z))
 have n4:H6 l=some (.lst []):=k6.1 _ _ (s5 _ _ e4) (a0P B5 (s5 _ _ e4) (by simp))
 simp only[o0,E9,or_false]at hm
 rcases hm with rfl | rfl | rfl | rfl | rfl | rfl
 ·exact .inl ⟨_,rfl,by decide⟩
 ·exact .inl ⟨"tuple",by simp only[D9,n2],by decide⟩
 ·exact .inl ⟨_,rfl,by decide⟩
 ·exact .inl ⟨"dict",by simp only[D9,n3],by decide⟩
 ·exact .inl ⟨_,rfl,by decide⟩
 ·exact .inr ⟨l,rfl,n4⟩
theorem a5P{n:Int}{z:Str}{x:V}{P:V->Hp->Prop}(hz:z=a9J j)(k:∀p q H',t9 H H'->H' p=some (.tup [x,.ref q])->a5z H' (.ref q) (some (j,n))->P (.ref p) H'):New (.tup [.str z,.int n]) 2 H fun y H1=>New (.tup [x,y]) 2 H1 P:=by
 refine A2 (by decide) fun q H1 hq e1 s1=>A2 (by decide) fun p H2 hp e2 s2=>?_
 exact k p q H2 (s1.trans s2) e2 ⟨q,rfl,by rw[<-hz];exact s2 _ _ e1⟩
theorem b0c(hB:Bag H b d)(hr:G6 H ra N)(h1:1<=N.length)(h400:N.length<=400)
  (k:∀p v due j n H',H' p=some (.tup [v,due])->a1L b H' v j n->a5z H' due (some (j,n))->Bag H' b d->z5 b H H'->Q (.ref p) H'):a1B K [.ref b,.ref ra] H Q E:=by
 refine⟨rfl,?_⟩
 unfold a6c
 nofun
 refine D3 hB (by decide) (by decide) fun n1 H1 a0 a1 B1 k1=>?_
 have R1:=hr.kept hB k1
 ext
 obtain⟨rs,r1,r2,r3⟩:=b4m (a:=b) R1
 have nrb:ra≠b:=by obtain⟨as,q1,_⟩:=R1.ex;exact a1F B1 q1
 nofun
 refine V1 (fun _=>?_) (fun _=>?_)
 ·exact_mod_cast b1C (b7r (a1c ?_))
  exists c0r B1 r1 rfl rfl fun v H2 hv B2 k2=>?_
  refine a5P (j:=0) rfl fun p q H3 s3 e3 d3=>?_
  refine k p v _ 0 0 H3 e3 ?_ d3 (B2.same s3) ((k1.trans k2).trans (z5.of_same s3))
  rcases hv with ⟨s,h1,h2⟩ | ⟨l,rfl,h⟩
  ·exact .no (a9j h1 s3) h2
  ·exact .nil (s3 _ _ h)
 ext
 nofun
 refine V1 (fun _=>?_) (fun _=>?_)
 ·ext
  exists A2 (by simp) fun t H2 ht e2 s2=>?_
  exists A2 (by simp) fun l H3 hl e3 s3=>?_
  refine b7y e3 (by decide) (by decide) (by show 1 * 401<=100000;decide) fun L H4 hL e4 s4=>?_
  rw[a9p]at e4
  ext
  exists A2 (by simp) fun l' H5 hl' e5 s5=>?_
  have s13:=s2.trans s3
  have s15:=(s13.trans s4).trans s5
  have B5:=B1.same s15
  refine D3 B5 (by decide) (by decide) fun n H6 c0 c1 B6 k6=>?_
  have nL:L≠b:=((B1.same s13).nb hL).1
  have nl':l'≠b:=((B1.same (s13.trans s4)).nb hl').1
  refine b7y (k6.1 _ _ e5 nl') c0 (by omega) (by simp;omega) fun L2 H7 hL2 e7 s7=>?_
  rw[a9p]at e7
  refine a1Z (s7 _ _ (k6.1 _ _ (s5 _ _ e4) nL)) e7 ?_
  exists A2 (by simp;omega) fun L3 H8 hL3 e8 s8=>?_
  refine a5P (j:=3) rfl fun p q H9 s9 e9 d9=>?_
  have s69:=(s7.trans s8).trans s9
  refine k p _ _ 3 400 H9 e9 (.many (s9 _ _ e8) ((B6.same s7).nb hL3).1 (by simp)) d9 (B6.same s69) (((k1.trans (z5.of_same s15)).trans k6).trans (z5.of_same s69))
 ext
 nofun
 exists F2 r1 ?_
 refine D3 B1 (by omega) (by omega) fun n H2 c0 c1 B2 k2=>?_
 obtain⟨f,rfl⟩:∃f:Nat,n=(f:Int):=⟨n.toNat,by omega⟩
 have hf:f<rs.length:=by omega
 have r12:=k2.1 _ _ r1 nrb
 have r32:=r3.mv (Mv.kept B1 k2)
 ext
 nofun
 refine b1G r12 fun p1 H3 hp1 e3 s3=>?_
 rw[b7Q (by omega)]at e3
 ext
 have B3:=B2.same s3
 refine a8o B3 fun v H4 o4 B4 k4=>?_
 have e4:=k4.1 _ _ e3 (B2.nb hp1).1
 have r14:=k4.1 _ _ (s3 _ _ r12) nrb
 ext
 refine A2 (by simp) fun p2 H5 hp2 e5 s5=>?_
 exists a1Z (s5 _ _ e4) e5 (A2 (by simp;omega) fun p3 H6 hp3 e6 s6=>?_)
 refine b1G (s6 _ _ (s5 _ _ r14)) fun p4 H7 hp4 e7 s7=>?_
 rw[show((f:Int)+1)=((f+1:Nat):Int) by omega,b1W (by omega)]at e7
 refine a1Z (s7 _ _ e6) e7 (A2 (by simp;omega) fun z H8 hz e8 s8=>?_)
 rw[b7q hf]at e8
 have s47:=(s5.trans s6).trans s7
 have s48:=s47.trans s8
 have B7:=B4.same s47
 have B8:=B4.same s48
 have nzb:z≠b:=(B7.nb hz).1
 have k28:z5 b H2 H8:=((z5.of_same s3).trans k4).trans (z5.of_same s48)
 obtain⟨xb,hxb⟩:=B3.lst
 have A7:a4B b H7 (rs.set f v) ((g7 N.length true).set f false):=by
  have q1:a4B b H7 rs (g7 N.length true):=((r32.mv (Mv.same s3)).mv (Mv.kept B3 k4)).mv (Mv.same s47)
  exact q1.set (z:=false) ((o4 b (by rw[hxb];simp)).mv (Mv.same s47))
 have A8:a4B z H8 (rs.set f v) ((g7 N.length true).set f false):=by
  refine a4B.mv (H:=H7) ⟨A7.len,fun i w y g1 g2=>?_⟩ (Mv.same s8)
  have:=A7.at_ i w y g1 g2
  cases y with
  | true=>exact this
  | false=>exact Z2.re this hz
 ext
 exact_mod_cast Y7 (P:=fun σ H9=>∃x2 vs bs,σ=[some (.ref b),some (.ref ra),x2,some (.int (f:Int)),some (.ref z)]/\H9 z=some (.lst vs)/\vs.length=N.length/\a4B z H9 vs bs/\bs[f]? = some false/\(∀i,i<f->bs[i]? = some true)/\Bag H9 b d/\z5 b H H9) ?_ ?_
 rotate_left
 ·intro nx hnx
  have k08:=(k1.trans k2).trans k28
  have fz:H z=none:=((((k1.trans k2).trans (z5.of_same s3)).trans k4).trans (z5.of_same s47)).none hz
  ext
  refine D3 B8 (by decide) (by decide) fun n H9 d0 d1 B9 k9=>?_
  have e9:=k9.1 _ _ e8 nzb
  have A9:=A8.mv (Mv.kept (a:=z) B8 k9)
  ext
  refine V1 (fun _=>?_) (fun _=>?_)
  ·ext
   refine a8o B9 fun v2 H10 o10 B10 k10=>?_
   have e10:=k10.1 _ _ e9 nzb
   have A10:=A9.mv (Mv.kept (a:=z) B9 k10)
   ext
   refine a6i e10 (a7C (by rw[v8];omega)) ?_
   have A11:=(A10.set (i:=N.length - 1) (z:=false) (o10 z (by rw[e9];simp))).mv (Mv.put (o:=.lst ((rs.set f v).set ((rs.set f v).length - 1) v2)) e10)
   have el:(rs.set f v).length - 1=N.length - 1:=by rw[v8];omega
   refine hnx _ _ ⟨_,_,_,rfl,g9,by rw[v8,v8];exact r2,?_,(a4p (n:=N.length) (by omega)).1,(a4p (by omega)).2,B10.put nzb (B7.nb hz).2,((k08.trans k9).trans k10).put fz⟩
   rw[el]at A11 ⊢
   exact A11
  ·ext
   exact hnx _ _ ⟨_,_,_,rfl,e9,by rw[v8];exact r2,A9,(a0A (by omega)).1,(a0A (by omega)).2,B9,k08.trans k9⟩
 rintro _ H9 ⟨x2,vs,bs,rfl,e9,lv,A9,g1,g2,B9,k9⟩
 ext
 refine a5P (j:=1) rfl fun p q H10 s10 e10 d10=>?_
 exact k p _ _ 1 f H10 e10 (.row (s10 _ _ e9) nzb (by omega) (by omega) (A9.mv (Mv.same s10)) g1 g2) d10 (B9.same s10) (k9.trans (z5.of_same s10))
theorem b8T(hn:E7 H na N)(h2:∀l∈N,l.length<=2)(hlt:∀l∈N,∀t∈l,t<N.length)(hr:G6 H p N)(hp:H p=some (.lst rs))(ha:H a=none\/Bag H a d):∃vs,H na=some (.lst vs)/\vs.length=N.length/\rs.length=N.length/\a6P a H N.length rs vs (g7 N.length true):=by
 obtain⟨as,n1,n2,n3⟩:=hn.ex
 obtain⟨ps,r1,r2,r3⟩:=hr.ex
 rw[hp]at r1
 cases r1
 refine⟨_,n1,by rw[b5,n2],by rw[b5,r2],by rw[b5,b5,n2,r2],by simp[r2],fun i r w z e0 e1 e2=>?_⟩
 rw[D0]at e2
 split at e2
 ·cases e2
  rename_i hi
  rw[c8,j6 (by omega)]at e0 e1
  cases e0
  cases e1
  have q:=n3 i _ _ (j6 (by omega)) (L4 hi)
  have l2:=h2 _ (C8 hi)
  refine⟨_,_,rfl,q,l2,hlt _ (C8 hi),r3 i _ _ (j6 (by omega)) (L4 hi),?_⟩
  rcases ha with f | B
  ·exact d5 q f
  ·exact a0P B q (by rw[K6];omega)
 ·cases e2
theorem a4L(hB:Bag H b d)(hr:G6 H ra N)(hn:E7 H na N)(hv:a5x N)
  (k:∀p v due j n H',H' p=some (.tup [v,due])->b2f b ra H' N.length v j n->a5z H' due (some (j,n))->Bag H' b d->z5 b H H'->Q (.ref p) H'):Z4 K [.ref b,.ref ra,.ref na] H Q E:=by
 have hpos:=hv.pos
 have hle:=hv.le
 refine⟨rfl,?_⟩
 unfold a5c
 nofun
 refine D3 hB (by decide) (by decide) fun n1 H1 a0 a1 B1 k1=>?_
 have R1:=hr.kept hB k1
 have N1:=hn.kept hB hv.two k1
 ext
 obtain⟨rs,r1,r2⟩:=R1.len
 obtain⟨vs,v1,v2,_,v3⟩:=b8T (a:=b) (d:=d) N1 hv.two hv.lt R1 r1 (.inr B1)
 have nrb:ra≠b:=by obtain⟨as,q1,_⟩:=R1.ex;exact a1F B1 q1
 have nnb:na≠b:=by obtain⟨as,q1,_⟩:=N1.ex;exact a1F B1 q1
 nofun
 refine V1 (fun _=>?_) (fun _=>?_)
 ·exact_mod_cast b1C (b7r (a1c ?_))
  exists c0r B1 v1 rfl rfl fun v H2 hv B2 k2=>?_
  refine a5P (j:=0) rfl fun p q H3 s3 e3 d3=>?_
  refine k p v _ 0 1 H3 e3 ?_ d3 (B2.same s3) ((k1.trans k2).trans (z5.of_same s3))
  rcases hv with ⟨s,h1,h2⟩ | ⟨l,rfl,h⟩
  ·exact .no (a9j h1 s3) h2
  ·exact .len (s3 _ _ h) (a0P B2 h (by simp)) (by simp;omega)
 ext
 nofun
 refine V1 (fun _=>?_) (fun _=>?_)
 ·ext
  refine b1G v1 fun p1 H2 hp1 e2 s2=>?_
  rw[c5p]at e2
  ext
  exists A2 (by simp) fun l3 H3 hl3 e3 s3=>?_
  refine A2 (by simp) fun l4 H4 hl4 e4 s4=>?_
  have s13:=s2.trans s3
  have s14:=s13.trans s4
  exists a1Z (s14 _ _ v1) e4 (A2 (by simp;omega) fun p5 H5 hp5 e5 s5=>?_)
  exists A2 (by simp) fun l6 H6 hl6 e6 s6=>?_
  refine A2 (by simp) fun l7 H7 hl7 e7 s7=>?_
  have s15:=s14.trans s5
  have s16:=s15.trans s6
  have s17:=s16.trans s7
  ext
  exists a1Z e7 (s17 _ _ v1) (A2 (by simp;omega) fun p8 H8 hp8 e8 s8=>?_)
  have s18:=s17.trans s8
  refine A2 (by simp) fun p9 H9 hp9 e9 s9=>?_
  have s19:=s18.trans s9
  have B9:=B1.same s19
  ext
  refine D3 B9 (by decide) (by decide) fun n H10 c0 c1 B10 k10=>?_
  obtain⟨v,hv1,hv2⟩:=a1H (xs:=[V.ref p1,.ref p5,.ref p8]) c0 c1
  exists J9 (k10.1 _ _ e9 ((B1.same s18).nb hp9).1) hv1 ?_
  refine a5P (j:=0) rfl fun p q H11 s11 e11 d11=>?_
  have q1:p1≠b:=(B1.nb hp1).1
  have q5:p5≠b:=((B1.same s14).nb hp5).1
  have q8:p8≠b:=((B1.same s17).nb hp8).1
  have g1:=s11 _ _ (k10.1 _ _ ((((((s3.trans s4).trans s5).trans s6).trans s7).trans s8).trans s9 _ _ e2) q1)
  have g5:=s11 _ _ (k10.1 _ _ ((((s6.trans s7).trans s8).trans s9) _ _ e5) q5)
  have g8:=s11 _ _ (k10.1 _ _ (s9 _ _ e8) q8)
  refine k p v _ 0 1 H11 e11 ?_ d11 (B10.same s11) (((k1.trans (z5.of_same s19)).trans k10).trans (z5.of_same s11))
  have hm:=mI hv2
  simp only[o0,E9,or_false]at hm
  rcases hm with rfl | rfl | rfl
  ·exact .len g1 q1 (by rw[a4V];omega)
  ·exact .len g5 q5 (by simp;omega)
  ·exact .len g8 q8 (by simp;omega)
 ext
 nofun
 exists F2 r1 ?_
 refine D3 B1 (by omega) (by omega) fun n H2 c0 c1 B2 k2=>?_
 obtain⟨f,rfl⟩:∃f:Nat,n=(f:Int):=⟨n.toNat,by omega⟩
 have hf:f<rs.length:=by omega
 have r12:=k2.1 _ _ r1 nrb
 have v12:=k2.1 _ _ v1 nnb
 have v32:=v3.mv (Mv.kept B1 k2)
 have R2:=R1.kept B1 k2
 ext
 nofun
 refine b1G v12 fun p1 H3 hp1 e3 s3=>?_
 rw[b7Q (by omega)]at e3
 ext
 have B3:=B2.same s3
 have r13:=s3 _ _ r12
 have R3:=R2.same s3
 have rowAt:∀(G:Hp),G6 G ra N->G ra=some (.lst rs)->∀i,i<rs.length->∃r ask,rs[i]? = some r/\a5U G r ask:=by
  intro G RG eG i hi
  obtain⟨ps,q1,q2,q3⟩:=RG.ex
  rw[eG]at q1
  cases q1
  rw[b5]at hi
  exact⟨_,_,by rw[c8,j6 hi];rfl,q3 i _ _ (j6 hi) (L4 (by omega))⟩
 obtain⟨rf,ask,hrf,hra⟩:=rowAt H3 R3 r13 f hf
 exists J9 r13 (a0g hrf) ?_
 exists F2 r13 ?_
 refine a8O (m:=rs.length) B3 hra fun v H4 o4 B4 k4=>?_
 have e4:=k4.1 _ _ e3 (B2.nb hp1).1
 have v14:=k4.1 _ _ (s3 _ _ v12) nnb
 ext
 refine A2 (by simp) fun p2 H5 hp2 e5 s5=>?_
 exists a1Z (s5 _ _ e4) e5 (A2 (by simp;omega) fun p3 H6 hp3 e6 s6=>?_)
 refine b1G (s6 _ _ (s5 _ _ v14)) fun p4 H7 hp4 e7 s7=>?_
 rw[show((f:Int)+1)=((f+1:Nat):Int) by omega,b1W (by omega)]at e7
 refine a1Z (s7 _ _ e6) e7 (A2 (by simp;omega) fun z H8 hz e8 s8=>?_)
 rw[b7q (by omega)]at e8
 have s47:=(s5.trans s6).trans s7
 have s48:=s47.trans s8
 have B7:=B4.same s47
 have B8:=B4.same s48
 have nzb:z≠b:=(B7.nb hz).1
 have k28:z5 b H2 H8:=((z5.of_same s3).trans k4).trans (z5.of_same s48)
 obtain⟨xb,hxb⟩:=B3.lst
 have A7:a6P b H7 N.length rs (vs.set f v) ((g7 N.length true).set f false):=by
  have q1:a6P b H7 N.length rs vs (g7 N.length true):=((v32.mv (Mv.same s3)).mv (Mv.kept B3 k4)).mv (Mv.same s47)
  refine q1.set (z:=false) fun r hr=>?_
  rw[hrf]at hr
  cases hr
  refine⟨ask,(hra.ts (z5.ts k4 B3)).ts (t9.ts s47),?_⟩
  rw[<-r2]
  exact(o4 b (by rw[hxb];simp)).mv (Mv.same s47)
 have A8:a6P z H8 N.length rs (vs.set f v) ((g7 N.length true).set f false):=(A7.re hz).mv (Mv.same s8)
 have r18:=k28.1 _ _ r12 nrb
 have R8:=R2.kept B2 k28
 ext
 exact_mod_cast Y7 (P:=fun σ H9=>∃x3 ws bs,σ=[some (.ref b),some (.ref ra),some (.ref na),x3,some (.int (f:Int)),some (.ref z)]/\H9 z=some (.lst ws)/\H9 ra=some (.lst rs)/\a6P z H9 N.length rs ws bs/\bs[f]? = some false/\(∀i,i<f->bs[i]? = some true)/\Bag H9 b d/\z5 b H H9) ?_ ?_
 rotate_left
 ·intro nx hnx
  have k08:=(k1.trans k2).trans k28
  have fz:H z=none:=((((k1.trans k2).trans (z5.of_same s3)).trans k4).trans (z5.of_same s47)).none hz
  have nzr:ra≠z:=d5 ((s5.trans s6).trans s7 _ _ (k4.1 _ _ r13 nrb)) hz
  ext
  refine D3 B8 (by decide) (by decide) fun n H9 d0 d1 B9 k9=>?_
  have e9:=k9.1 _ _ e8 nzb
  have r19:=k9.1 _ _ r18 nrb
  have A9:=A8.mv (Mv.kept (a:=z) B8 k9)
  ext
  refine V1 (fun _=>?_) (fun _=>?_)
  ·ext
   exists F2 r19 ?_
   refine V1 (fun _=>?_) (fun _=>?_)
   ·ext
    have R9:=R8.kept B8 k9
    obtain⟨rl,ask2,hrl,hrl2⟩:=rowAt H9 R9 r19 (rs.length - 1) (by omega)
    refine J9 r19 (v:=rl) ?_ ?_
    ·unfold atI
     rw[a7C (by omega)]
     exact hrl
    ext
    exists F2 r19 ?_
    refine a8O (m:=rs.length) B9 hrl2 fun w2 H10 o10 B10 k10=>?_
    have e10:=k10.1 _ _ e9 nzb
    have r110:=k10.1 _ _ r19 nrb
    have A10:=A9.mv (Mv.kept (a:=z) B9 k10)
    ext
    refine a6i e10 (a7C (by rw[v8];omega)) ?_
    have A11:=(A10.set (i:=N.length - 1) (w:=w2) (z:=false) fun r hr=>by
     rw[<-r2,hrl]at hr
     cases hr
     refine⟨ask2,hrl2.ts (z5.ts k10 B9),?_⟩
     rw[<-r2]
     exact o10 z (by rw[e9];simp)).mv (Mv.put (o:=.lst ((vs.set f v).set ((vs.set f v).length - 1) w2)) e10)
    have el:(vs.set f v).length - 1=N.length - 1:=by rw[v8];omega
    refine hnx _ _ ⟨_,_,_,rfl,g9,by rw[j7 nzr];exact r110,?_,(a4p (n:=N.length) (by omega)).1,(a4p (by omega)).2,B10.put nzb (B7.nb hz).2,((k08.trans k9).trans k10).put fz⟩
    rw[el]at A11 ⊢
    exact A11
   ·ext
    exact hnx _ _ ⟨_,_,_,rfl,e9,r19,A9,(a0A (by omega)).1,(a0A (by omega)).2,B9,k08.trans k9⟩
  ·ext
   exists A3 rfl ?_
   exact hnx _ _ ⟨_,_,_,rfl,e9,r19,A9,(a0A (by omega)).1,(a0A (by omega)).2,B9,k08.trans k9⟩
 rintro _ H9 ⟨x3,ws,bs,rfl,e9,r19,A9,g1,g2,B9,k9⟩
 ext
 refine a5P (j:=1) rfl fun p q H10 s10 e10 d10=>?_
 exact k p _ _ 1 f H10 e10 (.odd (s10 _ _ e9) nzb (s10 _ _ r19) nrb (by omega) (A9.mv (Mv.same s10)) g1 g2) d10 (B9.same s10) (k9.trans (z5.of_same s10))
end
section
variable {G S:List Nat}
def gC(N:Nt)(G:List Nat)(i:Nat):Bool:=decide (N.getD i []=[])||((N.getD i []).map fun t=>decide (t∈G)).any id
def gS(N:Nt)(G:List Nat)(i:Nat):List Nat:=if gC N G i=true then Y5 G i else G
def sS(N:Nt)(S:List Nat)(i:Nat):List Nat:=if i∈S then (N.getD i []).foldl Y5 S else S
theorem b2H(h:(Y5 G i).length=G.length):i∈G:=by
 unfold Y5 at h
 split at h
 ·assumption
 ·simp at h
theorem a9q(h:i∈G):Y5 G i=G:=b7z h
structure a4y(f:List Nat->Nat->List Nat)(ok:List Nat->Nat->Prop):Prop where
 sub:∀G i,∀x∈G,x∈f G i
 len:∀G i,G.length<=(f G i).length
 eq:∀G i,(f G i).length=G.length->f G i=G/\ok G i
 fix:∀G i,ok G i->f G i=G
theorem a4y.fold{f:List Nat->Nat->List Nat}{ok:List Nat->Nat->Prop}(h:a4y f ok):∀(L:List Nat) (G:List Nat),(∀x∈G,x∈L.foldl f G)/\G.length<=(L.foldl f G).length/\((L.foldl f G).length=G.length->∀i∈L,ok G i)/\((∀i∈L,ok G i)->L.foldl f G=G)
 | [],G=>⟨fun _ h=>h,j9 _,fun _=>by simp,fun _=>rfl⟩
 | a::L,G=>by
  obtain⟨q1,q2,q3,q4⟩:=h.fold L (f G a)
  have l1:=h.len G a
  refine⟨fun x hx=>q1 x (h.sub G a x hx),F3 l1 q2,fun e=>?_,fun e=>?_⟩
  ·have e':(L.foldl f (f G a)).length=G.length:=e
   obtain⟨g1,g2⟩:=h.eq G a (by omega)
   intro i hi
   rcases o0.mp hi with rfl | hi
   ·exact g2
   ·have:=q3 (by omega) i hi
    rwa [g1]at this
  ·have g:=h.fix G a (e a J3)
   show L.foldl f (f G a)=G
   rw[g]at q4 ⊢
   exact q4 fun i hi=>e i (E8 _ hi)
def itr(f:List Nat->List Nat):Nat->List Nat->List Nat
 | 0,G=>G
 | n+1,G=>f (itr f n G)
theorem a4y.all{f:List Nat->Nat->List Nat}{ok:List Nat->Nat->Prop}(h:a4y f ok)(B:List Nat->Prop)(hB:∀G,B G->G.length<=n)(hf:∀G,B G->G.length=n->∀i,i<n->ok G i)(hk:∀G,B G->B ((u7 n).foldl f G))(hG:B G):∀i,i<n->ok (itr (fun G=>(u7 n).foldl f G) n G) i:=by
 have main:∀t,B (itr (fun G=>(u7 n).foldl f G) t G)/\((∀i,i<n->ok (itr (fun G=>(u7 n).foldl f G) t G) i)\/t<=(itr (fun G=>(u7 n).foldl f G) t G).length):=by
  intro t
  induction t with
  | zero=>exact⟨hG,.inr (L5 _)⟩
  | succ t ih=>
   obtain⟨b,ih⟩:=ih
   refine⟨hk _ b,?_⟩
   obtain⟨q1,q2,q3,q4⟩:=h.fold (u7 n) (itr (fun G=>(u7 n).foldl f G) t G)
   rcases ih with c | c
   ·have:=q4 fun i hi=>c i (G8.mp hi)
    left
    show ∀i,i<n->ok ((u7 n).foldl f _) i
    rw[this]
    exact c
   ·by_cases e:((u7 n).foldl f (itr (fun G=>(u7 n).foldl f G) t G)).length=(itr (fun G=>(u7 n).foldl f G) t G).length
    ·have c':=q3 e
     have:=q4 c'
     left
     show ∀i,i<n->ok ((u7 n).foldl f _) i
     rw[this]
     exact fun i hi=>c' i (G8.mpr hi)
    ·right
     show t+1<=((u7 n).foldl f _).length
     omega
 obtain⟨b,m⟩:=main n
 rcases m with c | c
 ·exact c
 ·exact hf _ b (Nat.le_antisymm (hB _ b) c)
theorem c4w(N:Nt):a4y (gS N) (fun G i=>gC N G i=true->i∈G):=by
 refine⟨fun G i x hx=>?_,fun G i=>?_,fun G i e=>?_,fun G i e=>?_⟩
 ·unfold gS
  split
  ·exact U8.mpr (.inl hx)
  ·exact hx
 ·unfold gS
  split
  ·exact b1P
  ·exact j9 _
 ·unfold gS at e ⊢
  split at e
  ·rename_i c
   have:=b2H e
   rw[if_pos c,a9q this]
   exact⟨rfl,fun _=>this⟩
  ·rename_i c
   rw[if_neg c]
   exact⟨rfl,fun z=>absurd z c⟩
 ·unfold gS
  split
  ·rename_i c
   exact a9q (e c)
  ·rfl
theorem a5s(l S:List Nat):(∀x∈S,x∈l.foldl Y5 S)/\S.length<=(l.foldl Y5 S).length/\((l.foldl Y5 S).length=S.length->∀x∈l,x∈S)/\((∀x∈l,x∈S)->l.foldl Y5 S=S):=by
 have:a4y Y5 (fun S i=>i∈S):=⟨fun S i x hx=>U8.mpr (.inl hx),fun S i=>b1P,fun S i e=>⟨a9q (b2H e),b2H e⟩,fun S i e=>a9q e⟩
 exact this.fold l S
theorem b7w(N:Nt):a4y (sS N) (fun S i=>i∈S->∀x∈N.getD i [],x∈S):=by
 refine⟨fun S i x hx=>?_,fun S i=>?_,fun S i e=>?_,fun S i e=>?_⟩
 ·unfold sS
  split
  ·exact(a5s _ S).1 x hx
  ·exact hx
 ·unfold sS
  split
  ·exact(a5s _ S).2.1
  ·exact j9 _
 ·unfold sS at e ⊢
  split at e
  ·rename_i c
   have:=(a5s _ S).2.2.1 e
   rw[if_pos c]
   exact⟨(a5s _ S).2.2.2 this,fun _=>this⟩
  ·rename_i c
   rw[if_neg c]
   exact⟨rfl,fun z=>absurd z c⟩
 ·unfold sS
  split
  ·rename_i c
   exact(a5s _ S).2.2.2 (e c)
  ·rfl
def Bnd(P:Nat->Prop)(n:Nat)(G:List Nat):Prop:=G.Nodup/\(∀x∈G,x<n)/\∀x∈G,P x
theorem Bnd.len{P:Nat->Prop}(h:Bnd P n G):G.length<=n:=a7A _ _ h.1 h.2.1
theorem Bnd.put{P:Nat->Prop}(h:Bnd P n G)(hi:i<n)(hp:P i):Bnd P n (Y5 G i):=⟨a7z h.1,fun x hx=>(U8.mp hx).elim (h.2.1 x) fun z=>z ▸ hi,fun x hx=>(U8.mp hx).elim (h.2.2 x) fun z=>z ▸ hp⟩
theorem Bnd.full{P:Nat->Prop}(h:Bnd P n G)(e:G.length=n)(hi:i<n):i∈G:=by
 by_cases q:i∈G
 ·exact q
 ·have:=a7A n (i::G) (X5.mpr ⟨q,h.1⟩) fun x hx=>(o0.mp hx).elim (fun z=>z ▸ hi) (h.2.1 x)
  rw[z9]at this
  omega
theorem a0V(h:i<N.length):N[i]? = some (N.getD i []):=by
 simp[M3,h]
theorem c8K(hi:i<N.length)(h:∀x∈G,Gd N x)(c:gC N G i=true):Gd N i:=by
 unfold gC at c
 rw[a5Z]at c
 rcases c with c | c
 ·exact .stop (by rw[a0V hi,of_decide_eq_true c])
 ·obtain⟨t,h1,h2⟩:=c2i c
  exact .step (a0V hi) h1 (h t h2)
theorem c1Q(hi:i<N.length)(h:Bnd (Gd N) N.length G):Bnd (Gd N) N.length (gS N G i):=by
 unfold gS
 split
 ·rename_i c
  exact h.put hi (c8K hi h.2.2 c)
 ·exact h
theorem c5S(hlt:∀l∈N,∀t∈l,t<N.length)(hi:i<N.length)(h:Bnd (Rc N) N.length S):Bnd (Rc N) N.length (sS N S i):=by
 unfold sS
 split
 ·rename_i c
  have go:∀(l S:List Nat),(∀t∈l,t<N.length/\Rc N t)->Bnd (Rc N) N.length S->Bnd (Rc N) N.length (l.foldl Y5 S):=by
   intro l
   induction l with
   | nil=>exact fun S _ h=>h
   | cons a r ih=>exact fun S hl hS=>ih _ (fun t ht=>hl t (E8 _ ht)) (hS.put (hl a J3).1 (hl a J3).2)
  have e:=a0V hi
  exact go _ S (fun t ht=>⟨hlt _ (mI e) t ht,.step (h.2.2 i c) e ht⟩) h
 ·exact h
theorem b0u{f:List Nat->Nat->List Nat}{P:Nat->Prop}(hf:∀G i,i<n->Bnd P n G->Bnd P n (f G i)):∀(L:List Nat) (G:List Nat),(∀i∈L,i<n)->Bnd P n G->Bnd P n (L.foldl f G)
 | [],_,_,h=>h
 | a::L,G,hl,h=>b0u hf L (f G a) (fun i hi=>hl i (E8 _ hi)) (hf G a (hl a J3) h)
def gT(N:Nt)(G:List Nat):List Nat:=(u7 N.length).foldl (gS N) G
def sT(N:Nt)(S:List Nat):List Nat:=(u7 N.length).foldl (sS N) S
theorem c7r(n:Nat)(hn:n=N.length):∀k,k<N.length->(k∈itr (gT N) n []↔Gd N k):=by
 subst hn
 have b0:Bnd (Gd N) N.length []:=⟨by simp,by simp,by simp⟩
 have hk:∀G,Bnd (Gd N) N.length G->Bnd (Gd N) N.length (gT N G):=fun G h=>b0u (fun G i hi h=>c1Q hi h) _ G (fun i hi=>G8.mp hi) h
 have bn:∀t,Bnd (Gd N) N.length (itr (gT N) t []):=fun t=>by
  induction t with
  | zero=>exact b0
  | succ t ih=>exact hk _ ih
 have cl:=(c4w N).all (Bnd (Gd N) N.length) (fun G h=>h.len) (fun G h e i hi _=>h.full e hi) hk b0
 intro k hk'
 refine⟨(bn _).2.2 k,fun h=>?_⟩
 induction h with
 | @stop k h=>
  refine cl k hk' ?_
  unfold gC
  rw[a5Z]
  refine .inl (d0K ?_)
  simp[M3,h]
 | @step k t l h ht hg ih=>
  refine cl k hk' ?_
  unfold gC
  rw[a5Z]
  refine .inr (b0P.mpr ⟨true,G5.mpr ⟨t,?_,d0K (ih ?_)⟩,rfl⟩)
  ·simp[M3,h];exact ht
  ·cases hg with
   | stop q=>exact(gI q)
   | step q _ _=>exact(gI q)
theorem c5R(h0:0<N.length)(hlt:∀l∈N,∀t∈l,t<N.length)(n:Nat)(hn:n=N.length):∀k,k<N.length->(k∈itr (sT N) n [0]↔Rc N k):=by
 subst hn
 have b0:Bnd (Rc N) N.length [0]:=⟨by simp,fun x hx=>by rw[g6.mp hx];exact h0,fun x hx=>by rw[g6.mp hx];exact .zero⟩
 have hk:∀S,Bnd (Rc N) N.length S->Bnd (Rc N) N.length (sT N S):=fun S h=>b0u (fun S i hi h=>c5S hlt hi h) _ S (fun i hi=>G8.mp hi) h
 have bn:∀t,Bnd (Rc N) N.length (itr (sT N) t [0])/\0∈itr (sT N) t [0]:=fun t=>by
  induction t with
  | zero=>exact⟨b0,by simp[itr]⟩
  | succ t ih=>exact⟨hk _ ih.1,((b7w N).fold _ _).1 0 ih.2⟩
 have cl:=(b7w N).all (Bnd (Rc N) N.length) (fun S h=>h.len) (fun S h e i hi _ x hx=>h.full e (hlt _ (mI (a0V hi)) x hx)) hk b0
 intro k hk'
 refine⟨(bn _).1.2.2 k,fun h=>?_⟩
 have go:∀k,Rc N k->k∈itr (sT N) N.length [0]/\k<N.length:=by
  intro k h
  induction h with
  | zero=>exact⟨(bn _).2,h0⟩
  | @step k t l _ h ht ih=>
   have e:=a0V ih.2
   rw[h]at e
   refine⟨cl k ih.2 ih.1 t ?_,hlt l (mI h) t ht⟩
   rw[<-Option.some.inj e]
   exact ht
 exact(go k h).1
theorem b3a{p:Nat->Bool}{x:Nat}{r:List Nat}(h:(u7 n).filter p=x::r):x<n/\p x=true/\∀i,i<x->p i=false:=by
 have hm:x∈(u7 n).filter p:=by rw[h];simp
 obtain⟨h1,h2⟩:=U0.mp hm
 have hx:=G8.mp h1
 refine⟨hx,h2,fun i hi=>?_⟩
 cases e:p i with
 | false=>rfl
 | true=>
  have him:i∈(u7 n).filter p:=U0.mpr ⟨G8.mpr (by omega),e⟩
  have pw:((u7 n).filter p).Pairwise (· < ·):=List.Pairwise.filter _ List.pairwise_lt_range
  rw[h]at him pw
  rcases o0.mp him with z | z
  ·omega
  ·have:=(c2y.mp pw).1 i z
   omega
theorem b4R{p:Nat->Bool}(h:(u7 n).filter p=[]):∀i,i<n->p i=false:=fun i hi=>by
 cases e:p i with
 | false=>rfl
 | true=>
  have:i∈(u7 n).filter p:=U0.mpr ⟨G8.mpr hi,e⟩
  rw[h]at this
  cases this
end
section
variable {K:Fg}{g s:Addr}{G S:List Nat}{E:XK}{x3 x5 x6:Option V}
structure AmI(H0 H:Hp)(g s:Addr)(N:Nt)(G S:List Nat):Prop where
 same:t9 H0 H
 hg:H g=some (.dK (KS G))
 hs:H s=some (.dK (KS S))
 ne:g≠s
 fg:H0 g=none
 fs:H0 s=none
 bg:Bnd (Gd N) N.length G
 bs:Bnd (Rc N) N.length S
theorem AmI.next(h:AmI H0 H g s N G S)(t:t9 H H'):AmI H0 H' g s N G S:=⟨h.same.trans t,t _ _ h.hg,t _ _ h.hs,h.ne,h.fg,h.fs,h.bg,h.bs⟩
theorem AmI.putG(h:AmI H0 H g s N G S)(b:Bnd (Gd N) N.length (Y5 G i)):AmI H0 (upd H g (.dK (KS (Y5 G i)))) g s N (Y5 G i) S:=
 ⟨fun a o e=>by rw[j7 (d5 e h.fg)];exact h.same a o e,g9,by rw[j7 h.ne.symm];exact h.hs,h.ne,h.fg,h.fs,b,h.bs⟩
theorem AmI.putS(h:AmI H0 H g s N G S)(b:Bnd (Rc N) N.length (Y5 S i)):AmI H0 (upd H s (.dK (KS (Y5 S i)))) g s N G (Y5 S i):=
 ⟨fun a o e=>by rw[j7 (d5 e h.fs)];exact h.same a o e,by rw[j7 h.ne];exact h.hg,g9,h.ne,h.fg,h.fs,h.bg,b⟩
theorem c4C(hn:E7 H0 na N)(hN:N.length<=400)(h2:∀l∈N,l.length<=2)(hi:i<N.length)(I:AmI H0 H g s N G S)
  (k:∀H',AmI H0 H' g s N (gS N G i) S->D.nx [some (.ref na),some (.ref g),some (.ref s),x3,some (.int (i:Int)),x5,x6] H') :
  K7 (tOr (D7 (tOp qEq (tOp qIx (b8 0) (b8 4)) (F1 c6))) (tB (tCB b2E (a8 (S3 (X4 K (tOp qIx (b8 0) (b8 4))) T5 (a7X (b8 0) (b8 2))) c6)))) (a3r (b8 1) (b8 4) (tC (.bl true))) E3 D
   [some (.ref na),some (.ref g),some (.ref s),x3,some (.int (i:Int)),x5,x6] H:=by
 have hl:=a0V hi
 obtain⟨l,el⟩:∃l,l=N.getD i []:=⟨_,rfl⟩
 have ll:l.length<=2:=by rw[el];exact h2 _ (mI hl)
 rw[<-el]at hl
 have hGl:G.length<100000:=by have:=I.bg.len;omega
 have put:∀H1,AmI H0 H1 g s N G S->gC N G i=true->a3r (b8 1) (b8 4) (tC (.bl true)) D [some (.ref na),some (.ref g),some (.ref s),x3,some (.int (i:Int)),x5,x6] H1:=by
  intro H1 I1 c
  specialize b0b ?_
  refine⟨g,_,rfl,a7J I1.hg hGl i,k _ ?_⟩
  have e:gS N G i=Y5 G i:=by unfold gS;rw[if_pos c]
  have b:=c1Q hi I1.bg
  rw[e]at b ⊢
  exact I1.putG b
 obtain⟨xs,x,h1,h2',h3,_⟩:=hn.at hl
 ext
 exists J9 (I.same _ _ h1) h2' ?_
 refine A2 (by simp) fun p H1 hp e1 s1=>?_
 have I1:=I.next s1
 refine⟨_,a7I (I1.same _ _ h3) e1 (a7P l) rfl,?_⟩
 rw[a4o,K6]
 ext
 by_cases hz:l=[]
 ·refine D2 (d0K (by rw[hz];rfl)) ?_
  refine D2 rfl ?_
  refine put H1 I1 ?_
  unfold gC
  rw[<-el,d0K hz]
  rfl
 exists A3 (d0J fun z=>hz (a4U.mp z)) ?_
 specialize V7 (Z1 ?_)
 refine J9 (I1.same _ _ h1) h2' ?_
 refine⟨x,rfl,⟨_,SqL.of (I1.same _ _ h3)⟩,fun E hE=>?_⟩
 refine U9 (xs:=IL l) (fun j ys H2=>ys=(l.take j).map (fun t=>V.bl (decide (t∈G)))/\H2 E=some (.lst ys)/\t9 H1 H2) ⟨by simp,g9,C5 hE⟩ ?_ ?_ ?_ ?_
 ·rintro j ys H2 ⟨_,h,_⟩
  exact h
 ·rintro j ys H2 _ ⟨_,_,s2⟩
  exact SqL.of (s2 _ _ (I1.same _ _ h3))
 ·rintro j y ys H2 hy ⟨rfl,hE2,s2⟩ R hR
  have hy:(l.map fun(n:Nat)=>V.int (n:Int))[j]? = some y:=hy
  rw[c8]at hy
  cases ht:l[j]? with
  | none=>rw[ht]at hy;cases hy
  | some t=>
   rw[ht]at hy
   cases hy
   have hj:=(gI ht)
   specialize b4j ?_
   obtain⟨o,g1,g2⟩:=a0B (s2 _ _ I1.hg) t
   refine⟨g,o,rfl,g1,?_⟩
   rw[g2]
   refine hR _ _ hE2 (M9 ?_) ⟨?_,g9,fun b o e=>?_⟩
   ·rw[b5,J0]
    omega
   ·rw[b2X l _ j ht]
   ·rw[j7 (d5 e hE)];exact s2 b o e
 ·rintro ys H2 ⟨rfl,hE2,s2⟩
  rw[K6,V6]at hE2
  have he:l.map (fun t=>V.bl (decide (t∈G)))=(l.map fun t=>decide (t∈G)).map V.bl:=by rw[a0h];rfl
  rw[he]at hE2
  ext
  exists c5f hE2 ?_
  have ec:gC N G i=(l.map fun t=>decide (t∈G)).any id:=by
   unfold gC
   rw[<-el,d0J hz,b5u]
  refine V1 (fun c=>?_) (fun c=>?_)
  ·exact put H2 (I1.next s2) (by rw[ec];exact c)
  ·ext
   have e:gS N G i=G:=by unfold gS;rw[if_neg (by rw[ec];exact c)]
   rw[e]at k
   exact k H2 (I1.next s2)
theorem c2k(hn:E7 H0 na N)(hN:N.length<=400)(hlt:∀l∈N,∀t∈l,t<N.length)(hi:i<N.length)(I:AmI H0 H g s N G S)
  (k:∀H' x5,AmI H0 H' g s N G (sS N S i)->D.nx [some (.ref na),some (.ref g),some (.ref s),x3,some (.int (i:Int)),x5,x6] H') :
  K7 (tB (a7X (b8 4) (b8 2))) (a2y (X4 K (tOp qIx (b8 0) (b8 4))) (u4 5) (a3r (b8 2) (b8 5) (tC (.bl true)))) E3 D [some (.ref na),some (.ref g),some (.ref s),x3,some (.int (i:Int)),x5,x6] H:=by
 have hl:=a0V hi
 obtain⟨l,el⟩:∃l,l=N.getD i []:=⟨_,rfl⟩
 rw[<-el]at hl
 ext
 specialize b4j ?_
 obtain⟨o,g1,g2⟩:=a0B I.hs i
 refine⟨s,o,rfl,g1,?_⟩
 rw[g2]
 ext
 refine V1 (fun c=>?_) (fun c=>?_)
 ·have hiS:i∈S:=of_decide_eq_true c
  have rci:=I.bs.2.2 i hiS
  obtain⟨xs,x,h1,h2,h3,_⟩:=hn.at hl
  specialize a1o (Z1 ?_)
  refine J9 (I.same _ _ h1) h2 ?_
  refine⟨x,rfl,⟨_,SqL.of (I.same _ _ h3)⟩,a7G (xs:=IL l) (fun j σ H2=>∃x5,σ=[some (.ref na),some (.ref g),some (.ref s),x3,some (.int (i:Int)),x5,x6]/\AmI H0 H2 g s N G ((l.take j).foldl Y5 S)) ?_ ?_ ?_ ?_⟩
  ·exact⟨x5,rfl,I⟩
  ·rintro j σ H2 _ ⟨_,_,I2⟩
   exact SqL.of (I2.same _ _ h3)
  ·rintro j y _ H2 hy ⟨x5,rfl,I2⟩
   have hy:(l.map fun(n:Nat)=>V.int (n:Int))[j]? = some y:=hy
   rw[c8]at hy
   cases ht:l[j]? with
   | none=>rw[ht]at hy;cases hy
   | some t=>
    rw[ht]at hy
    cases hy
    have tm:=mI ht
    ext
    specialize b0b ?_
    refine⟨s,_,rfl,a7J I2.hs (by have:=I2.bs.len;omega) t,?_⟩
    refine⟨_,rfl,?_⟩
    rw[K0,ht,Option.toList_some,a9y]
    exact I2.putS (I2.bs.put (hlt l (mI hl) t tm) (.step rci hl tm))
  ·rintro _ H2 ⟨x5,rfl,I2⟩
   rw[K6,V6]at I2
   have e:sS N S i=l.foldl Y5 S:=by unfold sS;rw[if_pos hiS,el]
   rw[e]at k
   exact k H2 x5 I2
 ·ext
  have e:sS N S i=S:=by unfold sS;rw[if_neg fun z=>c (d0K z)]
  rw[e]at k
  exact k H x5 I
theorem b9g(k:∀p H',H p=none->H' p=some (.dK (KS [0]))->t9 H H'->Q (.ref p) H'):b3W ((tC (.int 0),tC (.bl true))::[]) σ H Q:=by
 intro p hp
 refine⟨g9,[(Sum.inl 0,.bl true)],rfl,by simp,?_⟩
 rw[a9i]
 exact k p _ hp g9 (C5 hp)
theorem c2j(hn:E7 H na N)(h0:0<N.length)(hN:N.length<=400)(h2:∀l∈N,l.length<=2)(hlt:∀l∈N,∀t∈l,t<N.length)
  (k:∀v H',t9 H H'->((v=.non/\∀i,i<N.length->Rc N i/\Gd N i)\/∃p j,v=.ref p/\H' p=some (.tup [.str "way",.int ((j:Nat):Int)])/\j<N.length/\¬(Rc N j/\Gd N j)/\∀i,i<j->Rc N i/\Gd N i)->Q v H'):a7m K [.ref na] H Q E:=by
 refine⟨rfl,?_⟩
 unfold b7m
 obtain⟨ys,hy,ly⟩:=hn.len
 nofun
 exists b2z fun g H1 hg e1 s1=>?_
 exact_mod_cast Y6 ?_
 exact_mod_cast a7s ?_
 exists b9g fun s H2 hs e2 s2=>?_
 have I2:AmI H H2 g s N [] [0]:=⟨s1.trans s2,s2 _ _ e1,e2,d5 e1 hs,hg,s1.free hs,⟨by simp,by simp,by simp⟩,⟨by simp,fun x hx=>by rw[g6.mp hx];exact h0,fun x hx=>by rw[g6.mp hx];exact .zero⟩⟩
 exact_mod_cast Y7 (P:=fun σ H3=>∃x3 x4 x5,σ=[some (.ref na),some (.ref g),some (.ref s),x3,x4,x5,none]/\AmI H H3 g s N (itr (gT N) N.length []) (itr (sT N) N.length [0])) ?_ ?_
 rotate_left
 ·intro nx hnx
  specialize a1o (a0d ?_)
  refine F2 (I2.same _ _ hy) ?_
  refine⟨N.length,by rw[ly],by omega,by omega,?_⟩
  rw[z8]
  refine V9 (fun t σ H3=>∃x3 x4 x5,σ=[some (.ref na),some (.ref g),some (.ref s),x3,x4,x5,none]/\AmI H H3 g s N (itr (gT N) t []) (itr (sT N) t [0])) ⟨_,_,_,rfl,I2⟩ ?_ ?_
  ·rintro t _ H3 ht ⟨x3,x4,x5,rfl,I3⟩
   ext
   specialize a1o (a0d ?_)
   refine F2 (I3.same _ _ hy) ?_
   refine⟨N.length,by rw[ly],by omega,by omega,?_⟩
   rw[z8]
   refine V9 (fun j σ H4=>∃x4 x5,σ=[some (.ref na),some (.ref g),some (.ref s),some (.int (0+(t:Int))),x4,x5,none]/\AmI H H4 g s N ((u7 j).foldl (gS N) (itr (gT N) t [])) ((u7 j).foldl (sS N) (itr (sT N) t [0]))) ⟨_,_,rfl,I3⟩ ?_ ?_
   ·rintro j _ H4 hj ⟨x4,x5,rfl,I4⟩
    exact_mod_cast a9o ?_
    rw[V4 (j:Int)]
    exact_mod_cast Y6 ?_
    refine c4C hn hN h2 hj I4 fun H5 I5=>?_
    refine c2k hn hN hlt hj I5 fun H6 x5 I6=>?_
    refine⟨_,_,rfl,?_⟩
    rw[a1M,a9y,a9y]
    exact I6
   ·rintro _ H4 ⟨x4,x5,rfl,I4⟩
    exact⟨_,_,_,rfl,I4⟩
  ·rintro _ H3 ⟨x3,x4,x5,rfl,I3⟩
   exact hnx _ _ ⟨_,_,_,rfl,I3⟩
 rintro _ H3 ⟨x3,x4,x5,rfl,I3⟩
 obtain⟨G,eG⟩:∃G,G=itr (gT N) N.length []:=⟨_,rfl⟩
 obtain⟨S,eS⟩:∃S,S=itr (sT N) N.length [0]:=⟨_,rfl⟩
 rw[<-eG,<-eS]at I3
 have aG:∀k,k<N.length->(k∈G↔Gd N k):=eG ▸ c7r N.length rfl
 have aS:∀k,k<N.length->(k∈S↔Rc N k):=eS ▸ c5R h0 hlt N.length rfl
 exact_mod_cast Y6 ?_
 exact_mod_cast c5I ?_
 specialize V7 (a0d ?_)
 refine F2 (I3.same _ _ hy) ?_
 refine⟨N.length,by rw[ly],by omega,by omega,fun D hD=>?_⟩
 rw[z8]
 refine c7u N.length (fun i ys H4=>ys=IL ((u7 i).filter fun x => !decide (x∈G) || !decide (x∈S))/\H4 D=some (.lst ys)/\t9 H3 H4) ⟨rfl,g9,C5 hD⟩ ?_ ?_ ?_ ?_
 ·rintro i ys H4 ⟨_,h,_⟩
  exact h
 ·rintro ys H4 ⟨rfl,hD4,s4⟩
  refine⟨j9 _,?_⟩
  have s04:=I3.same.trans s4
  nofun
  refine A2 (by simp) fun p5 H5 hp5 e5 s5=>?_
  refine⟨_,a7I (s5 _ _ hD4) e5 (a7P _) rfl,?_⟩
  rw[a4o,K6]
  ext
  cases ef:(u7 N.length).filter fun x => !decide (x∈G) || !decide (x∈S)with
  | nil=>
   exists D2 (by decide) ?_
   refine k _ H5 (s04.trans s5) (.inl ⟨rfl,fun i hi=>?_⟩)
   have:=b4R ef i hi
   simp only[b9J,c2D,decide_eq_true_eq]at this
   exact⟨(aS i hi).mp this.2,(aG i hi).mp this.1⟩
  | cons x r=>
   refine A3 (d0J (by simp)) ?_
   rw[ef]at hD4
   ext
   exists J9 (s5 _ _ hD4) (c5r (j:=0) rfl) ?_
   refine A2 (by simp) fun p6 H6 hp6 e6 s6=>?_
   obtain⟨f1,f2,f3⟩:=b3a ef
   refine k _ H6 ((s04.trans s5).trans s6) (.inr ⟨p6,x,rfl,e6,f1,fun z=>?_,fun i hi=>?_⟩)
   ·rw[d0K ((aG x f1).mpr z.2),d0K ((aS x f1).mpr z.1)]at f2
    cases f2
   ·have:=f3 i hi
    simp only[b9J,c2D,decide_eq_true_eq]at this
    exact⟨(aS i (by omega)).mp this.2,(aG i (by omega)).mp this.1⟩
 ·rintro i ys H4 hi ⟨_,_,_⟩
  exact hi
 ·rintro i _ H4 hi ⟨rfl,hD4,s4⟩ x H5 ⟨ex,e5⟩ R T hR hT
  subst ex e5
  rw[V4]
  have I4:=I3.next s4
  have push:(!decide (i∈G) || !decide (i∈S))=true->b8 0 [some (.int (i:Int)),some (.ref na),some (.ref g),some (.ref s),x3,x4,x5,none] H5 R:=fun c=>by
   refine⟨_,rfl,hR _ _ hD4 (M9 ?_) ⟨?_,g9,fun b o e=>?_⟩⟩
   ·rw[K6]
    have:=a0w (fun x => !decide (x∈G) || !decide (x∈S)) (u7 i)
    rw[a2e]at this
    omega
   ·rw[a1M,a1P]
    unfold IL
    rw[Q3]
    congr 1
    rw[show List.filter (fun x => !decide (x∈G) || !decide (x∈S)) [i]=[i] from by simp only[List.filter,c]]
    rfl
   ·rw[j7 (d5 e hD)];exact s4 _ _ e
  specialize c5K ?_
  specialize a2o ?_
  obtain⟨o,g1,g2⟩:=a0B I4.hg i
  refine⟨g,o,rfl,g1,?_⟩
  rw[g2]
  ext
  by_cases c1:i∈G
  ·exists A3 (by rw[d0K c1];rfl) ?_
   specialize a2o ?_
   obtain⟨o',g1',g2'⟩:=a0B I4.hs i
   refine⟨s,o',rfl,g1',?_⟩
   rw[g2']
   ext
   by_cases c2:i∈S
   ·refine A3 (by rw[d0K c2];rfl) ?_
    refine hT _ ⟨?_,hD4,s4⟩
    rw[a1M,a1P]
    simp[c1,c2]
   ·refine D2 (by rw[d0J c2];rfl) ?_
    exact push (by rw[d0J c2];simp)
  ·refine D2 (by rw[d0J c1];rfl) ?_
   refine D2 rfl ?_
   exact push (by rw[d0J c1];rfl)
end
section
variable {K:Fg}{E:XK}
structure a1f(H0 H:Hp)(b:Addr)(a:Addr)(as:List Addr)(N:Nt):Prop where
 h:H a=some (.lst (as.map V.ref))
 len:as.length=N.length
 at_:∀(i:Nat) x l,as[i]? = some x->N[i]? = some l->H x=some (.lst (IL l))
 n1:H0 a=none
 n2:∀x∈as,H0 x=none
 nb:a≠b
 small:∀l∈N,l.length<=2/\∀t∈l,t<N.length
theorem a1f.net(h:a1f H0 H b a as N):E7 H a N:=⟨as,h.h,h.len,h.at_⟩
theorem a1f.kept(h:a1f H0 H b a as N)(B:Bag H b d)(k:z5 b H H'):a1f H0 H' b a as N:=
 ⟨k.1 _ _ h.h h.nb,h.len,fun i x l e1 e2=>by
  have q:=h.at_ i x l e1 e2
  exact k.1 _ _ q (a0P B q (by rw[K6];have:=(h.small l (mI e2)).1;omega)),h.n1,h.n2,h.nb,h.small⟩
theorem a1f.set0{x:Addr}(h:a1f H0 H b a as N)(e1:as[i]? = some x)(e2:N[i]? = some l)(hl:l≠[])(ht:t<N.length) :
  ∃N',N'.length=N.length/\a1f H0 (upd H x (.lst (IL (l.set 0 t)))) b a as N':=by
 have hx:=h.at_ i x l e1 e2
 have nxa:x≠a:=by
  rintro rfl
  rw[h.h]at hx
  have z:=HO.lst.inj (Option.some.inj hx)
  cases as with
  | nil=>cases e1
  | cons y r=>
   cases l with
   | nil=>exact hl rfl
   | cons u r'=>cases z
 have len':((u7 N.length).map fun j=>if as[j]? = some x then l.set 0 t else N.getD j []).length=N.length:=by simp
 have at':∀j,j<N.length->((u7 N.length).map fun j=>if as[j]? = some x then l.set 0 t else N.getD j [])[j]? = some (if as[j]? = some x then l.set 0 t else N.getD j []):=fun j hj=>by
  rw[c8,a3k hj];rfl
 refine⟨_,len',by rw[j7 nxa.symm];exact h.h,by rw[len'];exact h.len,fun j y l' f1 f2=>?_,h.n1,h.n2,h.nb,fun l' hl'=>?_⟩
 ·have hj:j<N.length:=by rw[<-h.len];exact(gI f1)
  rw[at' j hj]at f2
  by_cases q:y=x
  ·subst q
   rw[if_pos f1]at f2
   cases f2
   exact g9
  ·rw[if_neg (fun z=>q (by rw[f1]at z;exact Option.some.inj z))]at f2
   cases f2
   rw[j7 q]
   exact h.at_ j y _ f1 (a0V hj)
 ·obtain⟨j,hj,rfl⟩:=G5.mp hl'
  have hj:=G8.mp hj
  rw[len']
  obtain⟨q1,q2⟩:=h.small l (mI e2)
  split
  ·refine⟨by rw[v8];exact q1,fun u hu=>?_⟩
   rcases a3Y hu with z | z
   ·exact q2 u z
   ·rw[z];exact ht
  ·exact h.small _ (mI (a0V hj))
theorem a1f.last{q:Addr}(h:a1f H0 H b a as N)(hq:H q=some (.lst (IL l)))(nq:q≠a)(fq:H0 q=none)(hl:l.length<=2/\∀t∈l,t<N.length)(hs:∀x∈as,x≠a) :
  a1f H0 (upd H a (.lst ((as.set i q).map V.ref))) b a (as.set i q) (N.set i l):=by
 refine⟨g9,by rw[v8,v8];exact h.len,fun j y l' f1 f2=>?_,h.n1,fun x hx=>?_,h.nb,fun l' hl'=>?_⟩
 ·rcases a1Y f1 with ⟨z,rfl⟩ | ⟨z,f1⟩
  ·rcases a1Y f2 with ⟨_,rfl⟩ | ⟨z',_⟩
   ·rw[j7 nq];exact hq
   ·exact absurd z z'
  ·rcases a1Y f2 with ⟨z',_⟩ | ⟨_,f2⟩
   ·exact absurd z' z
   ·rw[j7 (hs y (mI f1))]
    exact h.at_ j y l' f1 f2
 ·rcases a3Y hx with z | z
  ·exact h.n2 x z
  ·rw[z];exact fq
 ·rw[v8]
  rcases a3Y hl' with z | z
  ·exact h.small l' z
  ·rw[z];exact hl
theorem a9n(as:List Addr)(i:Nat)(q:Addr):(as.map V.ref).set i (.ref q)=(as.set i q).map V.ref:=by rw[c9b]
theorem c5U(hB:Bag H b d)
  (k:∀p ra na N H',H' p=some (.tup [.ref ra,.ref na])->G6 H' ra N->E7 H' na N->0<N.length->N.length<=9->(∀l∈N,l.length<=2/\∀t∈l,t<N.length)->H ra=none->Bag H' b d->z5 b H H'->Q (.ref p) H'):b2o K [.ref b] H Q E:=by
 refine⟨rfl,?_⟩
 unfold c4Y
 nofun
 refine D3 hB (by decide) (by decide) fun n1 H1 a0 a1 B1 k1=>?_
 obtain⟨n1,rfl⟩:=K8 a0
 ext
 rw[show(1:Int)+(n1:Int)=((1+n1:Nat):Int) by omega]
 refine b7D B1 (by omega) (by omega) fun a as N0 H2 h1 h2 h3 h4 h5 h6 h7 _ B2 k2=>?_
 have k02:=k1.trans k2
 have I2:a1f H1 H2 b a as N0:=⟨h1,h2,h3,h4,h5,a1F B2 h1,by rw[h6];exact h7⟩
 ext
 exact_mod_cast Y7 (P:=fun σ H3=>∃x2 N,σ=[some (.ref b),some (.ref a),x2,none,none]/\a1f H1 H3 b a as N/\N.length=1+n1/\Bag H3 b d/\z5 b H1 H3) ?_ ?_
 rotate_left
 ·intro nx hnx
  specialize a1o (a0d ?_)
  refine F2 h1 ?_
  refine⟨(1+n1:Nat),by rw[b5,h2,h6],by omega,by omega,?_⟩
  rw[z8]
  refine V9 (fun i σ H3=>∃x2 N,σ=[some (.ref b),some (.ref a),x2,none,none]/\a1f H1 H3 b a as N/\N.length=1+n1/\Bag H3 b d/\z5 b H1 H3) ⟨_,N0,rfl,I2,h6,B2,k2⟩ ?_ ?_
  ·rintro i _ H3 hi ⟨x2,N,rfl,I3,l3,B3,k3⟩
   ext
   rw[V4]
   refine D3 B3 (by decide) (by decide) fun n H4 b0 b1 B4 k4=>?_
   have I4:=I3.kept B3 k4
   ext
   refine V1 (fun _=>?_) (fun _=>?_)
   ·ext
    obtain⟨x,e1⟩:∃x,as[i]? = some x:=⟨_,j6 (by omega)⟩
    have e2:=a0V (N:=N) (i:=i) (by omega)
    obtain⟨l,el⟩:∃l,l=N.getD i []:=⟨_,rfl⟩
    rw[<-el]at e2
    have hx:=I4.at_ i x l e1 e2
    have hat:atI (as.map V.ref) (i:Int)=some (.ref x):=a0g (by rw[c8,e1];rfl)
    exists J9 I4.h hat ?_
    refine A2 (by simp) fun p5 H5 hp5 e5 s5=>?_
    refine⟨_,a7I (s5 _ _ hx) e5 (a7P l) rfl,?_⟩
    rw[a4o,K6]
    ext
    have I5:=I4.kept B4 (z5.of_same s5)
    have B5:=B4.same s5
    have k5:=(k3.trans k4).trans (z5.of_same s5)
    by_cases hz:l=[]
    ·exists A3 (by rw[hz];rfl) ?_
     exact⟨_,N,rfl,I5,l3,B5,k5⟩
    ·exists D2 (by rw[d0J fun z=>hz (a4U.mp z)];rfl) ?_
     exists F2 I5.h ?_
     refine D3 B5 (by rw[b5];omega) (by rw[b5];omega) fun n H6 c0 c1 B6 k6=>?_
     obtain⟨t,rfl⟩:=K8 c0
     have I6:=I5.kept B5 k6
     ext
     exists J9 I6.h hat ?_
     have ht:t<N.length:=by
      rw[b5,I6.len]at c1
      exact Int.ofNat_lt.mp c1
     have hl0:0<(IL l).length:=by
      rw[K6]
      exact a7T.mpr hz
     refine a6i (I6.at_ i x l e1 e2) (c1H (n:=0) hl0) ?_
     have es:(IL l).set 0 (V.int (t:Int))=IL (l.set 0 t):=by unfold IL;rw[c9b]
     rw[es]
     obtain⟨N',lN,I7⟩:=I6.set0 e1 e2 hz ht
     have fx:=h5 x (mI e1)
     obtain⟨nxb,nxd⟩:=B1.nb fx
     exact⟨_,N',rfl,I7,by omega,B6.put nxb nxd,(k5.trans k6).put fx⟩
   ·exists A3 rfl ?_
    exact⟨_,N,rfl,I4,l3,B4,k3.trans k4⟩
  ·rintro _ H3 ⟨x2,N,rfl,I3,l3,B3,k3⟩
   exact hnx _ _ ⟨x2,N,rfl,I3,l3,B3,k3⟩
 rintro _ H3 ⟨x2,N,rfl,I3,l3,B3,k3⟩
 exact_mod_cast Y7 (P:=fun σ H4=>∃x2 as N,σ=[some (.ref b),some (.ref a),x2,none,none]/\a1f H1 H4 b a as N/\N.length=1+n1/\Bag H4 b d/\z5 b H1 H4) ?_ ?_
 rotate_left
 ·intro nx hnx
  ext
  refine D3 B3 (by decide) (by decide) fun n H4 b0 b1 B4 k4=>?_
  have I4:=I3.kept B3 k4
  have l4:=I4.len
  ext
  refine V1 (fun _=>?_) (fun _=>?_)
  ·ext
   obtain⟨x,e1⟩:∃x,as[as.length - 1]? = some x:=⟨_,j6 (by omega)⟩
   have e2:=a0V (N:=N) (i:=as.length - 1) (by omega)
   obtain⟨l,el⟩:∃l,l=N.getD (as.length - 1) []:=⟨_,rfl⟩
   rw[<-el]at e2
   have hx:=I4.at_ _ x l e1 e2
   refine J9 (v:=.ref x) I4.h ?_ ?_
   ·unfold atI
    rw[a7C (by rw[b5];omega),b5]
    show(as.map V.ref)[as.length - 1]? = _
    rw[c8,e1]
    rfl
   ext
   refine A2 (by simp) fun p5 H5 hp5 e5 s5=>?_
   exists ⟨_,a7I (s5 _ _ hx) e5 (a7P l) rfl,?_⟩
   have I5:=I4.kept B4 (z5.of_same s5)
   have B5:=B4.same s5
   have k5:=(k3.trans k4).trans (z5.of_same s5)
   refine V1 (fun _=>?_) (fun _=>?_)
   ·ext
    exists F2 I5.h ?_
    refine V1 (fun c=>?_) (fun _=>?_)
    ·have hgt:1<as.length:=by
      have:=of_decide_eq_true c
      rw[b5]at this
      omega
     ext
     exists F2 I5.h ?_
     refine D3 B5 (by rw[b5];omega) (by rw[b5];omega) fun n H6 c0 c1 B6 k6=>?_
     obtain⟨t,rfl⟩:=K8 c0
     have I6:=I5.kept B5 k6
     ext
     refine A2 (by simp) fun q H7 hq e7 s7=>?_
     have I7:=I6.kept B6 (z5.of_same s7)
     ext
     refine a6i I7.h (a7C (by rw[b5];omega)) ?_
     rw[a9n]
     have ht:t<N.length:=by
      rw[b5,I6.len]at c1
      exact Int.ofNat_lt.mp c1
     have k06:=k5.trans k6
     have fq:H1 q=none:=k06.none hq
     have hs:∀x∈as,x≠a:=by
      intro y hy z
      obtain⟨j,hj⟩:=E4.mp hy
      have hjl:=(gI hj)
      have q1:=I7.at_ j y _ hj (a0V (by omega))
      rw[z,I7.h]at q1
      have q2:=HO.lst.inj (Option.some.inj q1)
      have q3:(as.map V.ref)[0]? = (IL (N.getD j []))[0]?:=by rw[q2]
      rw[c8,j6 (by omega)]at q3
      unfold IL at q3
      rw[c8]at q3
      cases hz:(N.getD j [])[0]? with
      | none=>rw[hz]at q3;cases q3
      | some u=>rw[hz]at q3;cases q3
     obtain⟨nab,nad⟩:=B1.nb h4
     refine hnx _ _ ⟨_,_,_,rfl,I7.last (i:=(as.map V.ref).length - 1) (l:=[t]) e7 (d5 I6.h hq).symm fq ⟨by simp,fun u hu=>by rw[g6.mp hu];exact ht⟩ hs,by rw[v8];exact l3,(B6.same s7).put nab nad,(k06.trans (z5.of_same s7)).put h4⟩
    ·ext
     exact hnx _ _ ⟨_,_,_,rfl,I5,l3,B5,k5⟩
   ·exists A3 rfl ?_
    exact hnx _ _ ⟨_,_,_,rfl,I5,l3,B5,k5⟩
  ·exists A3 rfl ?_
   exact hnx _ _ ⟨_,_,_,rfl,I4,l3,B4,k3.trans k4⟩
 clear I3 l3 B3 k3 N
 rintro _ H4 ⟨x2,as,N,rfl,I4,l4,B4,k4⟩
 have two:∀l∈N,l.length<=2:=fun l hl=>(I4.small l hl).1
 have n4:=I4.net
 have k04:=k1.trans k4
 nofun
 exists b4D B4 fun sa H5 N5 B5 k5 _=>?_
 have n5:=n4.kept B4 two k5
 nofun
 exists b7M B5 N5 fun dd H6 d6 hdd B6 k6=>?_
 exists A2 (by simp) fun pl H7 hpl e7 s7=>?_
 have e7:H7 pl=some (.lst ([dd].map V.ref)):=e7
 have P7:b2e H7 pl:=⟨[dd],e7,by simp,by simp,fun p hp=>by rw[g6.mp hp];exact d6.ts (t9.ts s7)⟩
 have B7:=B6.same s7
 have N7:=(N5.kept B5 k6).1.same s7
 have n7:=(n5.kept B5 two k6).same s7
 have k07:z5 b H H7:=((k04.trans k5).trans k6).trans (z5.of_same s7)
 specialize V7 (Z1 ?_)
 obtain⟨as,q1,q2,q3⟩:=id n7.ex
 refine⟨a,rfl,⟨_,SqL.of q1⟩,fun R' hR'=>?_⟩
 obtain⟨rb,rc⟩:=B7.nb hR'
 refine U9 (xs:=as.map V.ref) (fun i ys H8=>∃rs:List Addr,ys=rs.map V.ref/\rs.length=i/\(∀(j:Nat) x l,rs[j]? = some x->N[j]? = some l->a5U H8 (.ref x) (l.length == 2))/\H8 R'=some (.lst ys)/\Bag H8 b d/\z5 b H7 H8) ?_ ?_ ?_ ?_ ?_
 ·exact⟨[],rfl,rfl,by simp,g9,B7.new hR',z5.new hR'⟩
 ·rintro i ys H8 ⟨_,_,_,_,h,_⟩
  exact h
 ·rintro i ys H8 _ ⟨_,_,_,_,_,_,k8⟩
  exact SqL.of (k8.1 _ _ q1 (a1F B7 q1))
 ·rintro i x ys H8 hx ⟨rs,rfl,lr,hr,hR8,B8,k8⟩ R hR
  rw[c8]at hx
  cases hxa:as[i]? with
  | none=>rw[hxa]at hx;cases hx
  | some xa=>
   rw[hxa]at hx
   cases hx
   have hi:i<N.length:=by rw[<-q2];exact(gI hxa)
   have hx8:=q3 i xa _ hxa (L4 hi)
   have hx8:=k8.1 _ _ hx8 (a0P B7 hx8 (by rw[K6];have:=two _ (C8 hi);omega))
   obtain⟨N8,_⟩:=N7.kept B7 k8
   have P8:=P7.kept B7 k8
   ext
   exists F2 hx8 ?_
   rw[K6]
   refine c0I B8 N8 P8 fun v H9 r9 B9 k9=>?_
   obtain⟨pv,xv,rfl,_⟩:=id r9
   have hR9:=k9.1 _ _ hR8 rb
   refine hR _ _ hR9 (M9 (by rw[b5];omega)) ⟨rs++[pv],by simp,by simp[lr],?_,g9,B9.put rb rc,(k8.trans k9).put hR'⟩
   intro j y l h1 h2
   rcases a0J h1 with ⟨_,g1⟩ | ⟨hj,g1⟩
   ·exact((hr j y l g1 h2).ts (z5.ts k9 B8)).ts (Z6.put hR9)
   ·rw[hj,lr,L4 hi]at h2
    cases h2
    subst g1
    exact r9.ts (Z6.put hR9)
 ·rintro ys H8 ⟨rs,rfl,lr,hr,hR8,B8,k8⟩
  rw[b5]at lr
  ext
  refine A2 (by simp) fun p H9 hp9 e9 s9=>?_
  exact k p R' a N H9 e9 ((⟨rs,hR8,by rw[lr,q2],hr⟩:G6 H8 R' N).same s9) ((n7.kept B7 two k8).same s9) (by omega) (by omega) I4.small (k07.none hR') (B8.same s9) ((k07.trans k8).trans (z5.of_same s9))
end
def a1d(m:Nat):List (List Nat):=((u7 m).map fun k=>[k+1])++[[]]
section
variable {k:Nat}
theorem a1q:(a1d m).length=m+1:=by simp[a1d]
theorem a7K(h:k<m):(a1d m)[k]? = some [k+1]:=by
 unfold a1d
 rw[Q4 (by simpa using h),c8,a3k h]
 rfl
theorem a8w:(a1d m)[m]? = some []:=by
 unfold a1d
 rw[P6 (by simp)]
 simp
theorem a2p(h:(a1d m)[k]? = some l):(k<m/\l=[k+1])\/(k=m/\l=[]):=by
 by_cases q:k<m
 ·rw[a7K q]at h
  cases h
  exact .inl ⟨q,rfl⟩
 ·have:=(gI h)
  rw[a1q]at this
  have:k=m:=by omega
  subst this
  rw[a8w]at h
  cases h
  exact .inr ⟨rfl,rfl⟩
theorem b5a(h:m<=399):a5x (a1d m):=by
 have len:(a1d m).length=m+1:=a1q
 refine⟨by omega,by omega,fun l hl=>?_,fun l hl t ht=>?_,fun k hk=>?_,fun k hk=>?_⟩
 ·obtain⟨k,hk⟩:=E4.mp hl
  rcases a2p hk with ⟨_,rfl⟩ | ⟨_,rfl⟩ <;> simp
 ·obtain⟨k,hk⟩:=E4.mp hl
  rcases a2p hk with ⟨h1,rfl⟩ | ⟨_,rfl⟩
  ·have:t=k+1:=by simpa using ht
   omega
  ·cases ht
 ·rw[len]at hk
  induction k with
  | zero=>exact .zero
  | succ k ih=>exact .step (ih (by omega)) (a7K (by omega)) (by simp)
 ·rw[len]at hk
  have go:∀j k,k+j=m->Gd (a1d m) k:=by
   intro j
   induction j with
   | zero=>
    intro k e
    have:k=m:=by omega
    subst this
    exact .stop a8w
   | succ j ih=>
    intro k e
    exact .step (a7K (by omega)) (g6.mpr rfl) (ih (k+1) (by omega))
  exact go (m - k) k (by omega)
end
theorem b1Y{tn:TE}(hm:m<=400)(htn:∀(s:St) (R:VK) (H':Hp),R (.int (m:Int)) H'->tn σ H' R)
  (k:∀a H',H a=none->E7 H' a (a1d m)->t9 H H'->Q (.ref a) H'):tOp X3 (S3 (a0u (a8 tn c6)) T5 (F1 (a8 (tOp X3 (b8 0) (tC (.int 1))) c6))) (F1 (a8 (F1 c6) c6)) σ H Q:=by
 exact_mod_cast b5S ?_
 exact_mod_cast V7 (a0d ?_)
 exact_mod_cast a1c ?_
 refine htn σ _ _ ?_
 exact_mod_cast a8M ?_
 refine⟨(m:Int),rfl,by omega,by omega,fun D hD=>?_⟩
 rw[z8]
 refine a5t (fun i ys H10=>∃as:List Addr,ys=as.map V.ref/\as.length=i/\(∀(j:Nat) y,as[j]? = some y->H10 y=some (.lst (IL [j+1]))/\y≠D)/\H10 D=some (.lst ys)/\t9 H H10) ?_ ?_ ?_ ?_
 ·exact⟨[],rfl,rfl,by simp,g9,C5 hD⟩
 ·rintro i ys H10 ⟨_,_,_,_,h,_⟩
  exact h
 ·rintro i ys H10 hi ⟨as,rfl,la,at10,hD10,s10⟩ R hR
  rw[V4]
  ext
  refine A2 (by simp) fun y H11 hy e11 s11=>?_
  have nyD:y≠D:=(d5 hD10 hy).symm
  refine hR _ _ (s11 _ _ hD10) (M9 (by rw[b5];omega)) ⟨as++[y],by simp,by simp[la],fun j z e=>?_,g9,fun b o e=>?_⟩
  ·rcases a0J e with ⟨_,e⟩ | ⟨hj,e⟩
   ·obtain⟨q1,q2⟩:=at10 j z e
    exact⟨by rw[j7 q2];exact s11 _ _ q1,q2⟩
   ·subst e
    refine⟨?_,nyD⟩
    rw[j7 nyD,e11,hj,la]
    rfl
  ·rw[j7 (d5 e hD)];exact s11 _ _ (s10 _ _ e)
 rintro _ H10 ⟨as,rfl,la,at10,hD10,s10⟩
 ext
 exists A2 (by simp) fun y2 H12 hy2 e12 s12=>?_
 refine A2 (by simp) fun y3 H13 hy3 e13 s13=>?_
 have s1013:=s12.trans s13
 refine a1Z (s1013 _ _ hD10) e13 ?_
 refine A2 (a5X (by rw[b5];show as.length+1<100000;omega)) fun na H14 hna e14 s14=>?_
 have s1014:=s1013.trans s14
 refine k na H14 ((s10.trans s1013).free hna) ⟨as++[y2],by rw[Q3];exact e14,by rw[u9,la,a1q];rfl,fun i x l f1 f2=>?_⟩ (s10.trans s1014)
 rcases a2p f2 with ⟨hi,rfl⟩ | ⟨hi,rfl⟩
 ·rw[Q4 (by omega)]at f1
  exact s1014 _ _ (at10 i x f1).1
 ·rw[P6 (by omega),show i - as.length=0 by omega]at f1
  cases f1
  exact(s13.trans s14) _ _ e12
section
variable {K:Fg}{c:Cn}{E:XK}
theorem b3Z{t:Addr}(ht:H t=some (.tup [.str "skip"]))(hp:H p=some (.lst (g7 N.length (.ref t))))(h1:∀l∈N,l.length<=1):G6 H p N:=by
 refine⟨g7 N.length t,by rw[List.map_replicate];exact hp,by simp,fun i x l e1 e2=>?_⟩
 rw[D0]at e1
 split at e1
 ·cases e1
  have:=h1 l (mI e2)
  have e:(l.length == 2)=false:=beq_eq_false_iff_ne.mpr (by omega)
  rw[e]
  exact⟨t,_,rfl,ht,.skip,_,_,rfl,by decide⟩
 ·cases e1
theorem b1X:∀l∈a1d m,l.length<=1:=fun l hl=>by
 obtain⟨k,hk⟩:=E4.mp hl
 rcases a2p hk with ⟨_,rfl⟩ | ⟨_,rfl⟩ <;> simp
theorem c1O(hB:Bag H b d)(k:∀p ra na N H',H' p=some (.tup [.ref ra,.ref na])->G6 H' ra N->E7 H' na N->a5x N->Bag H' b d->z5 b H H'->Q (.ref p) H'):a9m K [.ref b] H Q E:=by
 refine⟨rfl,?_⟩
 unfold c0l
 nofun
 exists D3 hB (by decide) (by decide) fun n1 H1 a0 a1 B1 k1=>?_
 refine V1 (fun _=>?_) (fun _=>?_)
 ·specialize b1C (b7r (a1c (b5S ?_)))
  exists A2 (by simp) fun t H2 ht e2 s2=>?_
  exists A2 (by simp) fun l H3 hl e3 s3=>?_
  refine b7y e3 (by decide) (by decide) (by show 1 * 400<=100000;decide) fun L H4 hL e4 s4=>?_
  rw[a9p]at e4
  have e4:H4 L=some (.lst (g7 (a1d 399).length (.ref t))):=e4
  exact_mod_cast a1c ?_
  exists b1Y (m:=399) (by decide) (fun s R H' h=>h) fun na H5 hna n5 s5=>?_
  refine A2 (by simp) fun p H6 hp e6 s6=>?_
  have s56:=s5.trans s6
  have s16:=((s2.trans s3).trans s4).trans s56
  exact k p L na _ H6 e6 (b3Z (((s3.trans s4).trans s56) _ _ e2) (s56 _ _ e4) b1X) (n5.same s6) (b5a (by decide)) (B1.same s16) (k1.trans (z5.of_same s16))
 ·ext
  exact c1X B1 fun p ra na N H2 h1 h2 h3 h4 _ B2 k2=>k p ra na N H2 h1 h2 h3 h4 B2 (k1.trans k2)
def a1T(f:Nat):List (List Nat):=(a1d 399).set (f - 1) [f+1]
section
variable {f:Nat}(h1:1<=f)(h2:f<=398)
include h1 h2
theorem b2T{k:Nat}(h:(a1T f)[k]? = some l):(k=f - 1/\l=[f+1])\/(k≠f - 1/\k<399/\l=[k+1])\/(k=399/\l=[]):=by
 rcases a1Y h with ⟨e,r⟩ | ⟨e,r⟩
 ·exact .inl ⟨e,r⟩
 ·rcases a2p r with ⟨q,z⟩ | ⟨q,z⟩
  ·exact .inr (.inl ⟨e,q,z⟩)
  ·exact .inr (.inr ⟨q,z⟩)
theorem b0p:(a1T f).length=400:=by unfold a1T;rw[v8,a1q]
theorem b4J{k:Nat}(h:k<399):(a1T f)[k]? = some (if k=f - 1 then [f+1] else [k+1]):=by
 unfold a1T
 by_cases e:k=f - 1
 ·subst e
  rw[if_pos rfl,D5 (by rw[a1q];omega)]
 ·rw[if_neg e,C9 (Ne.symm e),a7K h]
theorem c4n(h:i<f):Rc (a1T f) i:=by
 induction i with
 | zero=>exact .zero
 | succ i ih=>
  refine .step (ih (by omega)) (b4J h1 h2 (k:=i) (by omega)) ?_
  rw[if_neg (by omega)]
  simp
theorem c4p(h:i<400):Gd (a1T f) i:=by
 have e399:(a1T f)[399]? = some []:=by
  unfold a1T
  rw[C9 (by omega)]
  exact a8w
 have go:∀j i,i+j=399->Gd (a1T f) i:=by
  intro j
  induction j using Nat.strongRecOn with
  | _ j ih=>
   intro i e
   cases j with
   | zero=>
    have:i=399:=by omega
    subst this
    exact .stop e399
   | succ j=>
    have hg:=b4J h1 h2 (k:=i) (by omega)
    by_cases q:i=f - 1
    ·rw[if_pos q]at hg
     exact .step hg (g6.mpr rfl) (ih (j - 1) (by omega) (f+1) (by omega))
    ·rw[if_neg q]at hg
     exact .step hg (g6.mpr rfl) (ih j (by omega) (i+1) (by omega))
 exact go (399 - i) i (by omega)
theorem c1E:¬Rc (a1T f) f:=by
 have go:∀x,Rc (a1T f) x->x≠f:=by
  intro x h
  induction h with
  | zero=>omega
  | @step k t l _ h ht _=>
   rcases b2T h1 h2 h with ⟨q,rfl⟩ | ⟨q,q2,rfl⟩ | ⟨q,rfl⟩
   ·have:=g6.mp ht
    omega
   ·have:=g6.mp ht
    omega
   ·cases ht
 exact fun h=>go f h rfl
theorem b6z:(∀l∈a1T f,l.length<=1)/\∀l∈a1T f,∀t∈l,t<(a1T f).length:=by
 rw[b0p h1 h2]
 refine⟨fun l hl=>?_,fun l hl t ht=>?_⟩
 ·obtain⟨k,hk⟩:=E4.mp hl
  rcases b2T h1 h2 hk with ⟨_,rfl⟩ | ⟨_,_,rfl⟩ | ⟨_,rfl⟩ <;> simp
 ·obtain⟨k,hk⟩:=E4.mp hl
  rcases b2T h1 h2 hk with ⟨q,rfl⟩ | ⟨q,q2,rfl⟩ | ⟨q,rfl⟩
  ·have:=g6.mp ht
   omega
  ·have:=g6.mp ht
   omega
  ·cases ht
end
theorem b0m(ck:a4A K c)(hr:G6 H ra N)(hn:E7 H na N)(h1:1<=N.length)(h400:N.length<=400)(h2:∀l∈N,l.length<=2)(hlt:∀l∈N,∀t∈l,t<N.length)(hj:j<N.length)(bad:¬(Rc N j/\Gd N j))(ok:∀i,i<j->Rc N i/\Gd N i) :
  b5n K c H (.ref ra) (.ref na) (some (2,(j:Int))):=
 a3s ck.xn (by decide) fun x H' Q E s k=>b6a ck (hr.same s) (hn.same s) h1 h400 h2 hlt fun H2 Q2 s2=>c7S ck.xn ((hn.same s).same s2) (by omega) h400 h2 hlt hj bad ok fun H3 s3=>k H3 (s2.trans s3)
theorem c1V{o:Option (Nat×Int)}(hv:a5z H v o)(hw:a5z H w o):eqO v w H=some true:=by
 cases o with
 | none=>
  cases hv
  cases hw
  rfl
 | some q=>
  obtain⟨p,rfl,h1⟩:=hv
  obtain⟨p',rfl,h2⟩:=hw
  rw[c4y h1 h2 rfl rfl,b4P _ rfl]
theorem c4o(ck:a4A K c)(hB:Bag H b d)(k:∀H',Bag H' b d->z5 b H H'->Q (.bl true) H'):a9l K c [.ref b] H Q E:=by
 refine⟨rfl,?_⟩
 unfold c0k
 nofun
 exists D3 hB (by decide) (by decide) fun n1 H1 a0 a1 B1 k1=>?_
 obtain⟨f,hf⟩:∃f:Nat,1+n1=(f:Int):=⟨(1+n1).toNat,by omega⟩
 rw[hf]
 have h1:1<=f:=by omega
 have h2:f<=398:=by omega
 exact_mod_cast Y6 (a7s ?_)
 exists b1Y (m:=399) (by decide) (fun s R H' h=>h) fun na H2 hna n2 s2=>?_
 obtain⟨as,g1,g2,g3⟩:=n2.ex
 rw[a1q]at g2
 nofun
 exists A2 (by simp) fun q H3 hq e3 s3=>?_
 rw[show(f:Int) - 1=((f - 1:Nat):Int) by omega]
 refine a6i (s3 _ _ g1) (c1H (by rw[b5];omega)) ?_
 rw[a9n]
 have nqa:q≠na:=(d5 g1 hq).symm
 have e3:H3 q=some (.lst (IL [f+1])):=by rw[e3];show some (HO.lst [V.int ((f:Int)+1)])=some (HO.lst [V.int ((f+1:Nat):Int)]);rw[show(f:Int)+1=((f+1:Nat):Int) by omega]
 have hs:∀x∈as,x≠na:=by
  intro y hy z
  obtain⟨j,hj⟩:=E4.mp hy
  have hjl:=(gI hj)
  have q1:=g3 j y _ hj (L4 (by rw[a1q];omega))
  rw[z,g1]at q1
  have q2:=congrArg List.length (HO.lst.inj (Option.some.inj q1))
  rw[b5,K6]at q2
  have:=b1X _ (C8 (l:=a1d 399) (n:=j) (by rw[a1q];omega))
  omega
 obtain⟨H4,hH4⟩:∃H4,H4=upd H3 na (.lst ((as.set (f - 1) q).map V.ref)):=⟨_,rfl⟩
 rw[<-hH4]
 have n4:E7 H4 na (a1T f):=by
  refine⟨as.set (f - 1) q,by rw[hH4,g9],by rw[v8,b0p h1 h2,g2],fun i x l f1 f2=>?_⟩
  rcases a1Y f1 with ⟨z,rfl⟩ | ⟨z,f1⟩
  ·rcases a1Y f2 with ⟨_,rfl⟩ | ⟨z',_⟩
   ·rw[hH4,j7 nqa];exact e3
   ·exact absurd z z'
  ·rcases a1Y f2 with ⟨z',_⟩ | ⟨_,f2⟩
   ·exact absurd z' z
   ·rw[hH4,j7 (hs x (mI f1))]
    exact s3 _ _ (g3 i x l f1 f2)
 obtain⟨nb,nd⟩:=B1.nb hna
 have B4:Bag H4 b d:=hH4 ▸ (B1.same (s2.trans s3)).put nb nd
 have k4:z5 b H1 H4:=hH4 ▸ (z5.of_same (s2.trans s3)).put hna
 ext
 exists A2 (by simp) fun t H5 ht e5 s5=>?_
 exists A2 (by simp) fun l H6 hl e6 s6=>?_
 refine b7y e6 (by decide) (by decide) (by show 1 * 400<=100000;decide) fun L H7 hL e7 s7=>?_
 rw[a9p]at e7
 have s47:=(s5.trans s6).trans s7
 obtain⟨m1,m2⟩:=b6z h1 h2
 have ll:=b0p h1 h2
 have e7:H7 L=some (.lst (g7 (a1T f).length (.ref t))):=by rw[ll];exact e7
 have r7:G6 H7 L (a1T f):=b3Z ((s6.trans s7) _ _ e5) e7 m1
 ext
 exists b0m ck r7 (n4.same s47) (by omega) (by omega) (fun l hl=>F3 (m1 l hl) (by decide)) m2 (j:=f) (by omega) (fun z=>c1E h1 h2 z.1) (fun i hi=>⟨c4n h1 h2 hi,c4p h1 h2 (by omega)⟩) H7 _ _ (t9.refl _) fun v H8 s8 d8=>?_
 refine A2 (by simp) fun w H9 hw e9 s9=>?_
 refine⟨_,c1V (o:=some (2,(f:Int))) (d8.ts (t9.ts s9)) ⟨w,rfl,e9⟩,?_⟩
 have s49:=(s47.trans s8).trans s9
 exact k H9 (B4.same s49) ((k1.trans k4).trans (z5.of_same s49))
theorem G6.putL(h:G6 H ra N)(n:ra≠p)(hp:H p=some (.lst xs)):G6 (upd H p (.lst ys)) ra N:=by
 obtain⟨rs,r1,r2,r3⟩:=h.ex
 exact⟨rs,by rw[j7 n];exact r1,r2,fun i x l e1 e2=>(r3 i x l e1 e2).ts (Z6.put hp)⟩
theorem law_reading(K:Fg)(hl:ns.length<=63)(hO:c4I H)(hS:SqL K H a (ns.map V.int)):a9U K [.ref a] H (fun v _=>v=.bl true) (fun _ _ _=>False):=by
 refine⟨rfl,fun c ck=>?_⟩
 unfold c0j
 nofun
 exists c7w hS hl fun b d H1 B1 s1 _=>?_
 exact_mod_cast Y7 (P:=fun σ H2=>σ=[some (.ref a),some (.ref b),none,none,none,none,none,none,none,none]/\Bag H2 b d) ?_ ?_
 rotate_left
 ·intro nx hnx
  ext
  exists D3 B1 (by decide) (by decide) fun n H2 a0 a1 B2 k2=>?_
  refine V1 (fun _=>?_) (fun _=>?_)
  ·ext
   exists c4o ck B2 fun H3 B3 k3=>?_
   exists A3 rfl ?_
   exact hnx _ _ ⟨rfl,B3⟩
  ·exists A3 rfl ?_
   exact hnx _ _ ⟨rfl,B2⟩
 rintro _ H2 ⟨rfl,B2⟩
 nofun
 refine c1O B2 fun p ra na N H3 e3 R3 N3 V3 B3 _=>?_
 exists a3p (SqT.of e3) ?_
 have hpos:=V3.pos
 have hle:=V3.le
 nofun
 refine b7h ck R3 N3 V3 H3 _ _ (t9.refl _) fun v H4 s4 dv=>?_
 cases dv
 ext
 exists ⟨rfl,?_⟩
 exists A3 (by decide) ?_
 have R4:=R3.same s4
 have N4:=N3.same s4
 have B4:=B3.same s4
 nofun
 refine D3 B4 (by decide) (by decide) fun w H5 w0 w1 B5 k5=>?_
 have R5:=R4.kept B4 k5
 have N5:=N4.kept B4 V3.two k5
 ext
 exact_mod_cast Y7 (P:=fun σ H6=>∃v u due x8 o,σ=[some (.ref a),some (.ref b),some (.ref ra),some (.ref na),some (.int w),some v,some due,some u,x8,none]/\b5n K c H6 v u o/\a5z H6 due o/\G6 H6 ra N/\E7 H6 na N) ?_ ?_
 rotate_left
 ·intro nx hnx
  ext
  refine V1 (fun c1=>?_) (fun c1=>?_)
  ·have hw:=of_decide_eq_true c1
   nofun
   refine b0c B5 R5 (by omega) (by omega) fun p v due j n H6 e6 b6 d6 B6 k6=>?_
   refine a3p (SqT.of e6) ?_
   have R6:=R5.kept B5 k6
   have N6:=N5.kept B5 V3.two k6
   ext
   exists a4L B6 R6 N6 V3 fun p2 u due2 j2 n2 H7 e7 b7 d7 B7 k7=>?_
   exists W3 e7 (a3d _ _) ?_
   refine A2 (by simp) fun l H8 hl e8 s8=>?_
   have fin:∀u,nx [some (.ref a),some (.ref b),some (.ref ra),some (.ref na),some (.int w),some v,some due,some u,none,none] H8:=fun u=>
    hnx _ _ ⟨v,u,due,none,some (j,n),rfl,((b6.kept B6 k7).kept B7 (z5.of_same s8)).refd ck,(d6.ts (z5.ts k7 B6)).ts (t9.ts s8),(R6.kept B6 k7).same s8,(N6.kept B6 V3.two k7).same s8⟩
   ext
   have hc:w=0\/w=1:=by omega
   rcases hc with rfl | rfl
   ·exists J9 e8 (a3d _ _) ?_
    exact fin _
   ·exists J9 e8 (a6N _ _ _) ?_
    exact fin _
  ext
  refine V1 (fun c2=>?_) (fun c2=>?_)
  ·nofun
   refine a4L B5 R5 N5 V3 fun p2 u due j n H7 e7 b7 d7 B7 k7=>?_
   refine a3p (SqT.of e7) ?_
   have R7:=R5.kept B5 k7
   exact hnx _ _ ⟨_,u,due,none,some (j,n),rfl,b7.refd ck R7 (by omega) (by omega),d7,R7,N5.kept B5 V3.two k7⟩
  nofun
  refine c5U B5 fun p ra' na' N' H6 e6 R6' N6' l0 l9 sm fr B6 k6=>?_
  have two:∀l∈N',l.length<=2:=fun l hl=>(sm l hl).1
  have lt:∀l∈N',∀t∈l,t<N'.length:=fun l hl=>(sm l hl).2
  refine a3p (SqT.of e6) ?_
  have R6:=R5.kept B5 k6
  have N6:=N5.kept B5 V3.two k6
  nofun
  refine c2j N6' l0 (by omega) two lt fun due H7 s7 hd=>?_
  obtain⟨o,d7,r7⟩:∃o,a5z H7 due o/\b5n K c H7 (.ref ra') (.ref na') o:=by
   rcases hd with ⟨rfl,al⟩ | ⟨q,j,rfl,h1,h2,h3,h4⟩
   ·exact⟨none,rfl,b7h ck (R6'.same s7) (N6'.same s7) ⟨l0,by omega,two,lt,fun k hk=>(al k hk).1,fun k hk=>(al k hk).2⟩⟩
   ·exact⟨some (2,(j:Int)),⟨q,rfl,h1⟩,b0m ck (R6'.same s7) (N6'.same s7) l0 (by omega) two lt h2 h3 h4⟩
  ext
  have B7:=B6.same s7
  refine D3 B7 (by decide) (by decide) fun n H8 n0 n1 B8 k8=>?_
  have R8:=(R6.same s7).kept B7 k8
  have N8:=(N6.same s7).kept B7 V3.two k8
  have R8':=(R6'.same s7).kept B7 k8
  have N8':=(N6'.same s7).kept B7 two k8
  have d8:=d7.ts (z5.ts k8 B7)
  have r8:b5n K c H8 (.ref ra') (.ref na') o:=by
   rcases hd with ⟨rfl,al⟩ | ⟨q,j,rfl,h1,h2,h3,h4⟩
   ·cases o with
    | none=>exact b7h ck R8' N8' ⟨l0,by omega,two,lt,fun k hk=>(al k hk).1,fun k hk=>(al k hk).2⟩
    | some o'=>obtain⟨_,z,_⟩:=d7;cases z
   ·cases o with
    | none=>cases d7
    | some o'=>
     obtain⟨j',n'⟩:=o'
     obtain⟨q',z,h1'⟩:=d7
     cases z
     rw[h1]at h1'
     have hjj:a9J j' = "way" /\ n'=(j:Int):=by
      have:=HO.tup.inj (Option.some.inj h1')
      simp only[List.cons.injEq,V.str.injEq,V.int.injEq,and_true]at this
      exact⟨this.1.symm,this.2.symm⟩
     obtain⟨z1,rfl⟩:=hjj
     have:j'=2:=by
      match j',z1 with
      | 0,z=>exact absurd z (by decide)
      | 1,z=>exact absurd z (by decide)
      | 2,_=>rfl
      | (n+3),z=>exact absurd (show a9J 3 = "way" from z) (by decide)
     subst this
     exact b0m ck R8' N8' l0 (by omega) two lt h2 h3 h4
  ext
  refine V1 (fun c3=>?_) (fun c3=>?_)
  ·nofun
   obtain⟨rs,r1,r2,r3⟩:=b4m (a:=ra') R8'
   exists F2 r1 ?_
   refine D3 B8 (by omega) (by omega) fun m H9 m0 m1 B9 k9=>?_
   obtain⟨f,rfl⟩:∃f:Nat,m=(f:Int):=⟨m.toNat,by omega⟩
   have nb':ra'≠b:=(B5.nb fr).1
   have nd':ra'≠d:=(B5.nb fr).2
   have r19:=k9.1 _ _ r1 nb'
   have R9:=R8.kept B8 k9
   have N9:=N8.kept B8 V3.two k9
   have A9:=r3.mv (Mv.kept B8 k9)
   ext
   nofun
   refine a8o B9 fun v H10 o10 B10 k10=>?_
   have r110:=k10.1 _ _ r19 nb'
   have R10:=R9.kept B9 k10
   have N10:=N9.kept B9 V3.two k10
   have A10:=A9.mv (Mv.kept B9 k10)
   ext
   exists a6i r110 (c1H (n:=f) (by omega)) ?_
   exists A2 (by simp) fun q H11 hq e11 s11=>?_
   have A11:=((A10.set (i:=f) (z:=false) (o10 ra' (by rw[r19];simp))).mv (Mv.put (o:=.lst (rs.set f v)) r110)).mv (Mv.same s11)
   have n3:ra≠ra':=by
    obtain⟨rs0,z,_⟩:=R5.ex
    exact d5 z fr
   have N11:E7 H11 na N:=by
    obtain⟨as,z1,z2,z3⟩:=N5.ex
    have k510:z5 b H5 H10:=(((k6.trans (z5.of_same s7)).trans k8).trans k9).trans k10
    refine E7.same (H:=upd H10 ra' (.lst (rs.set f v))) ⟨as,by rw[j7 (d5 z1 fr)];exact k510.1 _ _ z1 (a1F B5 z1),z2,fun i x l e1 e2=>?_⟩ s11
    have q:=z3 i x l e1 e2
    rw[j7 (d5 q fr)]
    exact k510.1 _ _ q (a0P B5 q (by rw[K6];have:=V3.two l (mI e2);omega))
   refine hnx _ _ ⟨_,_,_,_,some (1,(f:Int)),rfl,a1L.refd (b:=b) ck (.row (s11 _ _ g9) nb' (by rw[v8];omega) (by rw[v8];omega) A11 (a0A (by omega)).1 (a0A (by omega)).2),⟨q,rfl,e11⟩,(R10.putL n3 r110).same s11,N11⟩
  ·ext
   exact hnx _ _ ⟨_,_,_,_,o,rfl,r8,d8,R8,N8⟩
 rintro _ H6 ⟨v,u,due,x8,o,rfl,r6,d6,R6,N6⟩
 exact_mod_cast Y6 ?_
 specialize a1o (a0d ?_)
 refine⟨2,rfl,by decide,by decide,V9 (n:=2) (fun i σ H7=>∃x9,σ=[some (.ref a),some (.ref b),some (.ref ra),some (.ref na),some (.int w),some v,some due,some u,x8,x9]/\t9 H6 H7) ⟨_,rfl,t9.refl _⟩ ?_ ?_⟩
 ·rintro i _ H7 hi ⟨x9,rfl,s7⟩
  ext
  exists r6 H7 _ _ s7 fun y H8 s8 d8=>?_
  exists ⟨_,c1V d8 (d6.ts (t9.ts (s7.trans s8))),?_⟩
  exists A3 rfl ?_
  exact⟨_,rfl,s7.trans s8⟩
 rintro _ H7 ⟨x9,rfl,s7⟩
 ext
 refine b7h ck (R6.same s7) (N6.same s7) V3 H7 _ _ (t9.refl _) fun y H8 s8 d8=>?_
 cases d8
 ext
 exact⟨rfl,rfl⟩
end
end RD
set_option maxHeartbeats 0
namespace PR
open PySem L2 RD Y
abbrev c9D:Str:="__init__"
abbrev c9E:Str:="_law_script"
abbrev c9F:Str:="_law_bag"
abbrev c9G:Str:="_law_bag_here"
abbrev c9H:Str:="_law_many"
abbrev c9I:Str:="_law_take"
abbrev c9J:Str:="check_length"
abbrev c9K:Str:="thing"
abbrev c9L:Str:="is_whole"
abbrev c9M:Str:="is_value"
abbrev c9N:Str:="is_operand"
abbrev c9O:Str:="check_each"
abbrev c9P:Str:="is_below"
abbrev c9Q:Str:="following"
abbrev c9R:Str:="place"
abbrev c9S:Str:="are_nexts"
abbrev c9T:Str:="rows"
abbrev c9U:Str:="nexts"
abbrev c9V:Str:="check_nexts"
abbrev c9W:Str:="stops_of"
abbrev c9X:Str:="check_ways"
abbrev c9Y:Str:="steps_of"
abbrev c9Z:Str:="self"
abbrev d0a:Str:="most"
abbrev d0b:Str:="_law_rows"
abbrev d0c:Str:="_law_nexts"
abbrev d0d:Str:="_law_one"
abbrev d0e:Str:="ValueError"
abbrev d0f:Str:="_law_thing"
abbrev d0g:Str:="_law_whole"
abbrev d0h:Str:="_law_refusal"
abbrev d0i:Str:="_law_at"
abbrev d0j:Str:="_law_k"
abbrev d0k:Str:="_law_late"
abbrev d0l:Str:="_law_some"
abbrev d0m:Str:="_law_way"
abbrev d0n:Str:="_law_net"
abbrev d0o:Str:="_law_good_here"
abbrev d0p:Str:="_law_turn"
abbrev d0q:Str:="_law_reached"
abbrev d0r:Str:="_law_order"
abbrev d0s:Str:="_law_mended"
abbrev d0t:Str:="_law_name"
abbrev d0u:Str:="_law_names_here"
abbrev d0v:Str:="_law_names"
abbrev d0w:Str:="_law_value"
abbrev d0x:Str:="_law_operand"
abbrev d0y:Str:="_law_deed"
abbrev d0z:Str:="_law_pool"
abbrev d0A:Str:="_law_row"
abbrev d0B:Str:="_law_drawn"
abbrev d0C:Str:="_law_good"
abbrev d0D:Str:="_law_no_row"
abbrev d0E:Str:="_law_rows_spoilt"
abbrev d0F:Str:="_law_no_after"
abbrev d0G:Str:="_law_nexts_spoilt"
abbrev d0H:Str:="_law_raw"
abbrev d0I:Str:="_law_amiss"
section
def top(i:Nat):Stmt:=PySem.Challenge.pw_oncedone_k21_plans_refused.main.body.getD i (.Pass ⟨0,0,0,0⟩)
abbrev b7v:Stmt:=top 36
abbrev b5Q:Stmt:=top 37
abbrev a1E:Stmt:=top 23
abbrev a5I:Stmt:=top 16
abbrev a6x:Stmt:=top 14
abbrev a6y:Stmt:=top 15
abbrev a4h:Stmt:=top 17
abbrev a8e:Stmt:=top 18
abbrev a9Y:Stmt:=top 19
abbrev a2K:Stmt:=top 24
abbrev a6z:Stmt:=top 22
abbrev a3q:Stmt:=top 27
abbrev a0Q:Stmt:=top 28
abbrev a8c:Stmt:=top 31
abbrev a7p:Stmt:=top 30
abbrev a4f:Stmt:=top 29
abbrev a2J:Stmt:=top 32
abbrev a4g:Stmt:=top 33
abbrev a2B:Stmt:=W5 (top 34) 2
abbrev a0q:Stmt:=W5 (top 34) 0
abbrev a9Z:Stmt:=W5 (top 3) 0
abbrev a6B:Stmt:=W5 (top 4) 0
abbrev b0a:Stmt:=W5 (top 6) 0
abbrev a6A:Stmt:=W5 (top 5) 0
abbrev a5H:Stmt:=top 49
abbrev b2w:Stmt:=top 56
abbrev c0C:Stmt:=top 45
abbrev a3R:Stmt:=top 46
abbrev b2v:Stmt:=top 39
abbrev b2u:Stmt:=top 40
abbrev b2t:Stmt:=top 41
abbrev a8d:Stmt:=top 42
abbrev b5T:Stmt:=top 43
abbrev c0A:Stmt:=top 44
abbrev a7r:Stmt:=top 47
abbrev b2x:Stmt:=top 55
abbrev a9X:Stmt:=top 50
abbrev a3D:Stmt:=top 51
abbrev a6w:Stmt:=top 52
abbrev a2X:Stmt:=top 53
abbrev b7s:Stmt:=top 54
abbrev a7t:Stmt:=top 48
abbrev b7t:Stmt:=top 57
structure Txt(K:Fg)(mg:Str->Option Value)(c:Cn):Prop where
 c9a:mg "abs" = none
 c5v:mg "all" = none
 c5u:mg "any" = none
 c2v:mg "bool" = none
 a2t:mg "enumerate" = none
 c2u:mg "int" = none
 E6:mg "isinstance" = none
 J5:mg "len" = none
 a4G:mg "list" = none
 c8Z:mg "min" = none
 T3:mg "range" = none
 c2t:mg "sorted" = none
 c8Y:mg "str" = none
 a9A:mg "tuple" = none
 c5t:mg "zip" = none
 c4O:∃u,mg "BOUND" = some u/\F0 (.int 1000000000000) u
 b3y:∃u,mg "DEED_KINDS" = some u/\F0 (.ref c.a4F) u
 b9D:∃u,mg "FIGURES" = some u/\F0 (.str "0123456789") u
 a7S:∃u,mg "FIRST_STEP" = some u/\F0 (.ref c.a1O) u
 b2h:∃u,mg "LETTERS" = some u/\F0 (.str "abcdefghijklmnopqrstuvwxyz") u
 b0M:∃u,mg "LONGEST_NAME" = some u/\F0 (.int 8) u
 b7b:∃u,mg "MOST" = some u/\F0 (.int 400) u
abbrev scF(ns:List (Str×a6a)):Scope:={ kind:=.function,names:=ns,isGenerator:=false,isCoroutine:=false,more:=[] }
local macro_rules | `(tactic| walk_at "c0") => `(tactic| exact ⟨rfl, by decide +kernel, by decide +kernel, rfl, by decide +kernel, by decide +kernel, rfl, by decide +kernel⟩)
local macro_rules | `(tactic| walk_at "c1") => `(tactic| exact ⟨rfl, by decide +kernel, by decide +kernel, rfl, b7K (by decide +kernel), by decide +kernel, rfl, by decide +kernel⟩)
local macro_rules | `(tactic| walk_at "c2") => `(tactic| exact ⟨rfl, by decide +kernel, by decide +kernel, rfl, rfl, by decide +kernel, by decide +kernel, rfl, rfl, by decide +kernel⟩)
local macro_rules | `(tactic| walk_at "c3") => `(tactic| exact ⟨rfl, by decide +kernel, by decide +kernel, rfl, rfl, b7K (by decide +kernel), by decide +kernel, rfl, rfl, by decide +kernel⟩)
def a4B(f:List Value->Prop):List Str->Prop
 | []=>f []
 | _::r=>∀u,a4B (fun us=>f (u::us)) r
theorem a4B.mp:∀ {ps:List Str} {f:List Value->Prop},a4B f ps->∀us,us.length=ps.length->f us
 | [],_,h,[],_=>h
 | _::_,_,h,u::us,e=>a4B.mp (h u) us (Nat.succ.inj e)
section
variable {P:w4}{w:World}{K:Fg}{mg:Str->Option Value}{base h:Heap}{c:Cn}{f C:Addr}{fd:Q1}{x q:Str}{st:Stmt}{N ps:List Str}{k:Nat}{t:TS}{pm cd:Value}{sp:Sp}
open PySem.Spec PyProof.Rows in
theorem fk(F:Fun K x q st f fd)(S:C2 N ps (i8 st))(b:∀cdv A outer s H E,S0 k (A.deeper (a4Z q (i8 st) s.heap.objs.size f cdv))->N.Nodup->a5S (a5T CX0 P w K mg base N q (i8 st) f cdv A outer s H E).nox (a0f st) t):F8 P w K mg base CX0 (k+1) f fd ps (spD ps.length N.length t):=
 a3N F S (fun _ _ _ _ h=>h.1) fun cdv A outer s H _ _ E hr h=>⟨t,b cdv A outer s H E hr S.nd,h.2⟩
open PySem.Spec PyProof.Rows in
theorem fkX{t:XK->TS}(F:Fun K x q st f fd)(S:C2 N ps (i8 st))(b:∀cdv A outer s H E,S0 k (A.deeper (a4Z q (i8 st) s.heap.objs.size f cdv))->N.Nodup->a5S (a5T (CX1 P w) P w K mg base N q (i8 st) f cdv A outer s H E) (a0f st) (t E)):F8 P w K mg base (CX1 P w) (k+1) f fd ps (spX ps.length N.length t):=
 b8h F S (fun _ _ _ _ h=>h.1) fun cdv A outer s H _ _ E hr h=>⟨t E,b cdv A outer s H E hr S.nd,h.2⟩
abbrev fdM(x q:Str)(st:Stmt)(pm cd:Value):Q1:=a0L x q (a4s st) (a0f st) (i8 st) .none .none .none pm none cd .none
structure FnI(K:Fg)(x q:Str)(st:Stmt)(f:Addr)(pm cd:Value):Prop where
 l:K.lookup f=some ⟨.type "function",none,.func (fdM x q st pm cd),#[]⟩
 c:a5W K cd q=true
 k:Q7 K (.ref f)=true
structure FnG(K:Fg)(x:Str)(st:Stmt)(f:Addr)(pm cd:Value):Prop where
 i:FnI K x x st f pm cd
 a:A6 K u8 x=some (some (.ref f))
structure FnM(K:Fg)(C:Addr)(x q:Str)(st:Stmt)(f:Addr)(pm cd:Value):Prop where
 i:FnI K x q st f pm cd
 a:A0 K (.ref C) x=some (some (.ref f))
 n:a8E K (.ref f)=true
theorem FnI.F(h:FnI K x q st f pm cd):Fun K x q st f (fdM x q st pm cd):=c7s h.l h.c h.k
abbrev BdA(x q:Str)(st:Stmt)(ps:List Str):Prop:=∀(kV doc pm:Value) (an:Option Addr) (cdv ct:Value),a4B (fun us=>bindArgs (a0L x q (a4s st) (a0f st) (i8 st) .none kV doc pm an cdv ct) ⟨us,[]⟩=pure (ps.zip us)) ps
theorem mkC(X:K.In h)(G:h.Ns u8 mg)(g:FnG K x st f pm cd)(O:F8 P w K mg base CX0 k f (fdM x x st pm cd) ps sp)(B:BdA x x st ps):F6 P w K mg base k x ps sp:=b9m g.i.F O (E1 X G g.a) (g.i.F.binds fun _ _ _ _ _ _ us hl=>(B _ _ _ _ _ _).mp us hl)
theorem mkM(g:FnM K C x q st f pm cd)(cl:Cls K C)(O:F8 P w K mg base CX0 k f (fdM x q st pm cd) ps sp)(B:BdA x q st ps):a9v P w K mg base k x C ps sp:=⟨_,_,O,cl,⟨g.a,g.n,g.i.k⟩,g.i.F.binds fun _ _ _ _ _ _ us hl=>(B _ _ _ _ _ _).mp us hl⟩
theorem mkK{y:Str}(X:K.In h)(G:h.Ns u8 mg)(g:FnM K C c9D q st f pm cd)(y1:A6 K u8 y=some (some (.ref C)))(m:a4S K C=true)(kc:Q7 K (.ref C)=true)(O:F8 P w K mg base CX0 k f (fdM c9D q st pm cd) ps sp)(B:BdA c9D q st ps):c5q P w K mg base k y C ps sp:=⟨_,_,O,E1 X G y1,⟨m,g.a,g.n,kc⟩,g.i.F.binds fun _ _ _ _ _ _ us hl=>(B _ _ _ _ _ _).mp us hl⟩
end
section
variable {P:w4}{w:World}{K:Fg}{mg:Str->Option Value}{base:Heap}{c:Cn}{f:Addr}{fd:Q1}(T:Txt K mg c)
abbrev c1m:List Str:=[c9E]
theorem c5G:C2 [c9E] c1m (i8 b7v):=by walk_at "sc"
theorem c2e:O0 [c9E] (i8 b7v) (scF [ (".0",.local),("_law_cell",.local),("abs",.globalImplicit)]) "_law_cell" := by walk_at "c0"
include T in
theorem c6X(F:Fun K c9F c9F b7v f fd):F8 P w K mg base CX0 1 f fd c1m (b2p K):=fk F c5G fun _ _ _ _ _ _ hr nd=>c5 (t7 (o8 (a8F a9 a9 a9 (K9 c2e rfl (O6 (a0k b8a (b9 0) a1k (a1j a9))) (fun _ _ _ _ _=>F7) (fun _ _ _ _ _=>i9 b3M rfl T.c9a PyProof.Rows.boot_abs (j8 (b9 0)))))))
variable(b7T:F6 P w K mg base 1 c9F c1m (b2p K))
abbrev b6d:List Str:=[c9G,c9H]
theorem c2U:C2 [c9G,c9H,"_law_more","_law_cell","_law_value_here","_law_first","_law_second"] b6d (i8 b5Q):=by walk_at "sc"
include T in
theorem c3P(F:Fun K c9I c9I b5Q f fd):F8 P w K mg base CX0 1 f fd b6d (A1 K):=fk F c2U fun _ _ _ _ _ _ hr nd=>b4 (w6 (C7 (C4 hr) (C0 (b9 0) a9) a9) (b4 (v9 2 nd a9) (b4 (w6 (C7 a0m (C0 (b9 0) a9) (i9 o9 rfl T.J5 j4 (j8 (C0 (b9 0) a9)))) (b4 (v9 3 nd (C0 (C0 (b9 0) a9) (C0 (b9 0) a9))) (b4 (b8c (b9 0) a9 c2I a9 b9Y a2a) (b4 (w6 (C7 b9X (b9 3) a9) (c5 (Y0 (b9 3) (a1x (b9 0) a9 a2a))) t5) (c5 (v9 2 nd (y7 D1 (y7 a1m (b9 3) a9) a9)))))) t5) (c5 (Y0 (y7 a1m (y7 D1 (y7 a2N (C0 (b9 0) a9) a9) (b9 2)) a9) (a1x (b9 0) a9 a2a))))) t5) (b4 (w6 (C7 a2j (C0 (b9 0) a9) a9) (b4 (v9 4 nd (y7 a1m (C0 (b9 0) a9) (b9 1))) (b4 (Y0 (y7 b1v (C0 (b9 0) a9) (b9 1)) (a1x (b9 0) a9 a2a)) (c5 (t7 (b9 4))))) t5) (b4 (v9 5 nd (y7 a1m (y7 a2N (C0 (b9 0) a9) a9) a9)) (b4 (v9 6 nd (y7 a1m (y7 a2N (b9 5) a9) a9)) (b4 (w6 (C7 a2j (b9 1) a9) (c5 (t7 (y7 a1m (y7 D1 (y7 a2N (b9 6) a9) (b9 5)) (b9 1)))) t5) (c5 (t7 (y7 a1m (y7 b1v (b9 6) a9) (b9 1))))))))
variable(v7:F6 P w K mg base 1 c9I b6d (A1 K))
abbrev Y3:List Str:=["things","at","least"]
theorem a4J:C2 ["things","at","least"] Y3 (i8 a1E):=by walk_at "sc"
include T in
theorem a4K(F:Fun K c9J c9J a1E f fd):F8 P w K mg base CX0 1 f fd Y3 (Z5 K):=fk F a4J fun _ _ _ _ _ _ hr nd=>b4 (w6 (P5 (X6 (W0 (Q6 (i9 P3 rfl T.E6 o6 (q9 (b9 0) (U2 rfl T.a4G G7 rfl))))) (U5 (C7 a0m (i9 o9 rfl T.J5 j4 (j8 (b9 0))) (b9 2))))) (c5 a2R) t5) (c5 (w6 (C7 a2j (i9 o9 rfl T.J5 j4 (j8 (b9 0))) (K5 T.b7b rfl)) (c5 a2R) t5))
variable(c_check_length:F6 P w K mg base 1 c9J Y3 (Z5 K))
abbrev a8k:List Str:=[c9K]
theorem b5N:C2 [c9K] a8k (i8 a5I):=by walk_at "sc"
theorem b3e:O0 [c9K] (i8 a5I) (scF [ (".0",.local),("sign",.local),("LETTERS",.globalImplicit),("FIGURES",.globalImplicit)]) "sign" := by walk_at "c0"
include T in
theorem b6n(F:Fun K "is_name" "is_name" a5I f fd):F8 P w K mg base CX0 1 f fd a8k (U7 K):=fk F b5N fun _ _ _ _ _ _ hr nd=>b4 (w6 (P5 (X6 (W0 (Q6 (i9 P3 rfl T.E6 o6 (q9 (b9 0) (U2 rfl T.c8Y PyProof.Rows.boot_str rfl))))) (U5 (W0 (b5w a7b a7b a9 (i9 o9 rfl T.J5 j4 (j8 (b9 0))) (K5 T.b0M rfl)))))) (c5 (t7 Q8)) t5) (c5 (t7 (U6 (a3M a7c (C0 (b9 0) a9) (K5 T.b2h rfl) rfl) (Y1 (i9 (a8H rfl) rfl T.c5v b1n (j8 (K9 b3e rfl (b9R (b9 0)) (fun _ _ _ _ _=>F7) (fun _ _ _ _ _=>a3M a7c (b9 0) (y7 D1 (K5 T.b2h rfl) (K5 T.b9D rfl)) rfl))))))))
variable(a0D:F6 P w K mg base 1 "is_name" a8k (U7 K))
abbrev a6G:List Str:=[c9K]
theorem b4e:C2 [c9K] a6G (i8 a6x):=by walk_at "sc"
include T in
theorem b4t(F:Fun K c9L c9L a6x f fd):F8 P w K mg base CX0 1 f fd a6G (a0o K):=fk F b4e fun _ _ _ _ _ _ hr nd=>c5 (t7 (U6 (i9 P3 rfl T.E6 o6 (q9 (b9 0) (U2 rfl T.c2u a3X rfl))) (Y1 (b3E (i9 P3 rfl T.E6 o6 (q9 (b9 0) (U2 rfl T.c2v b0O rfl)))))))
variable(a1e:F6 P w K mg base 1 c9L a6G (a0o K))
abbrev a6H:List Str:=[c9K]
theorem b4f:C2 [c9K] a6H (i8 a6y):=by walk_at "sc"
include T a1e in
theorem b4u(F:Fun K c9M c9M a6y f fd):F8 P w K mg base CX0 2 f fd a6H (a2m K):=fk F b4f fun _ _ _ _ _ _ hr nd=>c5 (t7 (U6 (o7 a1e hr (j8 (b9 0))) (Y1 (a9H a7b a0m a9 (b9 0) (K5 T.c4O rfl)))))
variable(a4w:F6 P w K mg base 2 c9M a6H (a2m K))
abbrev a4l:List Str:=[c9K]
theorem b0V:C2 [c9K] a4l (i8 a4h):=by walk_at "sc"
include T a0D a4w in
theorem b0Y(F:Fun K c9N c9N a4h f fd):F8 P w K mg base CX0 3 f fd a4l (T6 K):=fk F b0V fun _ _ _ _ _ _ hr nd=>c5 (t7 (c2F (o7 a0D hr (j8 (b9 0))) (Y1 (o7 a4w hr (j8 (b9 0))))))
variable(T1:F6 P w K mg base 3 c9N a4l (T6 K))
abbrev a8l:List Str:=[c9K]
theorem b5O:C2 [c9K] a8l (i8 a8e):=by walk_at "sc"
include T T1 in
theorem b6o(F:Fun K "is_deed" "is_deed" a8e f fd):F8 P w K mg base CX0 4 f fd a8l (Z0 K c):=fk F b5O fun _ _ _ _ _ _ hr nd=>b4 (w6 (P5 (X6 (W0 (Q6 (i9 P3 rfl T.E6 o6 (q9 (b9 0) (U2 rfl T.a9A a0S rfl))))) (U5 (C7 (a5b hr) (i9 o9 rfl T.J5 j4 (j8 (b9 0))) a9)))) (c5 (t7 Q8)) t5) (c5 (t7 (U6 (a3M b8e (C0 (b9 0) a9) (K5 T.b3y rfl) rfl) (U6 (o7 T1 hr (j8 (C0 (b9 0) a9))) (Y1 (o7 T1 hr (j8 (C0 (b9 0) a9))))))))
variable(a5Q:F6 P w K mg base 4 "is_deed" a8l (Z0 K c))
abbrev b0h:List Str:=[c9K]
theorem b8v:C2 [c9K,"kind","rest"] b0h (i8 a9Y):=by walk_at "sc"
include T a0D T1 a5Q in
theorem b8P(F:Fun K "is_row" "is_row" a9Y f fd):F8 P w K mg base CX0 5 f fd b0h (Z9 K c):=fk F b8v fun _ _ _ _ _ _ hr nd=>b4 (w6 (P5 (X6 (W0 (Q6 (i9 P3 rfl T.E6 o6 (q9 (b9 0) (U2 rfl T.a9A a0S rfl))))) (U5 (C7 (C4 hr) (i9 o9 rfl T.J5 j4 (j8 (b9 0))) a9)))) (c5 (t7 Q8)) t5) (b4 (v9 1 nd (C0 (b9 0) a9)) (b4 (v9 2 nd (a0k a6p (b9 0) (a1j a9) a1k)) (b4 (w6 (C7 (C4 hr) (b9 1) j3) (c5 (t7 (U6 (a5a (C4 hr) (i9 o9 rfl T.J5 j4 (j8 (b9 2))) a9) (U6 (o7 a0D hr (j8 (C0 (b9 2) a9))) (Y1 (o7 a5Q hr (j8 (C0 (b9 2) a9)))))))) t5) (b4 (w6 (C7 (C4 hr) (b9 1) j3) (c5 (t7 (U6 (a5a (C4 hr) (i9 o9 rfl T.J5 j4 (j8 (b9 2))) a9) (U6 (o7 a0D hr (j8 (C0 (b9 2) a9))) (Y1 (o7 T1 hr (j8 (C0 (b9 2) a9)))))))) t5) (b4 (w6 (C7 (C4 hr) (b9 1) j3) (c5 (t7 (U6 (a5a (C4 hr) (i9 o9 rfl T.J5 j4 (j8 (b9 2))) a9) (Y1 (o7 a0D hr (j8 (C0 (b9 2) a9))))))) t5) (b4 (w6 (a5C a7c (b9 1) (u6 (q9 j3 j3)) rfl) (c5 (t7 (U6 (a5a (C4 hr) (i9 o9 rfl T.J5 j4 (j8 (b9 2))) a9) (Y1 (o7 T1 hr (j8 (C0 (b9 2) a9))))))) t5) (c5 (t7 (U6 (a5a (C4 hr) (b9 1) j3) (Y1 (a5a (C4 hr) (i9 o9 rfl T.J5 j4 (j8 (b9 2))) a9)))))))))))
variable(c_is_row:F6 P w K mg base 5 "is_row" b0h (Z9 K c))
abbrev a0z:List Str:=["rights"]
theorem a6h:C2 ["rights","k","right"] a0z (i8 a2K):=by walk_at "sc"
include T in
theorem a6k(F:Fun K c9O c9O a2K f fd):F8 P w K mg base CX0 1 f fd a0z (a0a K):=fk F a6h fun _ _ _ _ _ _ hr nd=>c5 (O4 PassesOwn.never rfl (a3L rfl T.a2t (j8 (b9 0))) (a2i rfl (L8 (M7 1 nd) (L8 (M7 2 nd) a1l))) (c5 (w6 (W0 (Q6 (b9 2))) (c5 a2R) t5)))
variable(c_check_each:F6 P w K mg base 1 c9O a0z (a0a K))
abbrev a6I:List Str:=[c9K,"many"]
theorem b4g:C2 [c9K,"many"] a6I (i8 a6z):=by walk_at "sc"
include T a1e in
theorem b4v(F:Fun K c9P c9P a6z f fd):F8 P w K mg base CX0 2 f fd a6I (a2n K):=fk F b4g fun _ _ _ _ _ _ hr nd=>c5 (t7 (U6 (o7 a1e hr (j8 (b9 0))) (Y1 (a9H a7b a0m a9 (b9 0) (b9 1)))))
variable(a4x:F6 P w K mg base 2 c9P a6I (a2n K))
abbrev a5o:List Str:=["row",c9Q,"many"]
theorem b2r:C2 ["row",c9Q,"many","wanted"] a5o (i8 a3q):=by walk_at "sc"
theorem b0z:O0 ["row",c9Q,"many","wanted"] (i8 a3q) (scF [ (".0",.local),(c9R,.local),(c9P,.globalImplicit),("many",.free)]) c9R := by walk_at "c0"
include T a4x in
theorem b2Q(F:Fun K c9S c9S a3q f fd):F8 P w K mg base CX0 3 f fd a5o (W2 K):=fk F b2r fun _ _ _ _ _ _ hr nd=>b4 (w6 (W0 (Q6 (i9 P3 rfl T.E6 o6 (q9 (b9 1) (U2 rfl T.a4G G7 rfl))))) (c5 (t7 Q8)) t5) (b4 (v9 3 nd (a9F (C7 (C4 hr) (C0 (b9 0) a9) j3) (u6 (j8 a9)) (u6 (q9 a9 a9)))) (c5 (t7 (U6 (a3M a7c (i9 o9 rfl T.J5 j4 (j8 (b9 1))) (b9 3) rfl) (Y1 (i9 (a8H rfl) rfl T.c5v b1n (j8 (K9 b0z rfl (O6 (b9 1)) (fun _ _ _ _ _=>F7) (fun _ _ _ _ _=>o7 a4x hr (q9 (b9 0) (b9 3)))))))))))
variable(c_are_nexts:F6 P w K mg base 3 c9S a5o (W2 K))
abbrev a0b:List Str:=[c9T,c9U]
theorem a5j:C2 [c9T,c9U] a0b (i8 a0Q):=by walk_at "sc"
theorem a3U:a4z [c9T,c9U] (i8 a0Q) (scF [ (".0",.local),("row",.local),(c9Q,.local),(c9S,.globalImplicit),("len",.globalImplicit),(c9T,.free)]) "row" c9Q := by walk_at "c2"
include T c_check_each c_are_nexts in
theorem a5p(F:Fun K c9V c9V a0Q f fd):F8 P w K mg base CX0 4 f fd a0b (a0p K):=fk F a5j fun _ _ _ _ _ _ hr nd=>b4 (w6 (P5 (X6 (W0 (Q6 (i9 P3 rfl T.E6 o6 (q9 (b9 1) (U2 rfl T.a4G G7 rfl))))) (U5 (C7 (a5b hr) (i9 o9 rfl T.J5 j4 (j8 (b9 1))) (i9 o9 rfl T.J5 j4 (j8 (b9 0))))))) (c5 a2R) t5) (c5 (O5 (o7 c_check_each hr (j8 (a6q a3U rfl (b3D rfl T.c5t (q9 (b9 0) (b9 1))) (fun _ _ _ _ _=>F7) (fun _ _ _ _ _=>o7 c_are_nexts hr (a0e (b9 0) (b9 1) (i9 o9 rfl T.J5 j4 (j8 (b9 2))))))))))
variable(c_check_nexts:F6 P w K mg base 4 c9V a0b (a0p K))
abbrev a8i:List Str:=["begins","leads"]
theorem b5L:C2 ["begins","leads","seen","waiting",c9R] a8i (i8 a8c):=by walk_at "sc"
include T in
theorem b6l(F:Fun K "reached" "reached" a8c f fd):F8 P w K mg base CX0 1 f fd a8i (a1b K):=fk F b5L fun _ _ _ _ _ _ hr nd=>b4 (v9 2 nd a2S) (b4 (v9 3 nd (a0l a4a rfl T.a4G G7 (j8 (b9 0)))) (b4 (b5x PassesOwn.never (C7 a2j (i9 o9 rfl T.J5 j4 (j8 (b9 3))) a9) (b4 (v9 4 nd (b9U F9 PySem.F.slot_list_pop PySem.F.type_list_pop b8g (b9 3))) (c5 (w6 (a0j hr (b9 4) (b9 2) rfl) (b4 (a3K hr (b9 2) (b9 4) Q8) (c5 (O5 (a2G F9 b3w b3v a7d (b9 3) (j8 (C0 (b9 1) (b9 4))))))) t5)))) (c5 (t7 (b9 2)))))
variable(c_reached:F6 P w K mg base 1 "reached" a8i (a1b K))
abbrev b0e:List Str:=[c9U]
theorem b8s:C2 [c9U,"sources",c9R,c9Q,"target"] b0e (i8 a7p):=by walk_at "sc"
theorem b5c:O0 [c9U,"sources",c9R,c9Q,"target"] (i8 a7p) (scF [(".0",.local),(c9Q,.local)]) c9Q := by walk_at "c0"
include T in
theorem b8M(F:Fun K "turned" "turned" a7p f fd):F8 P w K mg base CX0 1 f fd b0e (a3Q K):=fk F b8s fun _ _ _ _ _ _ hr nd=>b4 (a6W (n:=1) nd rfl rfl b5c rfl (O6 (b9 0)) (fun _ _ _ _ _=>F7) (fun _ _ _ _ _=>o8 J4)) (b4 (O4 PassesOwn.never rfl (a3L rfl T.a2t (j8 (b9 0))) (a2i rfl (L8 (M7 2 nd) (L8 (M7 3 nd) a1l))) (c5 (O4 PassesOwn.never rfl (O6 (b9 3)) (M7 4 nd) (c5 (O5 (a2G F9 a1h a1g a2H (C0 (b9 1) (b9 4)) (j8 (b9 2)))))))) (c5 (t7 (b9 1))))
variable(c_turned:F6 P w K mg base 1 "turned" b0e (a3Q K))
abbrev a6D:List Str:=[c9U]
theorem b4b:C2 [c9U] a6D (i8 a4f):=by walk_at "sc"
theorem b1e:a4z [c9U] (i8 a4f) (scF [ (".0",.local),(c9R,.local),(c9Q,.local),("len",.globalImplicit)]) c9R c9Q := by walk_at "c2"
include T in
theorem b4q(F:Fun K c9W c9W a4f f fd):F8 P w K mg base CX0 1 f fd a6D (a2k K):=fk F b4b fun _ _ _ _ _ _ hr nd=>c5 (t7 (a6q b1e rfl (a3L rfl T.a2t (j8 (b9 0))) (fun _ _ _ _ _=>b1q (C7 (C4 hr) (i9 o9 rfl T.J5 j4 (j8 (b9 1))) a9)) (fun _ _ _ _ _=>b9 0)))
variable(c_stops_of:F6 P w K mg base 1 c9W a6D (a2k K))
abbrev a0y:List Str:=[c9U]
theorem a6g:C2 [c9U,"begun","ending",c9R] a0y (i8 a2J):=by walk_at "sc"
include T c_reached c_turned c_stops_of in
theorem a6j(F:Fun K c9X c9X a2J f fd):F8 P w K mg base CX0 2 f fd a0y (a0O K):=fk F a6g fun _ _ _ _ _ _ hr nd=>b4 (v9 1 nd (o7 c_reached hr (q9 (o8 (j8 a9)) (b9 0)))) (b4 (v9 2 nd (o7 c_reached hr (q9 (o7 c_stops_of hr (j8 (b9 0))) (o7 c_turned hr (j8 (b9 0)))))) (c5 (O4 PassesOwn.never rfl (F4 rfl T.T3 (j8 (i9 o9 rfl T.J5 j4 (j8 (b9 0))))) (M7 3 nd) (c5 (w6 (P5 (X6 (a0j hr (b9 3) (b9 1) rfl) (U5 (a0j hr (b9 3) (b9 2) rfl)))) (c5 a2R) t5)))))
variable(c_check_ways:F6 P w K mg base 2 c9X a0y (a0O K))
abbrev a6E:List Str:=[c9U]
theorem b4c:C2 [c9U,"steps",c9R,c9Q] a6E (i8 a4g):=by walk_at "sc"
theorem b1f:O0 [c9U,"steps",c9R,c9Q] (i8 a4g) (scF [ (".0",.local),("at",.local),(c9R,.free)]) "at" := by walk_at "c0"
include T in
theorem b4r(F:Fun K c9Y c9Y a4g f fd):F8 P w K mg base CX0 1 f fd a6E (a3o K c):=fk F b4c fun _ _ _ _ _ _ hr nd=>b4 (v9 1 nd (o8 (j8 (K5 T.a7S rfl)))) (b4 (O4 PassesOwn.never rfl (a3L rfl T.a2t (j8 (b9 0))) (a2i rfl (L8 (M7 2 nd) (L8 (M7 3 nd) a1l))) (c5 (O5 (a2G F9 b3w b3v a7d (b9 1) (j8 (K9 b1f rfl (F4 rfl T.T3 (j8 (i9 o9 rfl T.J5 j4 (j8 (b9 3))))) (fun _ _ _ _ _=>F7) (fun _ _ _ _ _=>u6 (q9 (b9 3) (b9 0))))))))) (c5 (t7 (b9 1))))
variable(c_steps_of:F6 P w K mg base 1 c9Y a6E (a3o K c))
abbrev a2D:List Str:=[c9Z,"step"]
theorem a8b:C2 [c9Z,"step"] a2D (i8 a2B):=by walk_at "sc"
include T in
theorem a8m(F:Fun K "leads_to" "Plan.leads_to" a2B f fd):F8 P w K mg base CX0 1 f fd a2D (a0x K c):=fk F a8b fun _ _ _ _ _ _ hr nd=>b4 (w6 (a5C (b8f hr) (b9 1) (K5 T.a7S rfl) (b6p _)) (c5 (t7 a9)) t5) (c5 (t7 (C0 (C0 (a9G (b9 0)) (C0 (b9 1) a9)) (C0 (b9 1) a9))))
variable(c_Plan_leads_to:a9v P w K mg base 1 "leads_to" c.V0 a2D (a0x K c))
abbrev a1p:List Str:=[c9Z,c9T,c9U]
theorem a7n:C2 [c9Z,c9T,c9U,"step"] a1p (i8 a0q):=by walk_at "sc"
theorem a5v:O0 [c9Z,c9T,c9U,"step"] (i8 a0q) (scF [ (".0",.local),("row",.local),("is_row",.globalImplicit)]) "row" := by walk_at "c0"
theorem b0B:O0 [c9Z,c9T,c9U,"step"] (i8 a0q) (scF [ (".0",.local),(c9Q,.local),("list",.globalImplicit)]) c9Q := by walk_at "c0"
theorem b0A:O0 [c9Z,c9T,c9U,"step"] (i8 a0q) (scF [(".0",.local),("row",.local)]) "row" := by walk_at "c0"
include T c_check_length c_is_row c_check_each c_check_nexts c_check_ways c_steps_of c_Plan_leads_to in
theorem a7y(F:Fun K c9D "Plan.__init__" a0q f fd):F8 P w K mg base CX0 6 f fd a1p (a2I K c):=fk F a7n fun _ _ _ _ _ _ hr nd=>b4 (O5 (o7 c_check_length hr (a0e (b9 1) a9 a9))) (b4 (O5 (o7 c_check_each hr (j8 (K9 a5v rfl (O6 (b9 1)) (fun _ _ _ _ _=>F7) (fun _ _ _ _ _=>o7 c_is_row hr (j8 (b9 0))))))) (b4 (O5 (o7 c_check_nexts hr (q9 (b9 1) (b9 2)))) (b4 (O5 (o7 c_check_ways hr (j8 (b9 2)))) (b4 (a9D (b9 0) (a0l a4a rfl T.a4G G7 (j8 (b9 1)))) (b4 (a9D (b9 0) (K9 b0B rfl (O6 (b9 2)) (fun _ _ _ _ _=>F7) (fun _ _ _ _ _=>a0l a4a rfl T.a4G G7 (j8 (b9 0))))) (b4 (a9D (b9 0) (K9 b0A rfl (O6 (b9 1)) (fun _ _ _ _ _=>F7) (fun _ _ _ _ _=>o8 J4))) (c5 (O4 PassesOwn.never rfl (O6 (o7 c_steps_of hr (j8 (a9G (b9 0))))) (M7 3 nd) (c5 (O5 (a2G F9 a1h a1g a2H (C0 (a9G (b9 0)) (b9T c_Plan_leads_to hr (by decide) (b9 0) (j8 (b9 3)))) (j8 (b9 3)))))))))))))
variable(c7c:c5q P w K mg base 6 "Plan" c.V0 a1p (a2I K c))
theorem b8w:C2 [c9Z,"at"] [c9Z,"at"] (i8 a9Z):=by walk_at "sc"
theorem b8Q(F:Fun K c9D "Wrong.__init__" a9Z f fd):F8 P w K mg base CX0 1 f fd [c9Z,"at"] (O9 K "at"):=
 a3N F b8w (fun vs H Q E h=>by obtain⟨a,v,C,rfl,_⟩:=h;rfl) fun cdv A outer s H vs Q E hr h=>⟨b1D K (b8 0) (b8 1) "at",c5 (a5D (b9 0) (b9 1)),by
  obtain⟨a,v,C,rfl,h1,h2,h3,q⟩:=h
  exact⟨v,rfl,.ref a,rfl,a,C,rfl,h1,h2,h3,q⟩⟩
theorem b4i:C2 [c9Z,"at"] [c9Z,"at"] (i8 a6B):=by walk_at "sc"
theorem b4x(F:Fun K c9D "NoThing.__init__" a6B f fd):F8 P w K mg base CX0 1 f fd [c9Z,"at"] (O9 K "at"):=
 a3N F b4i (fun vs H Q E h=>by obtain⟨a,v,C,rfl,_⟩:=h;rfl) fun cdv A outer s H vs Q E hr h=>⟨b1D K (b8 0) (b8 1) "at",c5 (a5D (b9 0) (b9 1)),by
  obtain⟨a,v,C,rfl,h1,h2,h3,q⟩:=h
  exact⟨v,rfl,.ref a,rfl,a,C,rfl,h1,h2,h3,q⟩⟩
theorem b8x:C2 [c9Z,"at"] [c9Z,"at"] (i8 b0a):=by walk_at "sc"
theorem b8R(F:Fun K c9D "NoWay.__init__" b0a f fd):F8 P w K mg base CX0 1 f fd [c9Z,"at"] (O9 K "at"):=
 a3N F b8x (fun vs H Q E h=>by obtain⟨a,v,C,rfl,_⟩:=h;rfl) fun cdv A outer s H vs Q E hr h=>⟨b1D K (b8 0) (b8 1) "at",c5 (a5D (b9 0) (b9 1)),by
  obtain⟨a,v,C,rfl,h1,h2,h3,q⟩:=h
  exact⟨v,rfl,.ref a,rfl,a,C,rfl,h1,h2,h3,q⟩⟩
theorem b4h:C2 [c9Z,d0a] [c9Z,d0a] (i8 a6A):=by walk_at "sc"
theorem b4w(F:Fun K c9D "TooMany.__init__" a6A f fd):F8 P w K mg base CX0 1 f fd [c9Z,d0a] (O9 K d0a):=
 a3N F b4h (fun vs H Q E h=>by obtain⟨a,v,C,rfl,_⟩:=h;rfl) fun cdv A outer s H vs Q E hr h=>⟨b1D K (b8 0) (b8 1) d0a,c5 (a5D (b9 0) (b9 1)),by
  obtain⟨a,v,C,rfl,h1,h2,h3,q⟩:=h
  exact⟨v,rfl,.ref a,rfl,a,C,rfl,h1,h2,h3,q⟩⟩
section
variable {e:Xn}
variable (mx_Wrong:a3H P w K mg base 1 "Wrong" e.C_Wrong [c9Z,"at"] (O9 K "at"))
variable (mx_NoThing:a3H P w K mg base 1 "NoThing" e.C_NoThing [c9Z,"at"] (O9 K "at"))
variable (mx_NoWay:a3H P w K mg base 1 "NoWay" e.C_NoWay [c9Z,"at"] (O9 K "at"))
variable (mx_TooMany:a3H P w K mg base 1 "TooMany" e.C_TooMany [c9Z,d0a] (O9 K d0a))
include T mx_TooMany mx_Wrong in
theorem a8n(F:Fun K c9J c9J a1E f fd):F8 P w K mg base (CX1 P w) 3 f fd Y3 (U3 K e):=fkX F a4J fun _ _ _ _ _ E hr nd=>b4 (w6 (P5 (X6 (W0 (Q6 (i9 P3 rfl T.E6 o6 (q9 (b9 0) (U2 rfl T.a4G G7 rfl))))) (U5 (C7 a0m (i9 o9 rfl T.J5 j4 (j8 (b9 0))) (b9 2))))) (c5 (a6X mx_Wrong a3y hr (j8 (b9 1)))) t5) (c5 (w6 (C7 a2j (i9 o9 rfl T.J5 j4 (j8 (b9 0))) (K5 T.b7b rfl)) (c5 (a6X mx_TooMany a3y hr (j8 (K5 T.b7b rfl)))) t5))
variable (d_check_length:a1K P w K mg base 3 c9J Y3 (a1X K e))
include T mx_NoThing in
theorem b0k(F:Fun K c9O c9O a2K f fd):F8 P w K mg base (CX1 P w) 3 f fd a0z (a2W K e):=fkX F a6h fun _ _ _ _ _ E hr nd=>c5 (O4 PassesOwn.leaving rfl (a3L rfl T.a2t (j8 (b9 0))) (a2i rfl (L8 (M7 1 nd) (L8 (M7 2 nd) a1l))) (c5 (w6 (W0 (Q6 (b9 2))) (c5 (a6X mx_NoThing a3y hr (j8 (b9 1)))) t5)))
variable (d_check_each:a1K P w K mg base 3 c9O a0z (a1C K e))
include T mx_Wrong d_check_each c_are_nexts in
theorem a9d(F:Fun K c9V c9V a0Q f fd):F8 P w K mg base (CX1 P w) 5 f fd a0b (V8 K e):=fkX F a5j fun _ _ _ _ _ E hr nd=>b4 (w6 (P5 (X6 (W0 (Q6 (i9 P3 rfl T.E6 o6 (q9 (b9 1) (U2 rfl T.a4G G7 rfl))))) (U5 (C7 (a5b hr) (i9 o9 rfl T.J5 j4 (j8 (b9 1))) (i9 o9 rfl T.J5 j4 (j8 (b9 0))))))) (c5 (a6X mx_Wrong a3y hr (j8 a9))) t5) (c5 (O5 (a6Y a3y d_check_each hr (j8 (a6q a3U rfl (b3D rfl T.c5t (q9 (b9 0) (b9 1))) (fun _ _ _ _ _=>F7) (fun _ _ _ _ _=>o7 c_are_nexts hr (a0e (b9 0) (b9 1) (i9 o9 rfl T.J5 j4 (j8 (b9 2))))))))))
variable (d_check_nexts:a1K P w K mg base 5 c9V a0b (a2A K e))
include T mx_NoWay c_reached c_stops_of c_turned in
theorem b0j(F:Fun K c9X c9X a2J f fd):F8 P w K mg base (CX1 P w) 3 f fd a0y (a1D K e):=fkX F a6g fun _ _ _ _ _ E hr nd=>b4 (v9 1 nd (o7 c_reached hr (q9 (o8 (j8 a9)) (b9 0)))) (b4 (v9 2 nd (o7 c_reached hr (q9 (o7 c_stops_of hr (j8 (b9 0))) (o7 c_turned hr (j8 (b9 0)))))) (c5 (O4 PassesOwn.leaving rfl (F4 rfl T.T3 (j8 (i9 o9 rfl T.J5 j4 (j8 (b9 0))))) (M7 3 nd) (c5 (w6 (P5 (X6 (a0j hr (b9 3) (b9 1) rfl) (U5 (a0j hr (b9 3) (b9 2) rfl)))) (c5 (a6X mx_NoWay a3y hr (j8 (b9 3)))) t5)))))
variable (d_check_ways:a1K P w K mg base 3 c9X a0y (a2V K e))
include T c_is_row d_check_each d_check_length d_check_nexts d_check_ways in
theorem b0Z(F:Fun K c9D "Plan.__init__" a0q f fd):F8 P w K mg base (CX1 P w) 8 f fd a1p (X2 K c e):=fkX F a7n fun _ _ _ _ _ E hr nd=>b4 (O5 (a6Y a3y d_check_length hr (a0e (b9 1) a9 a9))) (b4 (O5 (a6Y a3y d_check_each hr (j8 (K9 a5v rfl (O6 (b9 1)) (fun _ _ _ _ _=>F7) (fun _ _ _ _ _=>o7 c_is_row hr (j8 (b9 0))))))) (b4 (O5 (a6Y a3y d_check_nexts hr (q9 (b9 1) (b9 2)))) (b4 (O5 (a6Y a3y d_check_ways hr (j8 (b9 2)))) b3C)))
end
abbrev a5K:List Str:=[d0b,d0c]
theorem b5K:C2 [d0b,d0c,"_law_found","e","_law_sorts"] a5K (i8 a5H):=by walk_at "sc"
theorem b3d:O0 [d0b,d0c,"_law_found","e","_law_sorts"] (i8 a5H) (scF [ (".0",.local),(d0d,.local),("int",.globalImplicit)]) d0d := by walk_at "c0"
theorem c4A:a0G d0e = some (.type "ValueError"):=by decide +kernel
abbrev b2s:Stmt:=top 38
theorem c0u:C2 [d0f] [d0f] (i8 b2s):=by walk_at "sc"
include T in
theorem b8L(F:Fun K d0g d0g b2s f fd):b7W P w K mg base 1 f fd [d0f] (a5h K):=b8i F c0u (fun vs H Q E h=>h.1) fun cdv A outer s H vs Q hr h=>⟨b7i K,c5 (t7 (U6 (i9 P3 rfl T.E6 o6 (q9 (b9 0) (U2 rfl T.c2u a3X rfl))) (Y1 (b3E (i9 P3 rfl T.E6 o6 (q9 (b9 0) (U2 rfl T.c2v b0O rfl))))))),h.2⟩
section
variable {e:Xn}(h_whole:a9w P w K mg base 1 d0g [d0f] (a5h K))(mr_Plan:a8A P w K mg base 8 "Plan" c.V0 a1p (a3B K c e))(bVE:mg d0e = none)(bsum:mg "sum" = none)(gO:mg "OnceError" = some (.ref e.C_OnceError))(xO:a8Z K e.C_OnceError=true)(g0:∃u,mg "Wrong" = some u/\F0 (.ref e.C_Wrong) u)(g1:∃u,mg "NoThing" = some u/\F0 (.ref e.C_NoThing) u)(g2:∃u,mg "NoWay" = some u/\F0 (.ref e.C_NoWay) u)(g3:∃u,mg "TooMany" = some u/\F0 (.ref e.C_TooMany) u)(g4:∃u,mg "NoText" = some u/\F0 (.ref e.C_NoText) u)
include T h_whole mr_Plan bVE bsum gO xO g0 g1 g2 g3 g4 in
theorem b6k(F:Fun K d0h d0h a5H f fd):F8 P w K mg base CX0 10 f fd a5K (spD 2 5 (a5E K c e)):=
 fk F b5K fun _ _ _ _ _ _ hr nd=>b4 (v9 2 nd Y2) (b4 (b8b (i:=3) (th:=a7g K e) rfl rfl rfl nd rfl rfl rfl gO xO (fun EE pins xe W=>c5 (O5 (c2G W mr_Plan hr (q9 (b9 0) (b9 1))))) (fun pins x C dx oe hx=>b4 (v9 4 nd (o8 (a8F (i9 (a0Z hx) rfl T.E6 o6 (q9 (b9 3) (K5 g0 rfl))) (i9 (a0Z hx) rfl T.E6 o6 (q9 (b9 3) (K5 g1 rfl))) (i9 (a0Z hx) rfl T.E6 o6 (q9 (b9 3) (K5 g3 rfl))) (i9 (a0Z hx) rfl T.E6 o6 (q9 (b9 3) (K5 g2 rfl)))))) (b4 (w6 (P5 (X6 (Q6 (i9 (a0Z hx) rfl T.E6 o6 (q9 (b9 3) (K5 g4 rfl)))) (X6 (C7 (b9V hr.units0) (i9 (b3J hx rfl) rfl bsum PyProof.Rows.boot_sum (j8 (b5y hx rfl b3d (b9 4) (fun _ _ _ _ _=>F7) (fun _ _ _ _ _=>a0l b3L rfl T.c2u a3X (j8 (b9 0)))))) a9) (U5 (W0 (Q6 (i9 (a0Z hx) rfl T.E6 o6 (q9 (b9 3) (U2 rfl bVE c4A rfl))))))))) (c5 (t7 (u6 (q9 j3 a9)))) t5) (b4 (w6 (Q6 (i9 (a0Z hx) rfl T.E6 o6 (q9 (b9 3) (K5 g3 rfl)))) (c5 (v9 2 nd (u6 (q9 j3 (b1s hx (b9 3)))))) (c5 (v9 2 nd (u6 (q9 (C0 (o8 (a8F j3 j3 j3 j3)) (a2G F9 a1r b3z b2j (b9 4) (j8 Q8))) (b1s hx (b9 3))))))) (c5 (w6 (W0 (Q6 (c2E h_whole (hr.held _) (j8 (C0 (b9 2) a9))))) (c5 (t7 (u6 (q9 j3 a9)))) t5)))))) (c5 (t7 (b9 2))))
end
variable(a0C:F6 P w K mg base 10 d0h a5K (a1a K c))
abbrev b6f:List Str:=[c9G]
theorem c2W:C2 [c9G,d0i,"_law_line"] b6f (i8 b2w):=by walk_at "sc"
theorem b9k:O0 [c9G,d0i,"_law_line"] (i8 b2w) (scF [(".0",.local),(d0j,.local)]) d0j := by walk_at "c0"
include T v7 a0C in
theorem c3R(F:Fun K d0k d0k b2w f fd):F8 P w K mg base CX0 11 f fd b6f (a9l K c):=fk F c2W fun _ _ _ _ _ _ hr nd=>b4 (v9 1 nd (y7 D1 a9 (o7 v7 hr (q9 (b9 0) a9)))) (b4 (v9 2 nd (y7 D1 (K9 b9k rfl (F4 rfl T.T3 (j8 a9)) (fun _ _ _ _ _=>F7) (fun _ _ _ _ _=>o8 (j8 (y7 D1 (b9 0) a9)))) (o8 (j8 (o8 J4))))) (b4 (Y0 (o8 (j8 (y7 D1 (b9 1) a9))) (a1x (b9 2) (y7 a1W (b9 1) a9) a2a)) (c5 (t7 (a5a (C4 hr) (o7 a0C hr (q9 (y7 a7a (o8 (j8 (u6 (j8 j3)))) a9) (b9 2))) (u6 (q9 j3 (b9 1))))))))
variable(b3l:F6 P w K mg base 11 d0k b6f (a9l K c))
abbrev c1l:List Str:=[c9G,c9H]
theorem c5F:C2 [c9G,c9H,d0c,d0j,"_law_near",d0l,d0m] c1l (i8 c0C):=by walk_at "sc"
include T v7 in
theorem c6V(F:Fun K d0n d0n c0C f fd):F8 P w K mg base CX0 2 f fd c1l (a7Z K):=fk F c5F fun _ _ _ _ _ _ hr nd=>b4 (v9 2 nd (o8 J4)) (b4 (O4 PassesOwn.never rfl (F4 rfl T.T3 (j8 (b9 1))) (M7 3 nd) (b4 (v9 4 nd (i9 (b3K rfl) rfl T.c8Z PyProof.Rows.boot_min (q9 (y7 D1 (b9 3) a9) (y7 a1W (b9 1) a9)))) (b4 (v9 5 nd (o8 (q9 (b9 4) (o7 v7 hr (q9 (b9 0) (b9 1)))))) (b4 (v9 6 nd (o7 v7 hr (q9 (b9 0) a9))) (b4 (w6 (C7 a0m (b9 6) a9) (c5 (v9 5 nd (o8 (q9 (C0 (b9 5) a9) (b9 4))))) t5) (b4 (w6 (C7 (C4 hr) (b9 6) a9) (c5 (v9 5 nd (o8 (q9 (C0 (b9 5) a9) (o7 v7 hr (q9 (b9 0) (b9 1))))))) t5) (b4 (w6 (P5 (X6 (P5 (a2h (C7 a2j (b9 6) a9) (a1V (C7 a0m (b9 6) a9)))) (U5 (C7 (C4 hr) (b9 1) a9)))) (c5 (v9 5 nd (o8 (j8 (b9 4))))) t5) (b4 (w6 (P5 (a2h (C7 (C4 hr) (b9 6) a9) (a1V (C7 a2j (b9 1) a9)))) (c5 (v9 5 nd (o8 (j8 (C0 (b9 5) a9))))) t5) (b4 (w6 (P5 (X6 (C7 (C4 hr) (b9 3) (y7 a1W (b9 1) a9)) (U5 (P5 (a2h (C7 (C4 hr) (b9 6) a9) (a1V (C7 (C4 hr) (o7 v7 hr (q9 (b9 0) a9)) a9))))))) (c5 (v9 5 nd (o8 J4))) t5) (c5 (O5 (a2G F9 a1h a1g a2H (b9 2) (j8 (b9 5)))))))))))))) (c5 (t7 (b9 2))))
variable(b0E:F6 P w K mg base 2 d0n c1l (a7Z K))
abbrev b0g:List Str:=[d0c]
theorem b8u:C2 [d0c,d0o,d0p,d0j,d0q,d0d,d0r] b0g (i8 a3R):=by walk_at "sc"
theorem b5g:O0 [d0c,d0o,d0p,d0j,d0q,d0d,d0r] (i8 a3R) (scF [ (".0",.local),(d0d,.local),(d0o,.free)]) d0d := by walk_at "c0"
theorem b5f:O0 [d0c,d0o,d0p,d0j,d0q,d0d,d0r] (i8 a3R) (scF [ (".0",.local),(d0j,.local),("len",.globalImplicit),(d0o,.free),(d0c,.free)]) d0j := by walk_at "c0"
theorem b5e:O0 [d0c,d0o,d0p,d0j,d0q,d0d,d0r] (i8 a3R) (scF [ (".0",.local),(d0j,.local),(d0c,.free),(d0r,.free)]) d0j := by walk_at "c0"
theorem b5d(env:Env):O0 [d0j,d0c,d0o,d0p,"._law_k",d0q,d0d,d0r] (a6o (scF [ (".0",.local),(d0j,.local),(d0c,.free),(d0r,.free)]) env) (scF [ (".0",.local),(d0d,.local),(d0r,.free)]) d0d := by walk_at "c1"
include T in
theorem b8O(F:Fun K d0s d0s a3R f fd):F8 P w K mg base CX0 1 f fd b0g (a5G K):=fk F b8u fun _ _ _ _ _ _ hr nd=>b4 (v9 1 nd a2S) (b4 (O4 PassesOwn.never rfl (F4 rfl T.T3 (j8 (i9 o9 rfl T.J5 j4 (j8 (b9 0))))) (M7 2 nd) (c5 (O4 PassesOwn.never rfl (F4 rfl T.T3 (j8 (i9 o9 rfl T.J5 j4 (j8 (b9 0))))) (M7 3 nd) (c5 (w6 (P5 (X6 (C7 (C4 hr) (C0 (b9 0) (b9 3)) (o8 J4)) (U5 (Q6 (i9 (a8G rfl) rfl T.c5u b1m (j8 (K9 b5g rfl (O6 (C0 (b9 0) (b9 3))) (fun _ _ _ _ _=>F7) (fun _ _ _ _ _=>b3F hr (b9 0) (b9 2) rfl)))))))) (c5 (a3K hr (b9 1) (b9 3) Q8)) t5))))) (b4 (v9 0 nd (K9 b5f rfl (F4 rfl T.T3 (j8 (i9 o9 rfl T.J5 j4 (j8 (b9 0))))) (fun _ _ _ _ _=>F7) (fun _ _ _ _ _=>a9F (a9C hr (b9 0) (b9 2) rfl) (C0 (b9 1) (b9 0)) (y7 D1 (o8 (j8 (y7 a1W (i9 o9 rfl T.J5 j4 (j8 (b9 1))) a9))) (a0k a6p (C0 (b9 1) (b9 0)) (a1j a9) a1k))))) (b4 (v9 4 nd (b1t (a9E a9 Q8 b1r))) (b4 (O4 PassesOwn.never rfl (F4 rfl T.T3 (j8 (i9 o9 rfl T.J5 j4 (j8 (b9 0))))) (M7 2 nd) (c5 (O4 PassesOwn.never rfl (F4 rfl T.T3 (j8 (i9 o9 rfl T.J5 j4 (j8 (b9 0))))) (M7 3 nd) (c5 (w6 (a9C hr (b9 3) (b9 4) rfl) (c5 (O4 PassesOwn.never rfl (O6 (C0 (b9 0) (b9 3))) (M7 5 nd) (c5 (a3K hr (b9 4) (b9 5) Q8)))) t5))))) (b4 (v9 6 nd (i9 a9I rfl T.c2t PyProof.Rows.boot_sorted (j8 (a0l (b0S rfl) rfl T.a4G G7 (j8 (b9 4)))))) (c5 (t7 (K9 b5e rfl (O6 (b9 6)) (fun _ _ _ _ _=>F7) (fun _ _ _ _ _=>K9 (b5d _) rfl (O6 (C0 (b9 1) (b9 0))) (fun _ _ _ _ _=>F7) (fun _ _ _ _ _=>a2G F9 a1r b3z b3I (b9 8) (j8 (b9 0))))))))))))
variable(a7L:F6 P w K mg base 1 d0s b0g (a5G K))
abbrev b6e:List Str:=[c9G]
theorem c2V:C2 [c9G,"_law_letters","_law_signs"] b6e (i8 b2v):=by walk_at "sc"
theorem b9j:O0 [c9G,"_law_letters","_law_signs"] (i8 b2v) (scF [ (".0",.local),(d0j,.local),(c9I,.globalImplicit),(c9G,.free),("_law_signs",.free)]) d0j := by walk_at "c0"
include T v7 in
theorem c3Q(F:Fun K d0t d0t b2v f fd):F8 P w K mg base CX0 2 f fd b6e (a9k K):=fk F c2V fun _ _ _ _ _ _ hr nd=>b4 (v9 1 nd j3) (b4 (v9 2 nd (y7 D1 (b9 1) j3)) (c5 (t7 (y7 D1 (C0 (b9 1) (o7 v7 hr (q9 (b9 0) a9))) (a2G PySem.F.plainAttrs_str PySem.F.slot_str_join PySem.F.type_str_join b5z j3 (j8 (K9 b9j rfl (F4 rfl T.T3 (j8 (o7 v7 hr (q9 (b9 0) a9)))) (fun _ _ _ _ _=>F7) (fun _ _ _ _ _=>C0 (b9 3) (o7 v7 hr (q9 (b9 1) a9))))))))))
variable(b3k:F6 P w K mg base 2 d0t b6e (a9k K))
abbrev b2L:List Str:=[c9G]
theorem c0w:C2 [c9G,"_law_menu","_law_first","_law_by",d0u,d0j,"_law_name_here"] b2L (i8 b2u):=by walk_at "sc"
include T v7 b3k in
theorem c1q(F:Fun K d0v d0v b2u f fd):F8 P w K mg base CX0 3 f fd b2L (a5i K):=fk F c0w fun _ _ _ _ _ _ hr nd=>b4 (v9 1 nd (o8 (A5 j3 (A5 j3 (A5 j3 (a6Z j3 j3 j3 j3 j3)))))) (b4 (v9 1 nd (y7 D1 (b9 1) (o8 (A5 j3 (A5 j3 (A5 j3 (a6Z j3 j3 j3 j3 j3))))))) (b4 (v9 2 nd (o7 v7 hr (q9 (b9 0) a9))) (b4 (v9 3 nd (y7 D1 a9 (y7 a2N a9 (o7 v7 hr (q9 (b9 0) a9))))) (b4 (v9 4 nd (o8 J4)) (b4 (O4 PassesOwn.never rfl (F4 rfl T.T3 (j8 (y7 D1 a9 (o7 v7 hr (q9 (b9 0) a9))))) (M7 5 nd) (b4 (v9 6 nd (C0 (b9 1) (y7 a1m (y7 D1 (b9 2) (y7 a2N (b9 5) (b9 3))) a9))) (b4 (w6 (C7 (C4 hr) (o7 v7 hr (q9 (b9 0) a9)) a9) (c5 (v9 6 nd (o7 b3k hr (j8 (b9 0))))) t5) (c5 (w6 (a5C b3G (b9 6) (b9 4) rfl) (c5 (O5 (a2G F9 a1h a1g a2H (b9 4) (j8 (b9 6))))) t5))))) (c5 (t7 (b9 4))))))))
variable(a4v:F6 P w K mg base 3 d0v b2L (a5i K))
abbrev b2K:List Str:=[c9G]
theorem c0v:C2 [c9G] b2K (i8 b2t):=by walk_at "sc"
include T v7 in
theorem c1p(F:Fun K d0w d0w b2t f fd):F8 P w K mg base CX0 2 f fd b2K (a7j K):=fk F c0v fun _ _ _ _ _ _ hr nd=>c5 (t7 (C0 (o8 (a8F a9 a9 (y7 a1W (y7 a1W (y7 b1u a9 a9) a9) (o7 v7 hr (q9 (b9 0) a9))) (o7 v7 hr (q9 (b9 0) a9)))) (o7 v7 hr (q9 (b9 0) a9))))
variable(a9s:F6 P w K mg base 2 d0w b2K (a7j K))
abbrev a8j:List Str:=[c9G,d0u]
theorem b5M:C2 [c9G,d0u] a8j (i8 a8d):=by walk_at "sc"
include T v7 a9s in
theorem b6m(F:Fun K d0x d0x a8d f fd):F8 P w K mg base CX0 3 f fd a8j (a0n K):=fk F b5M fun _ _ _ _ _ _ hr nd=>b4 (w6 (C7 (C4 hr) (o7 v7 hr (q9 (b9 0) a9)) a9) (c5 (t7 (o7 a9s hr (j8 (b9 0))))) t5) (c5 (t7 (C0 (b9 1) (o7 v7 hr (q9 (b9 0) (i9 o9 rfl T.J5 j4 (j8 (b9 1))))))))
variable(a0c:F6 P w K mg base 3 d0x a8j (a0n K))
abbrev b6h:List Str:=[c9G,d0u]
theorem c2Y:C2 [c9G,d0u,"_law_kind",d0d,"_law_other"] b6h (i8 b5T):=by walk_at "sc"
include T v7 a0c in
theorem c3T(F:Fun K d0y d0y b5T f fd):F8 P w K mg base CX0 4 f fd b6h (a7l K):=fk F c2Y fun _ _ _ _ _ _ hr nd=>b4 (v9 2 nd (C0 (o8 (a6Z j3 j3 j3 j3 j3)) (o7 v7 hr (q9 (b9 0) a9)))) (b4 (v9 3 nd (o7 a0c hr (q9 (b9 0) (b9 1)))) (b4 (v9 4 nd (o7 a0c hr (q9 (b9 0) (b9 1)))) (b4 (w6 (C7 (C4 hr) (o7 v7 hr (q9 (b9 0) a9)) a9) (c5 (v9 4 nd (b9 3))) t5) (c5 (t7 (u6 (a0e (b9 2) (b9 3) (b9 4))))))))
variable(a6M:F6 P w K mg base 4 d0y b6h (a7l K))
abbrev c1j:List Str:=[c9G,d0u,d0z,c9H]
theorem c5D:C2 [c9G,d0u,d0z,c9H,d0m,"_law_name_here"] c1j (i8 c0A):=by walk_at "sc"
include T v7 a0c in
theorem c6T(F:Fun K d0A d0A c0A f fd):F8 P w K mg base CX0 4 f fd c1j (a9T K):=fk F c5D fun _ _ _ _ _ _ hr nd=>b4 (w6 (C7 (C4 hr) (b9 3) a9) (c5 (t7 (u6 (q9 j3 (o7 a0c hr (q9 (b9 0) (b9 1))))))) t5) (b4 (v9 4 nd (o7 v7 hr (q9 (b9 0) a9))) (b4 (v9 5 nd (C0 (b9 1) (o7 v7 hr (q9 (b9 0) (i9 o9 rfl T.J5 j4 (j8 (b9 1))))))) (b4 (w6 (C7 a0m (b9 4) a9) (c5 (t7 (u6 (a0e j3 (b9 5) (C0 (b9 2) (o7 v7 hr (q9 (b9 0) (i9 o9 rfl T.J5 j4 (j8 (b9 2)))))))))) t5) (b4 (w6 (C7 (C4 hr) (b9 4) a9) (c5 (t7 (u6 (a0e j3 (b9 5) (o7 a0c hr (q9 (b9 0) (b9 1))))))) t5) (b4 (w6 (C7 (C4 hr) (b9 4) a9) (c5 (t7 (u6 (q9 j3 (b9 5))))) t5) (c5 (t7 (C0 (o8 (q9 (u6 (q9 j3 (o7 a0c hr (q9 (b9 0) (b9 1))))) (u6 (j8 j3)))) (o7 v7 hr (q9 (b9 0) a9))))))))))
variable(b0D:F6 P w K mg base 4 d0A c1j (a9T K))
abbrev b2M:List Str:=[c9G]
theorem c0y:C2 [c9G,c9H,d0c,d0u,d0z] b2M (i8 a7r):=by walk_at "sc"
theorem b6R:O0 [c9G,c9H,d0c,d0u,d0z] (i8 a7r) (scF [ (".0",.local),(d0j,.local),(d0y,.globalImplicit),(c9G,.free),(d0u,.free)]) d0j := by walk_at "c0"
theorem b6Q:O0 [c9G,c9H,d0c,d0u,d0z] (i8 a7r) (scF [ (".0",.local),(d0l,.local),(d0A,.globalImplicit),("len",.globalImplicit),(c9G,.free),(d0u,.free),(d0z,.free)]) d0l := by walk_at "c0"
include T v7 b0E a7L a4v a6M b0D in
theorem c1r(F:Fun K d0B d0B a7r f fd):F8 P w K mg base CX0 5 f fd b2M (a7k K):=fk F c0y fun _ _ _ _ _ _ hr nd=>b4 (v9 1 nd (y7 D1 a9 (o7 v7 hr (q9 (b9 0) a9)))) (b4 (w6 (C7 (C4 hr) (o7 v7 hr (q9 (b9 0) a9)) a9) (c5 (v9 1 nd (y7 D1 a9 (o7 v7 hr (q9 (b9 0) a9))))) t5) (b4 (v9 2 nd (o7 a7L hr (j8 (o7 b0E hr (q9 (b9 0) (b9 1)))))) (b4 (v9 3 nd (o7 a4v hr (j8 (b9 0)))) (b4 (v9 4 nd (K9 b6R rfl (F4 rfl T.T3 (j8 (y7 D1 a9 (o7 v7 hr (q9 (b9 0) a9))))) (fun _ _ _ _ _=>F7) (fun _ _ _ _ _=>o7 a6M hr (q9 (b9 1) (b9 4))))) (c5 (t7 (u6 (q9 (K9 b6Q rfl (O6 (b9 2)) (fun _ _ _ _ _=>F7) (fun _ _ _ _ _=>o7 b0D hr (a8F (b9 1) (b9 4) (b9 5) (i9 o9 rfl T.J5 j4 (j8 (b9 0)))))) (b9 2)))))))))
variable(a9t:F6 P w K mg base 5 d0B b2M (a7k K))
abbrev b6g:List Str:=[c9G]
theorem c2X:C2 [c9G] b6g (i8 b2x):=by walk_at "sc"
theorem b9l:O0 [c9G] (i8 b2x) (scF [(".0",.local),(d0j,.local)]) d0j := by walk_at "c0"
include T v7 a9t in
theorem c3S(F:Fun K d0C d0C b2x f fd):F8 P w K mg base CX0 6 f fd b6g (a9m K):=fk F c2X fun _ _ _ _ _ _ hr nd=>b4 (w6 (C7 (C4 hr) (o7 v7 hr (q9 (b9 0) a9)) a9) (c5 (t7 (u6 (q9 (y7 a7a (o8 (j8 (u6 (j8 j3)))) a9) (y7 D1 (K9 b9l rfl (F4 rfl T.T3 (j8 a9)) (fun _ _ _ _ _=>F7) (fun _ _ _ _ _=>o8 (j8 (y7 D1 (b9 0) a9)))) (o8 (j8 (o8 J4)))))))) t5) (c5 (t7 (o7 a9t hr (j8 (b9 0)))))
variable(b3m:F6 P w K mg base 6 d0C b6g (a9m K))
abbrev b0f:List Str:=[c9G]
theorem b8t:C2 [c9G,"_law_odd"] b0f (i8 a9X):=by walk_at "sc"
include T v7 in
theorem b8N(F:Fun K d0D d0D a9X f fd):F8 P w K mg base CX0 2 f fd b0f (a2O K):=fk F b8t fun _ _ _ _ _ _ hr nd=>b4 (v9 1 nd (o8 (A5 Y2 (A5 a9 (A5 j3 (A5 (o8 (j8 j3)) (a6Z (u6 (q9 j3 a9)) (u6 (j8 j3)) (u6 (q9 j3 Q8)) (u6 (a0e j3 j3 (u6 (q9 j3 j3)))) (u6 (q9 j3 a9))))))))) (b4 (v9 1 nd (y7 D1 (b9 1) (o8 (a6Z (u6 (a0e j3 j3 a9)) (u6 (q9 j3 (a3l a2g a9))) (u6 (j8 j3)) (u6 J4) (u6 (a0e j3 j3 (u6 (a0e j3 j3 a9)))))))) (b4 (v9 1 nd (y7 D1 (b9 1) (o8 (a8F (u6 (q9 j3 j3)) (u6 (a0e j3 j3 (y7 b1u a9 a9))) (u6 (q9 j3 j3)) (u6 (a0e j3 j3 (u6 (a0e j3 j3 Q8)))))))) (b4 (v9 1 nd (y7 D1 (b9 1) (o8 (a8F (u6 (a0e j3 a9 (u6 (a0e j3 a9 a9)))) (u6 (q9 j3 j3)) (u6 (a0e j3 j3 (o8 (a0e j3 a9 a9)))) (u6 (q9 j3 Y2)))))) (c5 (t7 (C0 (b9 1) (o7 v7 hr (q9 (b9 0) a9))))))))
variable(a2q:F6 P w K mg base 2 d0D b0f (a2O K))
abbrev a3E:List Str:=[c9G,d0b]
theorem a9W:C2 [c9G,d0b,d0m,d0i,d0l] a3E (i8 a3D):=by walk_at "sc"
include T v7 a2q in
theorem b0i(F:Fun K d0E d0E a3D f fd):F8 P w K mg base CX0 3 f fd a3E (a1B K):=fk F a9W fun _ _ _ _ _ _ hr nd=>b4 (v9 2 nd (o7 v7 hr (q9 (b9 0) a9))) (b4 (w6 (C7 (C4 hr) (b9 2) a9) (c5 (t7 (u6 (q9 (C0 (o8 (A5 Y2 (a6Z (a0l a6b rfl T.a9A a0S (j8 (b9 1))) j3 a2S a9 (o8 J4)))) (o7 v7 hr (q9 (b9 0) a9))) (u6 (q9 j3 a9)))))) t5) (b4 (w6 (C7 (C4 hr) (b9 2) a9) (c5 (t7 (u6 (q9 (y7 D1 (y7 a7a (o8 (j8 (u6 (j8 j3)))) a9) (y7 a7a (o8 (j8 Y2)) (o7 v7 hr (q9 (b9 0) a9)))) (u6 (q9 j3 a9)))))) t5) (b4 (v9 3 nd (o7 v7 hr (q9 (b9 0) (i9 o9 rfl T.J5 j4 (j8 (b9 1)))))) (b4 (v9 4 nd (y7 D1 (y7 D1 (a0k a6p (b9 1) a1k (a1j (b9 3))) (o8 (j8 (o7 a2q hr (j8 (b9 0)))))) (a0k a6p (b9 1) (a1j (y7 D1 (b9 3) a9)) a1k))) (b4 (w6 (C7 (C4 hr) (o7 v7 hr (q9 (b9 0) a9)) a9) (c5 (Y0 (o7 a2q hr (j8 (b9 0))) (a1x (b9 4) (a3l a2g a9) a2a))) t5) (c5 (t7 (u6 (q9 (b9 4) (u6 (q9 j3 (b9 3))))))))))))
variable(a2d:F6 P w K mg base 3 d0E a3E (a1B K))
abbrev a6F:List Str:=[c9G,"_law_row_here",c9H]
theorem b4d:C2 [c9G,"_law_row_here",c9H,"_law_odd"] a6F (i8 a6w):=by walk_at "sc"
include T v7 in
theorem b4s(F:Fun K d0F d0F a6w f fd):F8 P w K mg base CX0 2 f fd a6F (a2l K):=fk F b4d fun _ _ _ _ _ _ hr nd=>b4 (w6 (C7 (C4 hr) (C0 (b9 1) a9) j3) (b4 (v9 3 nd (o8 (A5 (o8 J4) (A5 (o8 (j8 a9)) (A5 (o8 (a0e a9 a9 a9)) (A5 (u6 (q9 a9 a9)) (A5 (o8 (q9 a9 (b9 2))) (A5 (o8 (q9 (a3l a2g a9) a9)) (a6Z (o8 (q9 Q8 a9)) (o8 (q9 a9 j3)) (o8 (q9 Y2 a9)) Y2 a9))))))))) (c5 (t7 (C0 (b9 3) (o7 v7 hr (q9 (b9 0) a9)))))) t5) (b4 (v9 3 nd (o8 (A5 (o8 (q9 a9 a9)) (A5 (u6 (j8 a9)) (A5 (u6 J4) (A5 (o8 (j8 (b9 2))) (A5 (o8 (j8 (a3l a2g a9))) (A5 (o8 (j8 Q8)) (a6Z (o8 (j8 Q8)) (o8 (j8 j3)) (o8 (j8 Y2)) Y2 a9))))))))) (c5 (t7 (C0 (b9 3) (o7 v7 hr (q9 (b9 0) a9))))))
variable(a3c:F6 P w K mg base 2 d0F a6F (a2l K))
abbrev a2Z:List Str:=[c9G,d0b,d0c]
theorem a9b:C2 [c9G,d0b,d0c,d0m,d0i,d0l] a2Z (i8 a2X):=by walk_at "sc"
include T v7 a3c in
theorem a9c(F:Fun K d0G d0G a2X f fd):F8 P w K mg base CX0 3 f fd a2Z (Z4 K):=fk F a9b fun _ _ _ _ _ _ hr nd=>b4 (v9 3 nd (o7 v7 hr (q9 (b9 0) a9))) (b4 (w6 (C7 (C4 hr) (b9 3) a9) (c5 (t7 (u6 (q9 (C0 (o8 (A5 Y2 (a6Z (a0l a6b rfl T.a9A a0S (j8 (b9 2))) j3 a2S a9 (o8 J4)))) (o7 v7 hr (q9 (b9 0) a9))) (u6 (q9 j3 a9)))))) t5) (b4 (w6 (C7 (C4 hr) (b9 3) a9) (c5 (t7 (u6 (q9 (C0 (o8 (a0e (a0k a6p (b9 2) (a1j a9) a1k) (y7 D1 (b9 2) (o8 (j8 (o8 J4)))) (y7 D1 (o8 (j8 (o8 J4))) (b9 2)))) (o7 v7 hr (q9 (b9 0) a9))) (u6 (q9 j3 a9)))))) t5) (b4 (v9 4 nd (o7 v7 hr (q9 (b9 0) (i9 o9 rfl T.J5 j4 (j8 (b9 1)))))) (b4 (v9 5 nd (y7 D1 (y7 D1 (a0k a6p (b9 2) a1k (a1j (b9 4))) (o8 (j8 (o7 a3c hr (a0e (b9 0) (C0 (b9 1) (b9 4)) (i9 o9 rfl T.J5 j4 (j8 (b9 1)))))))) (a0k a6p (b9 2) (a1j (y7 D1 (b9 4) a9)) a1k))) (b4 (w6 (P5 (a2h (C7 (C4 hr) (o7 v7 hr (q9 (b9 0) a9)) a9) (a1V (C7 a0m (b9 4) (y7 a1W (i9 o9 rfl T.J5 j4 (j8 (b9 1))) a9))))) (c5 (Y0 (o7 a3c hr (a0e (b9 0) (C0 (b9 1) (a3l a2g a9)) (i9 o9 rfl T.J5 j4 (j8 (b9 1))))) (a1x (b9 5) (a3l a2g a9) a2a))) t5) (c5 (t7 (u6 (q9 (b9 5) (u6 (q9 j3 (b9 4))))))))))))
variable(a0v:F6 P w K mg base 3 d0G a2Z (Z4 K))
abbrev c1k:List Str:=[c9G]
theorem c5E:C2 [c9G,d0c,d0j,d0u,d0z] c1k (i8 b7s):=by walk_at "sc"
theorem c2d:O0 [c9G,d0c,d0j,d0u,d0z] (i8 b7s) (scF [ (".0",.local),(d0l,.local),(d0A,.globalImplicit),("len",.globalImplicit),(c9G,.free),(d0u,.free),(d0z,.free)]) d0l := by walk_at "c0"
include T v7 b0E a4v a6M b0D in
theorem c6U(F:Fun K d0H d0H b7s f fd):F8 P w K mg base CX0 5 f fd c1k (b2o K):=fk F c5E fun _ _ _ _ _ _ hr nd=>b4 (v9 1 nd (o7 b0E hr (q9 (b9 0) (y7 D1 a9 (o7 v7 hr (q9 (b9 0) a9)))))) (b4 (O4 PassesOwn.never rfl (F4 rfl T.T3 (j8 (i9 o9 rfl T.J5 j4 (j8 (b9 1))))) (M7 2 nd) (c5 (w6 (P5 (a2h (C7 (C4 hr) (o7 v7 hr (q9 (b9 0) a9)) a9) (a1V (C7 (a5b hr) (C0 (b9 1) (b9 2)) (o8 J4))))) (c5 (Y0 (o7 v7 hr (q9 (b9 0) (i9 o9 rfl T.J5 j4 (j8 (b9 1))))) (a1x (C0 (b9 1) (b9 2)) a9 a2a))) t5))) (b4 (w6 (P5 (a2h (C7 (C4 hr) (o7 v7 hr (q9 (b9 0) a9)) a9) (a2h (C7 (C4 hr) (C0 (b9 1) (a3l a2g a9)) (o8 J4)) (a1V (C7 a2j (i9 o9 rfl T.J5 j4 (j8 (b9 1))) a9))))) (c5 (Y0 (o8 (j8 (o7 v7 hr (q9 (b9 0) (i9 o9 rfl T.J5 j4 (j8 (b9 1))))))) (a1x (b9 1) (a3l a2g a9) a2a))) t5) (b4 (v9 3 nd (o7 a4v hr (j8 (b9 0)))) (b4 (v9 4 nd (o8 (j8 (o7 a6M hr (q9 (b9 0) (b9 3)))))) (c5 (t7 (u6 (q9 (K9 c2d rfl (O6 (b9 1)) (fun _ _ _ _ _=>F7) (fun _ _ _ _ _=>o7 b0D hr (a8F (b9 1) (b9 4) (b9 5) (i9 o9 rfl T.J5 j4 (j8 (b9 0)))))) (b9 1)))))))))
variable(b7S:F6 P w K mg base 5 d0H c1k (b2o K))
abbrev b2N:List Str:=[d0c]
theorem c0z:C2 [d0c,d0o,d0q,d0p,d0j,d0d,"_law_bad"] b2N (i8 a7t):=by walk_at "sc"
theorem b6T:O0 [d0c,d0o,d0q,d0p,d0j,d0d,"_law_bad"] (i8 a7t) (scF [ (".0",.local),(d0d,.local),(d0o,.free)]) d0d := by walk_at "c0"
theorem b6S:O0 [d0c,d0o,d0q,d0p,d0j,d0d,"_law_bad"] (i8 a7t) (scF [ (".0",.local),(d0j,.local),(d0o,.free),(d0q,.free)]) d0j := by walk_at "c0"
include T in
theorem c1s(F:Fun K d0I d0I a7t f fd):F8 P w K mg base CX0 1 f fd b2N (a7m K):=fk F c0z fun _ _ _ _ _ _ hr nd=>b4 (v9 1 nd a2S) (b4 (v9 2 nd (b1t (a9E a9 Q8 b1r))) (b4 (O4 PassesOwn.never rfl (F4 rfl T.T3 (j8 (i9 o9 rfl T.J5 j4 (j8 (b9 0))))) (M7 3 nd) (c5 (O4 PassesOwn.never rfl (F4 rfl T.T3 (j8 (i9 o9 rfl T.J5 j4 (j8 (b9 0))))) (M7 4 nd) (b4 (w6 (P5 (X6 (C7 (C4 hr) (C0 (b9 0) (b9 4)) (o8 J4)) (U5 (Q6 (i9 (a8G rfl) rfl T.c5u b1m (j8 (K9 b6T rfl (O6 (C0 (b9 0) (b9 4))) (fun _ _ _ _ _=>F7) (fun _ _ _ _ _=>b3F hr (b9 0) (b9 2) rfl)))))))) (c5 (a3K hr (b9 1) (b9 4) Q8)) t5) (c5 (w6 (a9C hr (b9 4) (b9 2) rfl) (c5 (O4 PassesOwn.never rfl (O6 (C0 (b9 0) (b9 4))) (M7 5 nd) (c5 (a3K hr (b9 2) (b9 5) Q8)))) t5)))))) (b4 (a6W (n:=6) nd rfl rfl b6S rfl (F4 rfl T.T3 (j8 (i9 o9 rfl T.J5 j4 (j8 (b9 0))))) (fun _ _ _ _ _=>b1q (P5 (X6 (a0j hr (b9 0) (b9 2) rfl) (U5 (a0j hr (b9 0) (b9 3) rfl))))) (fun _ _ _ _ _=>b9 0)) (b4 (w6 (C7 (C4 hr) (b9 6) (o8 J4)) (c5 (t7 Y2)) t5) (c5 (t7 (u6 (q9 j3 (C0 (b9 6) a9)))))))))
variable(a9u:F6 P w K mg base 1 d0I b2N (a7m K))
abbrev c5j:List Str:=[c9E]
theorem c0x:C2 [c9E,c9G,d0b,d0c,d0m,d0l,"_law_due","_law_other",d0i,d0j] c5j (i8 b7t):=by walk_at "sc"
include T b7T v7 a0C b3l b3m a2q a2d a0v b7S a9u in
theorem c6W(ck:a4A K c)(F:Fun K "law" "law" b7t f fd):F8 P w K mg base CX0 12 f fd c5j (a9U K):=by
 refine a3N F c0x (fun vs H Q E h=>h.1) (fun cdv A outer s H vs Q E hr h=>⟨c0j K c,?_,h.2 c ck⟩)
 have nd:=c0x.nd
 exact b4 (v9 1 nd (o7 b7T hr (j8 (b9 0)))) (b4 (w6 (P5 (a2h (C7 (C4 hr) (o7 v7 hr (q9 (b9 1) a9)) a9) (a1V (W0 (Q6 (o7 b3l hr (j8 (b9 1)))))))) (c5 (t7 Q8)) t5) (b4 (Y0 (o7 b3m hr (j8 (b9 1))) (a2i rfl (L8 (M7 2 nd) (L8 (M7 3 nd) a1l)))) (b4 (w6 (C7 b3H (o7 a0C hr (q9 (b9 2) (b9 3))) Y2) (c5 (t7 Q8)) t5) (b4 (v9 4 nd (o7 v7 hr (q9 (b9 1) a9))) (b4 (w6 (C7 a0m (b9 4) a9) (b4 (Y0 (o7 a2d hr (q9 (b9 1) (b9 2))) (a2i rfl (L8 (M7 5 nd) (L8 (M7 6 nd) a1l)))) (c5 (v9 7 nd (C0 (o8 (q9 (b9 3) (C0 (o7 a0v hr (a0e (b9 1) (b9 2) (b9 3))) a9))) (b9 4))))) (c5 (w6 (C7 a0m (b9 4) a9) (b4 (v9 5 nd (b9 2)) (c5 (Y0 (o7 a0v hr (a0e (b9 1) (b9 2) (b9 3))) (a2i rfl (L8 (M7 7 nd) (L8 (M7 6 nd) a1l)))))) (b4 (Y0 (o7 b7S hr (j8 (b9 1))) (a2i rfl (L8 (M7 5 nd) (L8 (M7 7 nd) a1l)))) (b4 (v9 6 nd (o7 a9u hr (j8 (b9 7)))) (c5 (w6 (C7 (C4 hr) (o7 v7 hr (q9 (b9 1) a9)) a9) (b4 (v9 8 nd (o7 v7 hr (q9 (b9 1) (i9 o9 rfl T.J5 j4 (j8 (b9 5)))))) (b4 (Y0 (o7 a2q hr (j8 (b9 1))) (a1x (b9 5) (b9 8) a2a)) (c5 (v9 6 nd (u6 (q9 j3 (b9 8))))))) t5))))))) (b4 (O4 PassesOwn.never rfl (F4 rfl T.T3 (j8 a9)) (M7 9 nd) (c5 (w6 (C7 (a5b hr) (o7 a0C hr (q9 (b9 5) (b9 7))) (b9 6)) (c5 (t7 Q8)) t5))) (c5 (t7 (a5a b9W (o7 a0C hr (q9 (b9 2) (b9 3))) Y2)))))))))
end
end
structure XcF(K:Fg)(y:Str)(C:Addr)(f:Str):Prop where
 y:A6 K u8 y=some (some (.ref C))
 xc:a8Z K C=true
 sa:A0 K (.ref C) "__setattr__" = some (some (.builtin "object.__setattr__"))
 ve:b2l K C=true
 hd:a1R K C=true
 kp:Q7 K (.ref C)=true
 ga:A0 K (.ref C) "__getattribute__" = some (some (.builtin "BaseException.__getattribute__"))
 gg:A0 K (.ref C) "__getattr__" = some none
 be:a2u K C (.type "BaseException")=some true
 ha:A0 K (.ref C) "__class__" = some (some (.builtin "object.__class__"))
 hn:a3J K (.builtin "object.__class__") "__get__" = some (some (.builtin "getset_descriptor.__get__"))
 tk:b0I K (.builtin "object.__class__")=some true
 ob:a2u K C (.type "object")=some true
 up:a2u K C (.ref 31)=some true
 vk:a0F K (.ref C) (.type "ValueError")=some true
 na:A0 K (.ref C) f=some none
theorem XcF.cl{K:Fg}{y f:Str}{C:Addr}(h:XcF K y C f):b5l K C:=⟨h.xc,h.sa,h.ve,h.hd,h.kp⟩
theorem XcF.is{K:Fg}{y f:Str}{C:Addr}(h:XcF K y C f):XIs K C:=⟨⟨h.ga,h.gg,h.be⟩,h.hd,h.ha,h.hn,h.tk,h.ob⟩
structure XiF(K:Fg)(q:Str)(st:Stmt)(C f:Addr)(pm cd:Value):Prop where
 i:FnI K c9D q st f pm cd
 a:A0 K (.ref C) c9D = some (some (.ref f))
 t:c4L K (.ref f)=some (.type "function")
theorem mkX{P:w4}{w:World}{K:Fg}{mg:Str->Option Value}{base h:Heap}{f C:Addr}{y q g:Str}{st:Stmt}{ps:List Str}{k:Nat}{pm cd:Value}{sp:Sp}(X:K.In h)(G:h.Ns u8 mg)(c:XcF K y C g)(i:XiF K q st C f pm cd)(O:F8 P w K mg base CX0 k f (fdM c9D q st pm cd) ps sp)(B:BdA c9D q st ps):a3H P w K mg base k y C ps sp:=
 ⟨_,_,O,E1 X G c.y,c.cl,i.a,i.t,i.i.F.binds fun _ _ _ _ _ _ us hl=>(B _ _ _ _ _ _).mp us hl⟩
def c8G(K:Fg):Bool:=[51,70,108,89,120].zipIdx.all fun p=>[51,70,108,89,120].zipIdx.all fun q=>a0F K (.ref p.1) (.ref q.1) == some (decide (p.2=q.2))
theorem Q9{K:Fg}(kt:c8G K=true)(p q:Addr×Nat)(hp:p∈[51,70,108,89,120].zipIdx)(hq:q∈[51,70,108,89,120].zipIdx):a0F K (.ref p.1) (.ref q.1)=some (decide (p.2=q.2)):=beq_iff_eq.mp (J1.mp (J1.mp kt p hp) q hq)
theorem c4e{P:w4}{w:World}{K:Fg}{mg:Str->Option Value}{base h:Heap}{f:Addr}{x:Str}{st:Stmt}{ps:List Str}{j k n:Nat}{pm cd:Value}{a b:Sp}(X:K.In h)(G:h.Ns u8 mg)(g:FnG K x st f pm cd)(O:F8 P w K mg base CX0 j f (fdM x x st pm cd) ps a)(O1:F8 P w K mg base (CX1 P w) k f (fdM x x st pm cd) ps b)(hj:j<=n)(hk:k<=n)(B:BdA x x st ps):a1K P w K mg base n x ps (b3Y a b):=
 ⟨_,_,O.or O1 hj hk,E1 X G g.a,g.i.k,g.i.F.binds fun _ _ _ _ _ _ us hl=>(B _ _ _ _ _ _).mp us hl⟩
structure ClF(K:Fg)(y:Str)(C:Addr):Prop where
 y:A6 K u8 y=some (some (.ref C))
 pg:a2s K C Str.empty=true
 hd:a1R K C=true
 po:a8C K C=true
 sa:A0 K (.ref C) "__setattr__" = some (some (.builtin "object.__setattr__"))
 mm:a4S K C=true
 kc:Q7 K (.ref C)=true
abbrev pm0:Value:=(.str "law_oncedone_k21_plans_refused" 549)
abbrev pm1:Value:=(.str "oncedone.checks" 389)
abbrev pm2:Value:=(.str "oncedone.words" 330)
abbrev pm3:Value:=(.str "oncedone.plans" 419)
theorem c7y{l:PySem.W.OpenLaw}{w:World}{K:Fg}{h:Heap}{mg:Str->Option Value}{fa:Addr}(X:K.In h)(G:h.Ns u8 mg)(hfa:mg "law" = some (.ref fa))
  (y_Plan:ClF K "Plan" 281)
  (a0Y:A0 K (.ref 281) "entries" = some none)
  (a0T:A0 K (.ref 281) c9U = some none)
  (a4E:A0 K (.ref 281) c9T = some none)
  (y_DEED_KINDS:A6 K u8 "DEED_KINDS" = some (some (.ref 123))) (l_DEED_KINDS:K.lookup 123=some ⟨.type "tuple",none,.seq (([(.str "plus" 340),(.str "minus" 341),(.str "times" 342),(.str "less" 343),(.str "same" 344)]:List Value).toArray) 0,#[]⟩)
  (y_FIRST_STEP:A6 K u8 "FIRST_STEP" = some (some (.ref 185))) (l_FIRST_STEP:K.lookup 185=some ⟨.type "tuple",none,.seq (([(.int (-1) 422),(.int (0) 423)]:List Value).toArray) 0,#[]⟩)
  (x0:FnG K c9F b7v 290 pm0 (.ref 289))
  (x1:FnG K c9I b5Q 297 pm0 (.ref 296))
  (x2:FnG K c9J a1E 177 pm1 (.ref 176))
  (x3:FnG K "is_name" a5I 142 pm2 (.ref 141))
  (x4:FnG K c9L a6x 130 pm2 (.ref 129))
  (x5:FnG K c9M a6y 137 pm2 (.ref 136))
  (x6:FnG K c9N a4h 149 pm2 (.ref 148))
  (x7:FnG K "is_deed" a8e 156 pm2 (.ref 155))
  (x8:FnG K "is_row" a9Y 163 pm2 (.ref 162))
  (x9:FnG K c9O a2K 184 pm1 (.ref 183))
  (x10:FnG K c9P a6z 170 pm1 (.ref 169))
  (x11:FnG K c9S a3q 190 pm3 (.ref 189))
  (x12:FnG K c9V a0Q 195 pm3 (.ref 194))
  (x13:FnG K "reached" a8c 212 pm3 (.ref 211))
  (x14:FnG K "turned" a7p 205 pm3 (.ref 204))
  (x15:FnG K c9W a4f 200 pm3 (.ref 199))
  (x16:FnG K c9X a2J 219 pm3 (.ref 218))
  (x17:FnG K c9Y a4g 224 pm3 (.ref 223))
  (x18:FnM K 281 "leads_to" "Plan.leads_to" a2B 250 pm3 (.ref 249))
  (x19:FnM K 281 c9D "Plan.__init__" a0q 236 pm3 (.ref 235))
  (x20:FnG K d0h a5H 371 pm0 (.ref 370))
  (x21:FnG K d0k b2w 414 pm0 (.ref 413))
  (x22:FnG K d0n c0C 351 pm0 (.ref 350))
  (x23:FnG K d0s a3R 356 pm0 (.ref 355))
  (x24:FnG K d0t b2v 309 pm0 (.ref 308))
  (x25:FnG K d0v b2u 316 pm0 (.ref 315))
  (x26:FnG K d0w b2t 323 pm0 (.ref 322))
  (x27:FnG K d0x a8d 330 pm0 (.ref 329))
  (x28:FnG K d0y b5T 337 pm0 (.ref 336))
  (x29:FnG K d0A c0A 344 pm0 (.ref 343))
  (x30:FnG K d0B a7r 361 pm0 (.ref 360))
  (x31:FnG K d0C b2x 409 pm0 (.ref 408))
  (x32:FnG K d0D a9X 378 pm0 (.ref 377))
  (x33:FnG K d0E a3D 385 pm0 (.ref 384))
  (x34:FnG K d0F a6w 392 pm0 (.ref 391))
  (x35:FnG K d0G a2X 399 pm0 (.ref 398))
  (x36:FnG K d0H b7s 404 pm0 (.ref 403))
  (x37:FnG K d0I a7t 366 pm0 (.ref 365))
  (x38:FnG K "law" b7t 421 pm0 (.ref 420))
  (z_abs:A6 K u8 "abs" = some none)
  (z_all:A6 K u8 "all" = some none)
  (z_any:A6 K u8 "any" = some none)
  (z_bool:A6 K u8 "bool" = some none)
  (z_enumerate:A6 K u8 "enumerate" = some none)
  (z_int:A6 K u8 "int" = some none)
  (z_isinstance:A6 K u8 "isinstance" = some none)
  (z_len:A6 K u8 "len" = some none)
  (z_list:A6 K u8 "list" = some none)
  (z_min:A6 K u8 "min" = some none)
  (z_range:A6 K u8 "range" = some none)
  (z_sorted:A6 K u8 "sorted" = some none)
  (z_str:A6 K u8 "str" = some none)
  (z_tuple:A6 K u8 "tuple" = some none)
  (z_zip:A6 K u8 "zip" = some none)
  (y_BOUND:A6 K u8 "BOUND" = some (some (.int (1000000000000) 332)))
  (y_FIGURES:A6 K u8 "FIGURES" = some (some (.str "0123456789" 336)))
  (y_LETTERS:A6 K u8 "LETTERS" = some (some (.str "abcdefghijklmnopqrstuvwxyz" 334)))
  (y_LONGEST_NAME:A6 K u8 "LONGEST_NAME" = some (some (.int (8) 338)))
  (y_MOST:A6 K u8 "MOST" = some (some (.int (400) 391)))
  (z_ValueError:A6 K u8 d0e = some none) (z_sum:A6 K u8 "sum" = some none)
  (yO:A6 K u8 "OnceError" = some (some (.ref 31))) (xO:a8Z K 31=true)
  (k0:XcF K "Wrong" 51 "at") (i0:XiF K "Wrong.__init__" a9Z 51 48 (.str "oncedone.errors" 194) (.ref 47))
  (k1:XcF K "NoThing" 70 "at") (i1:XiF K "NoThing.__init__" a6B 70 67 (.str "oncedone.errors" 194) (.ref 66))
  (k2:XcF K "NoWay" 108 "at") (i2:XiF K "NoWay.__init__" b0a 108 105 (.str "oncedone.errors" 194) (.ref 104))
  (k3:XcF K "TooMany" 89 d0a) (i3:XiF K "TooMany.__init__" a6A 89 86 (.str "oncedone.errors" 194) (.ref 85))
  (k4:XcF K "NoText" 120 "at") (kt:c8G K=true) (xw:FnG K d0g b2s 304 pm0 (.ref 303))
  : ∃fd:Q1,(∀(s:c9) (v:Value),b5v s fd ⟨[v],[]⟩ [(c9E,v)])/\∀base:Heap,K.In base->base.Ns u8 mg->F8 l.prog w K mg base CX0 12 fa fd [c9E] (a9U K):=by
 have e:=hfa.symm.trans (E1 X G x38.a)
 cases e
 let c:Cn:=⟨281,123,185,31,51,70,108,89,120⟩
 have xn:a5w K c.x:=by
  have hc:∀i,i<5->i=0\/i=1\/i=2\/i=3\/i=4:=fun i h=>by omega
  refine⟨fun i h=>?_,fun i h=>?_,fun i h=>?_,fun i h=>?_,fun i j h1 h2=>?_,fun i h=>?_⟩
  ·rcases hc i h with rfl | rfl | rfl | rfl | rfl
   ·exact k0.cl
   ·exact k1.cl
   ·exact k2.cl
   ·exact k3.cl
   ·exact k4.cl
  ·rcases hc i h with rfl | rfl | rfl | rfl | rfl
   ·exact k0.is
   ·exact k1.is
   ·exact k2.is
   ·exact k3.is
   ·exact k4.is
  ·rcases hc i h with rfl | rfl | rfl | rfl | rfl
   ·exact k0.na
   ·exact k1.na
   ·exact k2.na
   ·exact k3.na
   ·exact k4.na
  ·rcases hc i h with rfl | rfl | rfl | rfl | rfl
   ·exact k0.up
   ·exact k1.up
   ·exact k2.up
   ·exact k3.up
   ·exact k4.up
  ·rcases hc i h1 with rfl | rfl | rfl | rfl | rfl
   ·rcases hc j h2 with rfl | rfl | rfl | rfl | rfl
    ·exact Q9 kt (51,0) (51,0) (by decide) (by decide)
    ·exact Q9 kt (51,0) (70,1) (by decide) (by decide)
    ·exact Q9 kt (51,0) (108,2) (by decide) (by decide)
    ·exact Q9 kt (51,0) (89,3) (by decide) (by decide)
    ·exact Q9 kt (51,0) (120,4) (by decide) (by decide)
   ·rcases hc j h2 with rfl | rfl | rfl | rfl | rfl
    ·exact Q9 kt (70,1) (51,0) (by decide) (by decide)
    ·exact Q9 kt (70,1) (70,1) (by decide) (by decide)
    ·exact Q9 kt (70,1) (108,2) (by decide) (by decide)
    ·exact Q9 kt (70,1) (89,3) (by decide) (by decide)
    ·exact Q9 kt (70,1) (120,4) (by decide) (by decide)
   ·rcases hc j h2 with rfl | rfl | rfl | rfl | rfl
    ·exact Q9 kt (108,2) (51,0) (by decide) (by decide)
    ·exact Q9 kt (108,2) (70,1) (by decide) (by decide)
    ·exact Q9 kt (108,2) (108,2) (by decide) (by decide)
    ·exact Q9 kt (108,2) (89,3) (by decide) (by decide)
    ·exact Q9 kt (108,2) (120,4) (by decide) (by decide)
   ·rcases hc j h2 with rfl | rfl | rfl | rfl | rfl
    ·exact Q9 kt (89,3) (51,0) (by decide) (by decide)
    ·exact Q9 kt (89,3) (70,1) (by decide) (by decide)
    ·exact Q9 kt (89,3) (108,2) (by decide) (by decide)
    ·exact Q9 kt (89,3) (89,3) (by decide) (by decide)
    ·exact Q9 kt (89,3) (120,4) (by decide) (by decide)
   ·rcases hc j h2 with rfl | rfl | rfl | rfl | rfl
    ·exact Q9 kt (120,4) (51,0) (by decide) (by decide)
    ·exact Q9 kt (120,4) (70,1) (by decide) (by decide)
    ·exact Q9 kt (120,4) (108,2) (by decide) (by decide)
    ·exact Q9 kt (120,4) (89,3) (by decide) (by decide)
    ·exact Q9 kt (120,4) (120,4) (by decide) (by decide)
  ·rcases hc i h with rfl | rfl | rfl | rfl | rfl
   ·exact k0.vk
   ·exact k1.vk
   ·exact k2.vk
   ·exact k3.vk
   ·exact k4.vk
 have ck:a4A K c:=⟨⟨y_Plan.pg,y_Plan.hd,y_Plan.po,y_Plan.sa⟩,a0Y,a0T,a4E,fun H=>.inr ⟨_,([(.str "plus" 340),(.str "minus" 341),(.str "times" 342),(.str "less" 343),(.str "same" 344)]:List Value).toArray,0,l_DEED_KINDS,rfl,rfl,by decide,.cons ⟨_,rfl⟩ ( .cons ⟨_,rfl⟩ ( .cons ⟨_,rfl⟩ ( .cons ⟨_,rfl⟩ ( .cons ⟨_,rfl⟩ ( .nil)))))⟩,fun H=>.inr ⟨_,([(.int (-1) 422),(.int (0) 423)]:List Value).toArray,0,l_FIRST_STEP,rfl,rfl,by decide,.cons ⟨_,rfl⟩ ( .cons ⟨_,rfl⟩ ( .nil))⟩,xn⟩
 have T:Txt K mg c:=⟨C6 X G z_abs,C6 X G z_all,C6 X G z_any,C6 X G z_bool,C6 X G z_enumerate,C6 X G z_int,C6 X G z_isinstance,C6 X G z_len,C6 X G z_list,C6 X G z_min,C6 X G z_range,C6 X G z_sorted,C6 X G z_str,C6 X G z_tuple,C6 X G z_zip,⟨_,E1 X G y_BOUND,⟨_,rfl⟩⟩,⟨_,E1 X G y_DEED_KINDS,rfl⟩,⟨_,E1 X G y_FIGURES,⟨_,rfl⟩⟩,⟨_,E1 X G y_FIRST_STEP,rfl⟩,⟨_,E1 X G y_LETTERS,⟨_,rfl⟩⟩,⟨_,E1 X G y_LONGEST_NAME,⟨_,rfl⟩⟩,⟨_,E1 X G y_MOST,⟨_,rfl⟩⟩⟩
 refine⟨fdM "law" "law" b7t pm0 (.ref 420),fun s v=>.of_eq rfl,fun base _ _=>?_⟩
 have b7T:=mkC X G x0 (c6X (P:=l.prog) (w:=w) (base:=base) T x0.i.F) fun _ _ _ _ _ _ _=>rfl
 have v7:=mkC X G x1 (c3P (P:=l.prog) (w:=w) (base:=base) T x1.i.F) fun _ _ _ _ _ _ _ _=>rfl
 have c_check_length:=mkC X G x2 (a4K (P:=l.prog) (w:=w) (base:=base) T x2.i.F) fun _ _ _ _ _ _ _ _ _=>rfl
 have a0D:=mkC X G x3 (b6n (P:=l.prog) (w:=w) (base:=base) T x3.i.F) fun _ _ _ _ _ _ _=>rfl
 have a1e:=mkC X G x4 (b4t (P:=l.prog) (w:=w) (base:=base) T x4.i.F) fun _ _ _ _ _ _ _=>rfl
 have a4w:=mkC X G x5 (b4u T a1e x5.i.F) fun _ _ _ _ _ _ _=>rfl
 have T1:=mkC X G x6 (b0Y T a0D a4w x6.i.F) fun _ _ _ _ _ _ _=>rfl
 have a5Q:=mkC X G x7 (b6o T T1 x7.i.F) fun _ _ _ _ _ _ _=>rfl
 have c_is_row:=mkC X G x8 (b8P T a0D T1 a5Q x8.i.F) fun _ _ _ _ _ _ _=>rfl
 have c_check_each:=mkC X G x9 (a6k (P:=l.prog) (w:=w) (base:=base) T x9.i.F) fun _ _ _ _ _ _ _=>rfl
 have a4x:=mkC X G x10 (b4v T a1e x10.i.F) fun _ _ _ _ _ _ _ _=>rfl
 have c_are_nexts:=mkC X G x11 (b2Q T a4x x11.i.F) fun _ _ _ _ _ _ _ _ _=>rfl
 have c_check_nexts:=mkC X G x12 (a5p T c_check_each c_are_nexts x12.i.F) fun _ _ _ _ _ _ _ _=>rfl
 have c_reached:=mkC X G x13 (b6l (P:=l.prog) (w:=w) (base:=base) T x13.i.F) fun _ _ _ _ _ _ _ _=>rfl
 have c_turned:=mkC X G x14 (b8M (P:=l.prog) (w:=w) (base:=base) T x14.i.F) fun _ _ _ _ _ _ _=>rfl
 have c_stops_of:=mkC X G x15 (b4q (P:=l.prog) (w:=w) (base:=base) T x15.i.F) fun _ _ _ _ _ _ _=>rfl
 have c_check_ways:=mkC X G x16 (a6j T c_reached c_turned c_stops_of x16.i.F) fun _ _ _ _ _ _ _=>rfl
 have c_steps_of:=mkC X G x17 (b4r (P:=l.prog) (w:=w) (base:=base) T x17.i.F) fun _ _ _ _ _ _ _=>rfl
 have c_Plan_leads_to:=mkM x18 ck.a3g (a8m (P:=l.prog) (w:=w) (base:=base) T x18.i.F) fun _ _ _ _ _ _ _ _=>rfl
 have c7c:=mkK X G x19 y_Plan.y y_Plan.mm y_Plan.kc (a7y T c_check_length c_is_row c_check_each c_check_nexts c_check_ways c_steps_of c_Plan_leads_to x19.i.F) fun _ _ _ _ _ _ _ _ _=>rfl
 have mx_Wrong:a3H l.prog w K mg base 1 "Wrong" c.x.C_Wrong [c9Z,"at"] (O9 K "at"):=mkX X G k0 i0 (b8Q (P:=l.prog) (w:=w) (mg:=mg) (base:=base) i0.i.F) fun _ _ _ _ _ _ _ _=>rfl
 have mx_NoThing:a3H l.prog w K mg base 1 "NoThing" c.x.C_NoThing [c9Z,"at"] (O9 K "at"):=mkX X G k1 i1 (b4x (P:=l.prog) (w:=w) (mg:=mg) (base:=base) i1.i.F) fun _ _ _ _ _ _ _ _=>rfl
 have mx_NoWay:a3H l.prog w K mg base 1 "NoWay" c.x.C_NoWay [c9Z,"at"] (O9 K "at"):=mkX X G k2 i2 (b8R (P:=l.prog) (w:=w) (mg:=mg) (base:=base) i2.i.F) fun _ _ _ _ _ _ _ _=>rfl
 have mx_TooMany:a3H l.prog w K mg base 1 "TooMany" c.x.C_TooMany [c9Z,d0a] (O9 K d0a):=mkX X G k3 i3 (b4w (P:=l.prog) (w:=w) (mg:=mg) (base:=base) i3.i.F) fun _ _ _ _ _ _ _ _=>rfl
 have d_check_length:a1K l.prog w K mg base 3 c9J Y3 (a1X K c.x):=c4e X G x2 (a4K (P:=l.prog) (w:=w) (base:=base) (T:=T) x2.i.F) (a8n (P:=l.prog) (w:=w) (base:=base) (e:=c.x) (T:=T) (mx_TooMany:=mx_TooMany) (mx_Wrong:=mx_Wrong) x2.i.F) (by decide) (by decide) fun _ _ _ _ _ _ _ _ _=>rfl
 have d_check_each:a1K l.prog w K mg base 3 c9O a0z (a1C K c.x):=c4e X G x9 (a6k (P:=l.prog) (w:=w) (base:=base) (T:=T) x9.i.F) (b0k (P:=l.prog) (w:=w) (base:=base) (e:=c.x) (T:=T) (mx_NoThing:=mx_NoThing) x9.i.F) (by decide) (by decide) fun _ _ _ _ _ _ _=>rfl
 have d_check_nexts:a1K l.prog w K mg base 5 c9V a0b (a2A K c.x):=c4e X G x12 (a5p (P:=l.prog) (w:=w) (base:=base) (T:=T) (c_are_nexts:=c_are_nexts) (c_check_each:=c_check_each) x12.i.F) (a9d (P:=l.prog) (w:=w) (base:=base) (e:=c.x) (T:=T) (mx_Wrong:=mx_Wrong) (d_check_each:=d_check_each) (c_are_nexts:=c_are_nexts) x12.i.F) (by decide) (by decide) fun _ _ _ _ _ _ _ _=>rfl
 have d_check_ways:a1K l.prog w K mg base 3 c9X a0y (a2V K c.x):=c4e X G x16 (a6j (P:=l.prog) (w:=w) (base:=base) (T:=T) (c_reached:=c_reached) (c_stops_of:=c_stops_of) (c_turned:=c_turned) x16.i.F) (b0j (P:=l.prog) (w:=w) (base:=base) (e:=c.x) (T:=T) (mx_NoWay:=mx_NoWay) (c_reached:=c_reached) (c_stops_of:=c_stops_of) (c_turned:=c_turned) x16.i.F) (by decide) (by decide) fun _ _ _ _ _ _ _=>rfl
 have mr_Plan:a8A l.prog w K mg base 8 "Plan" c.V0 a1p (a3B K c c.x):=a8A.or (a7y (P:=l.prog) (w:=w) (base:=base) (T:=T) (c_Plan_leads_to:=c_Plan_leads_to) (c_check_each:=c_check_each) (c_check_length:=c_check_length) (c_check_nexts:=c_check_nexts) (c_check_ways:=c_check_ways) (c_is_row:=c_is_row) (c_steps_of:=c_steps_of) x19.i.F) (b0Z (P:=l.prog) (w:=w) (base:=base) (e:=c.x) (T:=T) (c_is_row:=c_is_row) (d_check_each:=d_check_each) (d_check_length:=d_check_length) (d_check_nexts:=d_check_nexts) (d_check_ways:=d_check_ways) x19.i.F) (by decide) (by decide) (E1 X G y_Plan.y) ⟨y_Plan.mm,x19.a,x19.n,y_Plan.kc⟩ (x19.i.F.binds fun _ _ _ _ _ _ us hl=>match us,hl with | [_,_,_],_=>rfl)
 have h_whole:a9w l.prog w K mg base 1 d0g [d0f] (a5h K):=⟨_,_,b8L (T:=T) xw.i.F,E1 X G xw.a,xw.i.k,xw.i.F.binds fun _ _ _ _ _ _ us hl=>match us,hl with | [_],_=>rfl⟩
 have a0C:F6 l.prog w K mg base 10 d0h a5K (a1a K c):=mkC X G x20 (b6k (e:=c.x) (T:=T) (h_whole:=h_whole) (mr_Plan:=mr_Plan) (bVE:=C6 X G z_ValueError) (bsum:=C6 X G z_sum) (gO:=E1 X G yO) (xO:=xO) (g0:=⟨_,E1 X G k0.y,rfl⟩) (g1:=⟨_,E1 X G k1.y,rfl⟩) (g2:=⟨_,E1 X G k2.y,rfl⟩) (g3:=⟨_,E1 X G k3.y,rfl⟩) (g4:=⟨_,E1 X G k4.y,rfl⟩) x20.i.F) fun _ _ _ _ _ _ _ _=>rfl
 have b3l:=mkC X G x21 (c3R T v7 a0C x21.i.F) fun _ _ _ _ _ _ _=>rfl
 have b0E:=mkC X G x22 (c6V T v7 x22.i.F) fun _ _ _ _ _ _ _ _=>rfl
 have a7L:=mkC X G x23 (b8O (P:=l.prog) (w:=w) (base:=base) T x23.i.F) fun _ _ _ _ _ _ _=>rfl
 have b3k:=mkC X G x24 (c3Q T v7 x24.i.F) fun _ _ _ _ _ _ _=>rfl
 have a4v:=mkC X G x25 (c1q T v7 b3k x25.i.F) fun _ _ _ _ _ _ _=>rfl
 have a9s:=mkC X G x26 (c1p T v7 x26.i.F) fun _ _ _ _ _ _ _=>rfl
 have a0c:=mkC X G x27 (b6m T v7 a9s x27.i.F) fun _ _ _ _ _ _ _ _=>rfl
 have a6M:=mkC X G x28 (c3T T v7 a0c x28.i.F) fun _ _ _ _ _ _ _ _=>rfl
 have b0D:=mkC X G x29 (c6T T v7 a0c x29.i.F) fun _ _ _ _ _ _ _ _ _ _=>rfl
 have a9t:=mkC X G x30 (c1r T v7 b0E a7L a4v a6M b0D x30.i.F) fun _ _ _ _ _ _ _=>rfl
 have b3m:=mkC X G x31 (c3S T v7 a9t x31.i.F) fun _ _ _ _ _ _ _=>rfl
 have a2q:=mkC X G x32 (b8N T v7 x32.i.F) fun _ _ _ _ _ _ _=>rfl
 have a2d:=mkC X G x33 (b0i T v7 a2q x33.i.F) fun _ _ _ _ _ _ _ _=>rfl
 have a3c:=mkC X G x34 (b4s T v7 x34.i.F) fun _ _ _ _ _ _ _ _ _=>rfl
 have a0v:=mkC X G x35 (a9c T v7 a3c x35.i.F) fun _ _ _ _ _ _ _ _ _=>rfl
 have b7S:=mkC X G x36 (c6U T v7 b0E a4v a6M b0D x36.i.F) fun _ _ _ _ _ _ _=>rfl
 have a9u:=mkC X G x37 (c1s (P:=l.prog) (w:=w) (base:=base) T x37.i.F) fun _ _ _ _ _ _ _=>rfl
 exact c6W T b7T v7 a0C b3l b3m a2q a2d a0v b7S a9u ck x38.i.F
theorem walk{l:PySem.W.OpenLaw}{q:w4}{loose:List Str}{XP:(Str->Option Value)->Heap->Prop}{YP:World->Heap->Prop}{d:DefRec}{K:Params->Fg}(hn:l.most=some 63)(hdf:d.params.defaults=[])
  (hY:∀(w:World) (h:Heap),YP w h->(K w.params).In h)
  (F:∀(w:World) (mg:Str->Option Value) (fa:Addr) (h:Heap),(K w.params).In h->h.Ns u8 mg->mg d.name=some (.ref fa) ->
   ∃fd:Q1,(∀(s:c9) (u:Value),b5v s fd ⟨[u],[]⟩ [(c9E,u)])/\∀base:Heap,(K w.params).In base->base.Ns u8 mg->F8 l.prog w (K w.params) mg base CX0 12 fa fd [c9E] (a9U (K w.params))) :
  PySem.W.WalkO q loose XP YP l.row.toRowW d [] (fun f vs=>b3u f vs):=
 L2.c2M (n:=63) (k:=12) (x := c9E) (CX:=fun _=>CX0) (sp:=fun w=>a9U (K w.params)) hn (by decide) hdf ⟨rfl,by decide,by decide,rfl⟩ hY F (fun _ _ a ns hl hO hS=>RD.law_reading _ hl hO hS) fun _ _ _ _ _ z=>z
end PR
open PySem PySem.W PyProof.Rows
set_option maxRecDepth 100000 in
set_option maxHeartbeats 0 in
theorem PySem.Challenge.cw_oncedone_k21_plans_refused_holds : PySem.Challenge.rw_oncedone_k21_plans_refused.Holds := by
 refine HD.fin fun d hd hdf=>PR.walk (l:=HD.row) (K:=HD.K) rfl hdf (fun w h Y=>PySem.W.kIn_of Y) ?F
 intro w mg fa h KX G hmg
 rw[hd]at hmg
 apply PR.c7y KX G hmg <;> first | kernel_rfl | exact⟨⟨by kernel_rfl,by kernel_rfl,by kernel_rfl⟩,by kernel_rfl⟩ | exact⟨⟨by kernel_rfl,by kernel_rfl,by kernel_rfl⟩,by kernel_rfl,by kernel_rfl⟩ | exact⟨by kernel_rfl,by kernel_rfl,by kernel_rfl,by kernel_rfl,by kernel_rfl,by kernel_rfl,by kernel_rfl⟩ | exact⟨by kernel_rfl,by kernel_rfl,by kernel_rfl,by kernel_rfl,by kernel_rfl,by kernel_rfl,by kernel_rfl,by kernel_rfl,by kernel_rfl,by kernel_rfl,by kernel_rfl,by kernel_rfl,by kernel_rfl,by kernel_rfl,by kernel_rfl,by kernel_rfl⟩
