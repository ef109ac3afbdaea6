import PyProof.Rows.All
import KE.KEqDict
import KE.KDictList
import KE.KIsAll
import KE.KDictOf
import KE.KItem
import KE.KDictSum
import Lean
import PySem.Challenge.RW_oncedone_k26_plans_kept
open Array renaming getElem?_eq_getElem->E3,length_toList->E5,getElem?_toList->L4,getElem?_eq_none->a2h,getD_eq_getD_getElem?->a3w,toList_push->c4p,toList->d0O
open Bool renaming false_ne_true->w6,and_eq_true->Z7,eq_iff_iff->a1R,false_eq_true->a4d,not_eq_true'->b0i,and_eq_true_iff->c1m,eq_false_iff->c6D,true_and->d0L,or_false->d0M,false_or->d0N
open Int renaming toNat_natCast->o4,emod_lt_of_pos->a0f,emod_nonneg->a0t,eq_ofNat_of_zero_le->a0A,zero_add->a1p,toNat->b9g
open List renaming length_map->a9,getElem?_map->b8,getElem?_eq_getElem->d4,mem_singleton->d9,length_append->g8,mem_cons->j4,size_toArray->l5,mem_append->t5,getElem?_eq_some_iff->u6,mem_iff_getElem?->v6,not_mem_nil->v8,getElem?_append_left->v9,map_append->z9,length_cons->A2,mem_append_right->A6,replicate->C6,mem_map->C8,mem_append_left->D8,map_cons->E2,getElem_mem->E9,length_replicate->F2,mem_cons_self->F4,mem_cons_of_mem->F9,range->J2,length_singleton->J3,lookup_cons->L8,length_take->L9,take_add_one->O2,getD->O4,map_inj_right->O7,getElem?_set_self->P3,all_eq_true->P9,take_length->R8,getElem?_set_ne->R9,getElem?_replicate->S0,mem_range->U9,map_map->V0,getElem?_append_right->V1,append_assoc->V2,mem_of_getElem?->X3,nodup_cons->Y2,getElem?_eq_none_iff->a0l,mem_filter->a0q,find?_cons->a0r,length_set->a0I,any_cons->a0S,nodup_append->a0W,map_congr_left->a1w,append_nil->a1P,length_eq_zero_iff->a1U,take_of_length_le->a2p,length_range->a2q,getElem?_eq_none->a2J,lookup->a2Z,length_nil->a3r,getD_eq_getElem?_getD->a4c,reverse_cons->a5j,ext_getElem?->a5k,length_erase_of_mem->a5r,getElem?_take_of_lt->a5s,mem_flatMap->a5w,getElem?_cons_zero->a5x,any_eq_true->a5y,length_pos_of_mem->a6B,range_succ->a6G,take_append_drop->a6V,length_filter_le->a6W,replicate_succ'->a7D,length_reverse->a8B,length_pos_iff->a8C,getElem?_range->a8D,filterMap_cons->a8E,all_cons->a9x,filter_append->a9N,getElem?_inj->b0h,length_drop->b1R,map_id->b2x,find?_eq_some_iff_append->b2y,of_mem_zip->b3r,idxOf_lt_length_iff->b6I,map_nil->b9e,getElem_cons_drop->b9f,getElem?_reverse->c1c,mem_iff_getElem->c1i,mem_erase_of_ne->c1j,length_eraseIdx->c1k,length->c1l,pairwise_cons->c4n,mem_filterMap->c4o,foldl_append->c6B,find?_append->c6C,idxOf_cons->c9l,forIn_cons->c9m,nodup_nil->c9s,all_nil->d0X
open List.Pairwise renaming map->a6H,nil->b4L
open List.Perm renaming refl->a1Q,cons->c4j
open Nat renaming le_refl->j6,ne_of_lt->u9,lt_of_lt_of_le->D7,le_trans->J5,zero_le->L6,lt_irrefl->N9,le_succ->a3q,not_lt_zero->a3v,le_of_lt->a4a,lt_succ_of_lt->a5q,lt_succ_self->a6f,le_add_right->a6g,ne_of_gt->b1M,lt_of_succ_lt_succ->c1a,le_of_eq->c1b,add_assoc->d0W
open Option renaming map_eq_some_iff->l9,isSome_iff_exists->a0s,getD_some->a2C,map_some->a2Y,isSome_map->a9M,getD_none->c4m
open PyProof.Rows renaming boot_isinstance->u7,boot_list->A5,sortedS->Q2,callWith_type1->Q6,boot_tuple->a1k,slot_tuple_getitem->a1x,boot_all->a1O,callWith_builtin1->a7C,boot_sorted->b0g,boot_bool->b1Q,boot_str->b2v,boot_int->b2w,risingS->b3q,AllBare->b3v,envOfC->b4M,subscriptTail->c7a,IntsAre->c7c,subscriptTail_builtinR->c9q
open PyProof.Rows.F renaming plain_set_update_loop->a0H,entry_set_update_loop->a5p
open PySem renaming wpAny_bind->b6,wpAny_pure->d7,Shared->i8,starEach->j9,boot_len->o8,sizeLine->u8,compareOp->A3,mainGlobals->A7,Program->C9,mem_of_lookup->E1,wpAny_newObj_type->F7,Around->O0,wpAny_truthy_bool->Q3,wpAny_call_entry->U0,wpAny_callSpecial?_slot->W2,behindInMarks->W3,wpAny_holding->Y3,bootBuiltins->Y5,binaryOp->a0i,wpAny_mono->a0m,foldedSetIterable->a0n,backTo->a0u,FuncData->a0G,sysModules->a0J,codeAny_builtin->a0K,attributeBase->a0Z,wpAny_typeNameOfWhole_keyiter->a1b,wpAny_Call_Name_kw->a1q,wpAny_passesOwn->a1y,keywordEach->a1z,holding->a1A,assignEach->a1S,lookup_relabel_local->a1Y,codeAny->a2D,swapsWith->a3a,plainId_quiet->a3b,importedModules->a3c,DictEntry->a3d,wpAny_pyIter_list->a3O,strIterType->a3P,Builtin->a3Q,pyNext->a4e,codeAny_mono->a4f,builtinLookup_eq_fast->a4g,sizeLine_eq->a4D,sliceBounds->a5z,letOwnedTupleGo->a5A,tupleKind_room_in1->a6I,backToKw->a6J,NameKind->a6K,wpAny_comprehension_free->a7E,getMethod->a7F,relabel->a8F,wpAny_typeOf->b0k,wpAny_execs_nil->b0l,standAt->b0m,call_meets->b1O,Operator->b1P,assign->b2z,getItem->b3t,Keyword->b3u,call->b4G,Result->b4N,wpAny_dictEntries->b6J,wpAny_assign_Name->b6K,compEnvC->c1e,callWith->c1f,wpAny_dictEpoch->c1n,valueAt->c1o,tupleKind->c1p,subscripted->c1q,callerA->c1r,BindsTo->c1s,typeLookup->c6F,PlainAttrs->c6G,IsPart->c6H,wpAny_standAt->c6Z,setItem->c7b,wpAny_pyNext_list_item->c9p,codeAny_compStart_list->c9r,wpAny_pyNext_list_end->c9t,wpAny_notOrdered_dict->c9u,wpAny_isTrue_Compare1->c9v,wpAny_isOneOf_keyiter->c9w,stored->c9x,seqIndex_neg->c9y,lastMarks->c9z,PassesOwn->c9A,wpAny_newFunctionEnv->d0U,wpAny_loadName_local->d0V,wpAny_loadName_cell->d0Y,wpAny_field->d0Z,seqIndex_of->d1a
open PySem.F renaming plainAttrs_list->u4,type_list_append->C1,slot_list_append->C2,called_set->V8,type_list_extend->a4B,slot_list_extend->a4C,plain_extend_loop->b3p,slot_list_index->b4J,plain_list_iadd->b4K,slot_set_iter->b6G,plain_set_new->b6H
open PySem.Heap renaming get?_push_of_some->d5,lt_size->j5,get?_push_size->l7,get?_update_self->W1,size_push->a0z,get?_update_other->a2r
open PySem.Heap.DictOf renaming new->b9h
open PySem.Heap.SameBut renaming update->M5
open PySem.W renaming nsIn->D4,mg_none_of->D6,findIn->I0,kia_one->O5,emptyDict->U1,mg_of->Y4,keepIn->Z4,instObj->a0h,fnOf->a1a,plainGet->a2A,hasDictIn->a4b,makesIn->a5v,lookIn->a6E,codeIn->a6F,plainGet_of->a7B,callWith_K->a8A,specialIn->a9t,plainOver->a9u,methodObj->a9v,isFn->a9w,takerIn->b1L,cellsFrom_some->b6D,methodCall_KW->b6F,kitx_tuple->c0Z,kitx_list->c1g,kitx_dict->c1h,kdl_call->c4h,handedIn->c4i,takesIn->c4l,kitOne->c6A,mroIn->c6W
set_option Elab.async false
set_option linter.all false
set_option maxRecDepth 100000
set_option maxHeartbeats 0
abbrev Fg:=PySem.W.Frag
abbrev Nt:=List (List Nat)
theorem gI{α:Type}{l:List α}{i:Nat}{a:α}(h:l[i]?=some a):i<l.length:=(u6.mp h).1
theorem mI{α:Type}{l:List α}{i:Nat}{a:α}(h:l[i]?=some a):a∈l:=X3 h
theorem d2F{p:Prop}[Decidable p](h:¬p):decide p=false:=decide_eq_false h
theorem d2G{p:Prop}[Decidable p](h:p):decide p=true:=decide_eq_true h
namespace L2
open PySem
def U8(s:Stmt)(j:Nat):Stmt:=match s with
 | .ClassDef _ _ _ body _ _ _ _ _ _ _=>body.getD j (.Pass ⟨0,0,0,0⟩)
 | _=>.Pass ⟨0,0,0,0⟩
def a3L(s:Stmt):Arguments:=match s with
 | .FunctionDef _ a _ _ _ _ _ _ _ _=>a
 | _=>{ posonlyargs:=[],args:=[],vararg:=none,kwonlyargs:=[],kw_defaults:=[],kwarg:=none,defaults:=[] }
def a1K(s:Stmt):List Stmt:=match s with
 | .FunctionDef _ _ b _ _ _ _ _ _ _=>b
 | _=>[]
def j8(s:Stmt):Scope:=match s with
 | .FunctionDef _ _ _ _ _ _ sc _ _ _=>sc
 | _=>{ kind:=.function,names:=[],isGenerator:=false,isCoroutine:=false }
end L2
namespace HD
open PySem PySem.W L2
abbrev P:C9:=PySem.Challenge.pw_oncedone_k26_plans_kept
def top(i:Nat):Stmt:=P.main.body.getD i (.Pass ⟨0,0,0,0⟩)
def kE(Q:Params)(n:Str)(t:Nat)(v:Value):a3d:=⟨PyData.keyHash Q n,.str n t,v⟩
def kD(es:List a3d)(n:Nat):Obj:=⟨.type "dict",none,.dict es.toArray n,#[]⟩
def kF(x qual:Str)(st:Stmt)(pm cd:Value):Obj:=⟨.type "function",none,.func (fnOf x qual (a3L st) (a1K st) (j8 st) .none .none .none pm none cd .none),#[]⟩
def kC(n q:Str)(a b c:Nat)(i3 i4 i5 i6 i7:Int)(r8:Nat)(i10:Int)(r11 r13 r14 r15:Nat)(i16 i17:Int)(d:Nat):Obj:=⟨.type "code",none,.fields ([.str n a,.str q b,.str "/claim/cut.py" c,.int i3 0,.int i4 0,.int i5 0,.int i6 0,.int i7 0,.ref r8,.bool true,.int i10 0,.ref r11,.none,.ref r13,.ref r14,.ref r15,.int i16 0,.int i17 0,.str "/claim/cut.py" d]:List Value).toArray,([]:List (Option Value)).toArray⟩
def kN(n q:Str)(a b c:Nat)(i3 i4 i5 i6 i7:Int)(r8:Nat)(i10:Int)(r11 r15:Nat)(i16 i17:Int)(d:Nat):Obj:=⟨.type "code",none,.fields ([.str n a,.str q b,.str "/claim/cut.py" c,.int i3 0,.int i4 0,.int i5 0,.int i6 0,.int i7 0,.ref r8,.bool true,.int i10 0,.ref r11,.none,.none,.none,.ref r15,.int i16 0,.int i17 0,.str "/claim/cut.py" d]:List Value).toArray,([]:List (Option Value)).toArray⟩
abbrev m0:Value:=(.str "oncedone.errors" 187)
abbrev m1:Value:=(.str "oncedone.words" 307)
abbrev m2:Value:=(.str "oncedone.checks" 366)
abbrev m3:Value:=(.str "oncedone.deeds" 396)
abbrev m4:Value:=(.str "oncedone.plans" 429)
abbrev m5:Value:=(.str "oncedone.ways" 564)
abbrev m6:Value:=(.str "law_oncedone_k26_plans_kept" 626)
def K1(Q:Params):Frag:=[
 (3,kD [kE Q "__name__" 165 (.str "law_oncedone_k26_plans_kept" 626),kE Q "__doc__" 166 .none,kE Q "__package__" 167 .none,kE Q "__loader__" 168 (.builtin "__main__.__loader__#opaque"),kE Q "__spec__" 169 .none,kE Q "__annotations__" 170 (.ref 6),kE Q "__builtins__" 171 (.ref 4),kE Q "__file__" 173 (.str "/claim/cut.py" 172),kE Q "__cached__" 174 .none,kE Q "OnceError" 206 (.ref 24),kE Q "Wrong" 231 (.ref 44),kE Q "NoThing" 256 (.ref 63),kE Q "TooMany" 281 (.ref 82),kE Q "NoWay" 306 (.ref 101),kE Q "BOUND" 310 (.int (1000000000000) 309),kE Q "LETTERS" 312 (.str "abcdefghijklmnopqrstuvwxyz" 311),kE Q "FIGURES" 314 (.str "0123456789" 313),kE Q "LONGEST_NAME" 316 (.int (8) 315),kE Q "DEED_KINDS" 322 (.ref 104),kE Q "is_whole" 329 (.ref 111),kE Q "is_value" 336 (.ref 118),kE Q "is_name" 342 (.ref 123),kE Q "is_operand" 349 (.ref 130),kE Q "is_deed" 356 (.ref 137),kE Q "is_row" 365 (.ref 144),kE Q "MOST" 369 (.int (400) 368),kE Q "is_below" 377 (.ref 151),kE Q "check_length" 386 (.ref 158),kE Q "check_each" 395 (.ref 165),kE Q "deed_of" 404 (.ref 172),kE Q "set_by" 411 (.ref 179),kE Q "operands_of" 419 (.ref 186),kE Q "reads_of" 428 (.ref 193),kE Q "FIRST_STEP" 434 (.ref 194),kE Q "are_nexts" 440 (.ref 199),kE Q "check_nexts" 446 (.ref 204),kE Q "stops_of" 452 (.ref 209),kE Q "turned" 458 (.ref 214),kE Q "reached" 469 (.ref 221),kE Q "check_ways" 479 (.ref 228),kE Q "steps_of" 485 (.ref 233),kE Q "Plan" 563 (.ref 290),kE Q "is_step" 573 (.ref 301),kE Q "is_way" 579 (.ref 306),kE Q "places_of" 585 (.ref 311),kE Q "way_to" 599 (.ref 318),kE Q "traced" 608 (.ref 325),kE Q "way_on" 614 (.ref 330),kE Q "followed" 625 (.ref 337),kE Q "_law_bag" 633 (.ref 342),kE Q "_law_take" 646 (.ref 349),kE Q "_law_whole" 653 (.ref 356),kE Q "_law_name" 659 (.ref 361),kE Q "_law_names" 672 (.ref 368),kE Q "_law_value" 679 (.ref 375),kE Q "_law_operand" 687 (.ref 382),kE Q "_law_deed" 698 (.ref 389),kE Q "_law_row" 710 (.ref 396),kE Q "_law_net" 723 (.ref 403),kE Q "_law_mended" 729 (.ref 408),kE Q "_law_drawn" 735 (.ref 413),kE Q "_law_told" 741 (.ref 418),kE Q "_law_copy" 747 (.ref 423),kE Q "_law_ways_good" 759 (.ref 430),kE Q "_law_fields" 771 (.ref 437),kE Q "_law_spoil" 781 (.ref 444),kE Q "law" 787 (.ref 449)] 67),
 (23,kD [kE Q "__module__" 196 (.str "oncedone.errors" 187),kE Q "__firstlineno__" 200 (.int (2) 199),kE Q "__static_attributes__" 201 (.ref 22),kE Q "__weakref__" 203 (.ref 25),kE Q "__doc__" 204 .none] 3),
 (24,⟨(.type "type"),none,.cls { name := "OnceError",bases:=[(.type "ValueError")],mro:=[(.ref 24),(.type "ValueError"),(.type "Exception"),(.type "BaseException"),(.type "object")],ns:=23,qualname := "OnceError",hasDict:=true,subclasses:=[(.ref 44),(.ref 63),(.ref 82),(.ref 101)] },([some (.ref 15),none,some (.str "OnceError" 189),some (.str "OnceError" 197),some (.builtin "ValueError.__new__"),some (.bool true)]:List (Option Value)).toArray⟩),
 (40,kC "__init__" "Wrong.__init__" 219 220 221 6 2 0 0 3 35 181 36 37 38 39 224 6 225),
 (41,kF "__init__" "Wrong.__init__" (U8 (top 2) 0) m0 (.ref 40)),
 (43,kD [kE Q "__module__" 214 (.str "oncedone.errors" 187),kE Q "__firstlineno__" 218 (.int (4) 217),kE Q "__init__" 226 (.ref 41),kE Q "__static_attributes__" 228 (.ref 42),kE Q "__doc__" 229 .none] 2),
 (44,⟨(.type "type"),none,.cls { name := "Wrong",bases:=[(.ref 24)],mro:=[(.ref 44),(.ref 24),(.type "ValueError"),(.type "Exception"),(.type "BaseException"),(.type "object")],ns:=43,qualname := "Wrong",hasDict:=true,subclasses:=[] },([some (.ref 28),none,some (.str "Wrong" 207),some (.str "Wrong" 215),some (.builtin "ValueError.__new__"),some (.bool true)]:List (Option Value)).toArray⟩),
 (59,kC "__init__" "NoThing.__init__" 244 245 246 10 2 0 0 3 54 181 55 56 57 58 249 10 250),
 (60,kF "__init__" "NoThing.__init__" (U8 (top 3) 0) m0 (.ref 59)),
 (62,kD [kE Q "__module__" 239 (.str "oncedone.errors" 187),kE Q "__firstlineno__" 243 (.int (8) 242),kE Q "__init__" 251 (.ref 60),kE Q "__static_attributes__" 253 (.ref 61),kE Q "__doc__" 254 .none] 2),
 (63,⟨(.type "type"),none,.cls { name := "NoThing",bases:=[(.ref 24)],mro:=[(.ref 63),(.ref 24),(.type "ValueError"),(.type "Exception"),(.type "BaseException"),(.type "object")],ns:=62,qualname := "NoThing",hasDict:=true,subclasses:=[] },([some (.ref 47),none,some (.str "NoThing" 232),some (.str "NoThing" 240),some (.builtin "ValueError.__new__"),some (.bool true)]:List (Option Value)).toArray⟩),
 (78,kC "__init__" "TooMany.__init__" 269 270 271 14 2 0 0 3 73 181 74 75 76 77 274 14 275),
 (79,kF "__init__" "TooMany.__init__" (U8 (top 4) 0) m0 (.ref 78)),
 (81,kD [kE Q "__module__" 264 (.str "oncedone.errors" 187),kE Q "__firstlineno__" 268 (.int (12) 267),kE Q "__init__" 276 (.ref 79),kE Q "__static_attributes__" 278 (.ref 80),kE Q "__doc__" 279 .none] 2),
 (82,⟨(.type "type"),none,.cls { name := "TooMany",bases:=[(.ref 24)],mro:=[(.ref 82),(.ref 24),(.type "ValueError"),(.type "Exception"),(.type "BaseException"),(.type "object")],ns:=81,qualname := "TooMany",hasDict:=true,subclasses:=[] },([some (.ref 66),none,some (.str "TooMany" 257),some (.str "TooMany" 265),some (.builtin "ValueError.__new__"),some (.bool true)]:List (Option Value)).toArray⟩),
 (97,kC "__init__" "NoWay.__init__" 294 295 296 18 2 0 0 3 92 181 93 94 95 96 299 18 300),
 (98,kF "__init__" "NoWay.__init__" (U8 (top 5) 0) m0 (.ref 97)),
 (100,kD [kE Q "__module__" 289 (.str "oncedone.errors" 187),kE Q "__firstlineno__" 293 (.int (16) 292),kE Q "__init__" 301 (.ref 98),kE Q "__static_attributes__" 303 (.ref 99),kE Q "__doc__" 304 .none] 2),
 (101,⟨(.type "type"),none,.cls { name := "NoWay",bases:=[(.ref 24)],mro:=[(.ref 101),(.ref 24),(.type "ValueError"),(.type "Exception"),(.type "BaseException"),(.type "object")],ns:=100,qualname := "NoWay",hasDict:=true,subclasses:=[] },([some (.ref 85),none,some (.str "NoWay" 282),some (.str "NoWay" 290),some (.builtin "ValueError.__new__"),some (.bool true)]:List (Option Value)).toArray⟩),
 (104,⟨(.type "tuple"),none,.seq ([(.str "plus" 317),(.str "minus" 318),(.str "times" 319),(.str "less" 320),(.str "same" 321)]:List Value).toArray 0,([]:List (Option Value)).toArray⟩),
 (110,kC "is_whole" "is_whole" 323 324 325 26 1 0 0 3 105 181 106 107 108 109 327 26 328),
 (111,kF "is_whole" "is_whole" (top 12) m1 (.ref 110)),
 (117,kC "is_value" "is_value" 330 331 332 28 1 0 0 3 112 181 113 114 115 116 334 28 335),
 (118,kF "is_value" "is_value" (top 13) m1 (.ref 117)),
 (122,kN "is_name" "is_name" 337 338 339 30 1 0 0 3 119 181 120 121 340 30 341),
 (123,kF "is_name" "is_name" (top 14) m1 (.ref 122)),
 (129,kC "is_operand" "is_operand" 343 344 345 34 1 0 0 3 124 181 125 126 127 128 347 34 348),
 (130,kF "is_operand" "is_operand" (top 15) m1 (.ref 129)),
 (136,kC "is_deed" "is_deed" 350 351 352 36 1 0 0 3 131 181 132 133 134 135 354 36 355),
 (137,kF "is_deed" "is_deed" (top 16) m1 (.ref 136)),
 (143,kC "is_row" "is_row" 357 358 359 40 1 0 0 3 138 181 139 140 141 142 363 40 364),
 (144,kF "is_row" "is_row" (top 17) m1 (.ref 143))]
def c9c:List Addr:=[3,23,24,40,41,43,44,59,60,62,63,78,79,81,82,97,98,100,101,104,110,111,117,118,122,123,129,130,136,137,143,144]
def K2(Q:Params):Frag:=[
 (150,kC "is_below" "is_below" 370 371 372 56 2 0 0 3 145 181 146 147 148 149 375 56 376),
 (151,kF "is_below" "is_below" (top 20) m2 (.ref 150)),
 (157,kC "check_length" "check_length" 378 379 380 58 3 0 0 3 152 181 153 154 155 156 384 58 385),
 (158,kF "check_length" "check_length" (top 21) m2 (.ref 157)),
 (164,kC "check_each" "check_each" 387 388 389 63 1 0 0 3 159 181 160 161 162 163 393 63 394),
 (165,kF "check_each" "check_each" (top 22) m2 (.ref 164)),
 (171,kC "deed_of" "deed_of" 398 399 400 68 1 0 0 3 166 181 167 168 169 170 402 68 403),
 (172,kF "deed_of" "deed_of" (top 24) m3 (.ref 171)),
 (178,kC "set_by" "set_by" 405 406 407 70 1 0 0 3 173 181 174 175 176 177 409 70 410),
 (179,kF "set_by" "set_by" (top 25) m3 (.ref 178)),
 (185,kC "operands_of" "operands_of" 412 413 414 72 1 0 0 3 180 181 181 182 183 184 417 72 418),
 (186,kF "operands_of" "operands_of" (top 26) m3 (.ref 185)),
 (192,kC "reads_of" "reads_of" 420 421 422 81 1 0 0 3 187 181 188 189 190 191 426 81 427),
 (193,kF "reads_of" "reads_of" (top 27) m3 (.ref 192)),
 (194,⟨(.type "tuple"),none,.seq ([(.int (-1) 432),(.int (0) 433)]:List Value).toArray 0,([]:List (Option Value)).toArray⟩),
 (198,kN "are_nexts" "are_nexts" 435 436 437 89 3 0 0 3 195 181 196 197 438 89 439),
 (199,kF "are_nexts" "are_nexts" (top 30) m4 (.ref 198)),
 (203,kN "check_nexts" "check_nexts" 441 442 443 94 2 0 0 3 200 181 201 202 444 94 445),
 (204,kF "check_nexts" "check_nexts" (top 31) m4 (.ref 203)),
 (208,kN "stops_of" "stops_of" 447 448 449 98 1 0 0 3 205 181 206 207 450 98 451),
 (209,kF "stops_of" "stops_of" (top 32) m4 (.ref 208)),
 (213,kN "turned" "turned" 453 454 455 100 1 0 0 3 210 181 211 212 456 100 457),
 (214,kF "turned" "turned" (top 33) m4 (.ref 213)),
 (220,kC "reached" "reached" 459 460 461 106 2 0 0 3 215 181 216 217 218 219 467 106 468),
 (221,kF "reached" "reached" (top 34) m4 (.ref 220)),
 (227,kC "check_ways" "check_ways" 470 471 472 115 1 0 0 3 222 181 223 224 225 226 477 115 478),
 (228,kF "check_ways" "check_ways" (top 35) m4 (.ref 227)),
 (232,kN "steps_of" "steps_of" 480 481 482 121 1 0 0 3 229 181 230 231 483 121 484),
 (233,kF "steps_of" "steps_of" (top 36) m4 (.ref 232)),
 (244,kN "__init__" "Plan.__init__" 498 499 500 128 3 0 0 3 241 181 242 243 501 128 502),
 (245,kF "__init__" "Plan.__init__" (U8 (top 37) 0) m4 (.ref 244)),
 (251,kC "steps" "Plan.steps" 504 505 506 139 1 0 0 3 246 181 247 248 249 250 508 139 509)]
def c6u:List Addr:=[150,151,157,158,164,165,171,172,178,179,185,186,192,193,194,198,199,203,204,208,209,213,214,220,221,227,228,232,233,244,245,251]
def K3(Q:Params):Frag:=[
 (252,kF "steps" "Plan.steps" (U8 (top 37) 1) m4 (.ref 251)),
 (258,kC "leads_to" "Plan.leads_to" 511 512 513 142 2 0 0 3 253 181 254 255 256 257 516 142 517),
 (259,kF "leads_to" "Plan.leads_to" (U8 (top 37) 2) m4 (.ref 258)),
 (265,kC "steps_into" "Plan.steps_into" 519 520 521 147 2 0 0 3 260 181 261 262 263 264 524 147 525),
 (266,kF "steps_into" "Plan.steps_into" (U8 (top 37) 3) m4 (.ref 265)),
 (272,kC "stops" "Plan.stops" 527 528 529 150 1 0 0 3 267 181 268 269 270 271 531 150 532),
 (273,kF "stops" "Plan.stops" (U8 (top 37) 4) m4 (.ref 272)),
 (279,kC "deeds" "Plan.deeds" 534 535 536 153 1 0 0 3 274 181 275 276 277 278 541 153 542),
 (280,kF "deeds" "Plan.deeds" (U8 (top 37) 5) m4 (.ref 279)),
 (286,kC "names" "Plan.names" 544 545 546 161 1 0 0 3 281 181 282 283 284 285 550 161 551),
 (287,kF "names" "Plan.names" (U8 (top 37) 6) m4 (.ref 286)),
 (289,kD [kE Q "__module__" 493 (.str "oncedone.plans" 429),kE Q "__firstlineno__" 497 (.int (126) 496),kE Q "__init__" 503 (.ref 245),kE Q "steps" 510 (.ref 252),kE Q "leads_to" 518 (.ref 259),kE Q "steps_into" 526 (.ref 266),kE Q "stops" 533 (.ref 273),kE Q "deeds" 543 (.ref 280),kE Q "names" 552 (.ref 287),kE Q "__static_attributes__" 556 (.ref 288),kE Q "__dict__" 558 (.ref 291),kE Q "__weakref__" 560 (.ref 292),kE Q "__doc__" 561 .none] 4),
 (290,⟨(.type "type"),none,.cls { name := "Plan",bases:=[(.type "object")],mro:=[(.ref 290),(.type "object")],ns:=289,qualname := "Plan",hasDict:=true,subclasses:=[] },([none,none,some (.str "Plan" 486),some (.str "Plan" 494),some (.builtin "object.__new__"),some (.bool true)]:List (Option Value)).toArray⟩),
 (300,kC "is_step" "is_step" 566 567 568 169 2 0 0 3 295 181 296 297 298 299 571 169 572),
 (301,kF "is_step" "is_step" (top 39) m5 (.ref 300)),
 (305,kN "is_way" "is_way" 574 575 576 177 2 0 0 3 302 181 303 304 577 177 578),
 (306,kF "is_way" "is_way" (top 40) m5 (.ref 305)),
 (310,kN "places_of" "places_of" 580 581 582 183 2 0 0 3 307 181 308 309 583 183 584),
 (311,kF "places_of" "places_of" (top 41) m5 (.ref 310)),
 (317,kC "way_to" "way_to" 586 587 588 185 2 0 0 3 312 181 313 314 315 316 597 185 598),
 (318,kF "way_to" "way_to" (top 42) m5 (.ref 317)),
 (324,kC "traced" "traced" 600 601 602 197 2 0 0 3 319 181 320 321 322 323 606 197 607),
 (325,kF "traced" "traced" (top 43) m5 (.ref 324)),
 (329,kN "way_on" "way_on" 609 610 611 203 2 0 0 3 326 181 327 328 612 203 613),
 (330,kF "way_on" "way_on" (top 44) m5 (.ref 329)),
 (336,kC "followed" "followed" 615 616 617 215 3 0 0 3 331 181 332 333 334 335 623 215 624),
 (337,kF "followed" "followed" (top 45) m5 (.ref 336)),
 (341,kN "_law_bag" "_law_bag" 628 629 630 223 1 0 0 3 338 181 339 340 631 223 632),
 (342,kF "_law_bag" "_law_bag" (top 47) m6 (.ref 341)),
 (348,kC "_law_take" "_law_take" 634 635 636 225 2 0 0 3 343 181 344 345 346 347 644 225 645),
 (349,kF "_law_take" "_law_take" (top 48) m6 (.ref 348)),
 (355,kC "_law_whole" "_law_whole" 647 648 649 244 1 0 0 3 350 181 351 352 353 354 651 244 652)]
def c6t:List Addr:=[252,258,259,265,266,272,273,279,280,286,287,289,290,300,301,305,306,310,311,317,318,324,325,329,330,336,337,341,342,348,349,355]
def K4(Q:Params):Frag:=[
 (356,kF "_law_whole" "_law_whole" (top 49) m6 (.ref 355)),
 (360,kN "_law_name" "_law_name" 654 655 656 246 1 0 0 3 357 181 358 359 657 246 658),
 (361,kF "_law_name" "_law_name" (top 50) m6 (.ref 360)),
 (367,kC "_law_names" "_law_names" 660 661 662 250 1 0 0 3 362 181 363 364 365 366 670 250 671),
 (368,kF "_law_names" "_law_names" (top 51) m6 (.ref 367)),
 (374,kC "_law_value" "_law_value" 673 674 675 263 1 0 0 3 369 181 370 371 372 373 677 263 678),
 (375,kF "_law_value" "_law_value" (top 52) m6 (.ref 374)),
 (381,kC "_law_operand" "_law_operand" 680 681 682 265 2 0 0 3 376 181 377 378 379 380 685 265 686),
 (382,kF "_law_operand" "_law_operand" (top 53) m6 (.ref 381)),
 (388,kC "_law_deed" "_law_deed" 688 689 690 269 2 0 0 3 383 181 384 385 386 387 696 269 697),
 (389,kF "_law_deed" "_law_deed" (top 54) m6 (.ref 388)),
 (395,kC "_law_row" "_law_row" 699 700 701 276 4 0 0 3 390 181 391 392 393 394 708 276 709),
 (396,kF "_law_row" "_law_row" (top 55) m6 (.ref 395)),
 (402,kC "_law_net" "_law_net" 711 712 713 288 2 0 0 3 397 181 398 399 400 401 721 288 722),
 (403,kF "_law_net" "_law_net" (top 56) m6 (.ref 402)),
 (407,kN "_law_mended" "_law_mended" 724 725 726 306 1 0 0 3 404 181 405 406 727 306 728),
 (408,kF "_law_mended" "_law_mended" (top 57) m6 (.ref 407)),
 (412,kN "_law_drawn" "_law_drawn" 730 731 732 321 1 0 0 3 409 181 410 411 733 321 734),
 (413,kF "_law_drawn" "_law_drawn" (top 58) m6 (.ref 412)),
 (417,kN "_law_told" "_law_told" 736 737 738 329 2 0 0 3 414 181 415 416 739 329 740),
 (418,kF "_law_told" "_law_told" (top 59) m6 (.ref 417)),
 (422,kN "_law_copy" "_law_copy" 742 743 744 333 1 0 0 3 419 181 420 421 745 333 746),
 (423,kF "_law_copy" "_law_copy" (top 60) m6 (.ref 422)),
 (429,kC "_law_ways_good" "_law_ways_good" 748 749 750 337 2 0 0 3 424 181 425 426 427 428 757 337 758),
 (430,kF "_law_ways_good" "_law_ways_good" (top 61) m6 (.ref 429)),
 (436,kC "_law_fields" "_law_fields" 760 761 762 348 3 0 0 3 431 181 432 433 434 435 769 348 770),
 (437,kF "_law_fields" "_law_fields" (top 62) m6 (.ref 436)),
 (443,kC "_law_spoil" "_law_spoil" 772 773 774 363 3 0 0 3 438 181 439 440 441 442 779 363 780),
 (444,kF "_law_spoil" "_law_spoil" (top 63) m6 (.ref 443)),
 (448,kN "law" "law" 782 783 784 370 1 0 0 3 445 181 446 447 785 370 786),
 (449,kF "law" "law" (top 64) m6 (.ref 448))]
def c6s:List Addr:=[356,360,361,367,368,374,375,381,382,388,389,395,396,402,403,407,408,412,413,417,418,422,423,429,430,436,437,443,444,448,449]
def K(Q:Params):Frag:=K1 Q++(K2 Q++(K3 Q++K4 Q))
def adr:List Addr:=c9c++(c6u++(c6t++c6s))
def q:C9:=view P [64]
def loose:List Str:=(["OnceError","Wrong","NoThing","TooMany","NoWay","BOUND","LETTERS","FIGURES","LONGEST_NAME","DEED_KINDS","is_whole","is_value","is_name","is_operand","is_deed","is_row","MOST","is_below","check_length","check_each","deed_of","set_by","operands_of","reads_of","FIRST_STEP","are_nexts","check_nexts","stops_of","turned","reached","check_ways","steps_of","Plan","is_step","is_way","places_of","way_to","traced","way_on","followed","_law_bag","_law_take","_law_whole","_law_name","_law_names","_law_value","_law_operand","_law_deed","_law_row","_law_net","_law_mended","_law_drawn","_law_told","_law_copy","_law_ways_good","_law_fields","_law_spoil"]:List String).map Str.ofString
theorem c3x{p q:C9}{loose:List Str}{Xt:i8->Bool}{α:Type}{Yf:i8->α}{Ya:World->α}{N m₀:Nat}{ann:Option Value}(e:opening p=plainProg p.main.scope.names)(hN:Nat.ble 600 N=true)(f:∀s,fenceModules? p s=some s)
  (size:∀w:World,((boot_heap w.params).isNs A7,(boot_heap w.params).objs.size,(boot_heap w.params).nsMap A7 "__annotations__")=(true,m₀,ann))
  {r:World->OsState->Option i8} (hr:∀w os x,r w os=some x->topRun treeTable p w m₀ ann N ⟨boot_heap w.params,Array.mk [],boot_drawn,boot_toks,os⟩ (topStub p)=some x)
  (ra:∀w os,(r w os).map (fun s₁=>staticsOk (a3c p.main.body) (boot_heap w.params) s₁.heap&&namesBound p s₁.heap&&gensDone s₁&&laidKept (boot_heap w.params) s₁.heap)=some true)
  (rb:∀w os,(r w os).map (openSeen q loose (a3c p.main.body) Xt true)=some (openGood q loose))
  (rc:∀w os,(r w os).map Yf=some (Ya w)) :
  LeftO p q loose Xt Yf Ya N:=fun w=>by
 obtain⟨⟨h,gs,d,k,os⟩,e1,e2⟩:=l9.mp (boot_open e hN f w)
 obtain⟨rfl,rfl,rfl,rfl⟩:h=boot_heap w.params/\gs=Array.mk []/\d=boot_drawn/\k=boot_toks:=by simpa using e2
 obtain⟨z1,z2,z3⟩:_/\_/\_:=by simpa only[Prod.mk.injEq]using size w
 obtain⟨s₁,r1,r3⟩:=l9.mp (ra w os)
 have rb:=rb w os
 have rc:=rc w os
 rw[r1]at rb rc
 have r1:=hr w os _ r1
 have r4:(openSeen q loose (a3c p.main.body) Xt true s₁,Yf s₁)=(openGood q loose,Ya w):=Prod.ext (Option.some.inj rb) (Option.some.inj rc)
 have t:topFrom treeTable p w N ⟨boot_heap w.params,Array.mk [],boot_drawn,boot_toks,os⟩=some s₁:=by
  unfold topFrom
  dsimp only
  rw[z1,z2,z3,r1]
  show(match staticsOk (a3c p.main.body) (boot_heap w.params) s₁.heap&&namesBound p s₁.heap&&gensDone s₁&&laidKept (boot_heap w.params) s₁.heap with | true=>some s₁ | false=>none)=_
  rw[r3]
 unfold openEnds
 rw[e1]
 show(topFrom treeTable p w N _).map _=_
 rw[t]
 exact congrArg some r4
abbrev b2n:Hook:=kHook K adr (fun _=>by kernel_rfl)
abbrev row:OpenLaw:=PySem.Challenge.rw_oncedone_k26_plans_kept
def kZ(x q:Str)(st:Stmt):Obj:=⟨.none,none,.func { fnOf x q (a3L st) (a1K st) (j8 st) .none .none .none .none none .none .none with globals:=0 },#[]⟩
def kS(xs:List Value)(n:Nat):Obj:=⟨.type "tuple",none,.seq xs.toArray n,([]:List (Option Value)).toArray⟩
noncomputable section
def kk(a:Addr)(Q:Params):Obj:=((K Q).lookup a).getD (boot_o_4 Q)
def h1(Q:Params):List Obj:=[
boot_o_0 Q,
boot_o_1 Q,
boot_o_2 Q,
kD [kE Q "__name__" 165 (.str "oncedone.words" 307),kE Q "__doc__" 166 .none,kE Q "__package__" 167 .none,kE Q "__loader__" 168 (.builtin "__main__.__loader__#opaque"),kE Q "__spec__" 169 .none,kE Q "__annotations__" 170 (.ref 6),kE Q "__builtins__" 171 (.ref 4),kE Q "__file__" 173 (.str "/claim/cut.py" 172),kE Q "__cached__" 174 .none,kE Q "OnceError" 206 (.ref 24),kE Q "Wrong" 231 (.ref 44),kE Q "NoThing" 256 (.ref 63),kE Q "TooMany" 281 (.ref 82),kE Q "NoWay" 306 (.ref 101),kE Q "BOUND" 310 (.int (1000000000000) 309),kE Q "LETTERS" 312 (.str "abcdefghijklmnopqrstuvwxyz" 311),kE Q "FIGURES" 314 (.str "0123456789" 313),kE Q "LONGEST_NAME" 316 (.int (8) 315),kE Q "DEED_KINDS" 322 (.ref 104),kE Q "is_whole" 329 (.ref 111),kE Q "is_value" 336 (.ref 118),kE Q "is_name" 342 (.ref 123),kE Q "is_operand" 349 (.ref 130),kE Q "is_deed" 356 (.ref 137)] 24,
boot_o_4 Q,
boot_o_5 Q,
boot_o_6 Q,
boot_o_7 Q,
boot_o_8 Q,
boot_o_9 Q,
boot_o_10 Q,
kS [] 0,
⟨.none,none,.fields ([(.int (2) 0),(.int (0) 0),(.ref 20),(.int (4) 0),(.int (0) 0),(.ref 33),(.int (8) 0),(.int (0) 0),(.ref 52),(.int (12) 0),(.int (0) 0),(.ref 71),(.int (16) 0),(.int (0) 0),(.ref 90),(.int (26) 0),(.int (0) 0),(.ref 110),(.int (28) 0),(.int (0) 0),(.ref 117),(.int (30) 0),(.int (0) 0),(.ref 122),(.int (34) 0),(.int (0) 0),(.ref 129),(.int (36) 0),(.int (0) 0),(.ref 136)]:List Value).toArray,([]:List (Option Value)).toArray⟩,
⟨(.type "code"),none,.fields ([(.str "<module>" 182),(.str "<module>" 183),(.str "/claim/cut.py" 184),(.int (1) 0),(.int (0) 0),(.int (0) 0),(.int (0) 0),(.int (0) 0),(.ref 11),(.bool false),(.int (181) 0),(.ref 12),.none,.none,.none,.none,(.int (185) 0),(.int (1) 0),(.str "/claim/cut.py" 186)]:List Value).toArray,([]:List (Option Value)).toArray⟩,
⟨(.type "frame"),none,.plain,([some (.ref 13),some (.ref 3),some (.ref 3),none,some (.str "__main__" 164),none,some (.ref 0)]:List (Option Value)).toArray⟩,
kS [(.type "ValueError")] 0,
⟨(.type "builtin_function_or_method"),none,.fields ([(.builtin "type.__prepare__"),(.type "type")]:List Value).toArray,([]:List (Option Value)).toArray⟩,
kD [kE Q "__module__" 196 (.str "oncedone.errors" 187),kE Q "__qualname__" 198 (.str "OnceError" 197),kE Q "__firstlineno__" 200 (.int (2) 199),kE Q "__static_attributes__" 201 (.ref 22)] 4,
kS [] 0,
⟨.none,none,.fields ([]:List Value).toArray,([]:List (Option Value)).toArray⟩,
⟨(.type "code"),none,.fields ([(.str "OnceError" 191),(.str "OnceError" 192),(.str "/claim/cut.py" 193),(.int (2) 0),(.int (0) 0),(.int (0) 0),(.int (0) 0),(.int (0) 0),(.ref 18),(.bool false),(.int (181) 0),(.ref 19),.none,.none,.none,.none,(.int (194) 0),(.int (2) 0),(.str "/claim/cut.py" 195)]:List Value).toArray,([]:List (Option Value)).toArray⟩,
⟨(.type "frame"),none,.plain,([some (.ref 20),some (.ref 3),some (.ref 17),none,some (.str "oncedone.errors" 187),none,some (.ref 0)]:List (Option Value)).toArray⟩,
kS [] 0,
kk 23 Q,
kk 24 Q,
⟨(.type "getset_descriptor"),none,.fields ([(.str "__weakref__" 202),(.ref 24),(.builtin "ExceptionGroup.__weakref__"),.none]:List Value).toArray,([]:List (Option Value)).toArray⟩,
⟨(.type "super"),none,.fields ([(.ref 24),(.ref 24),(.ref 24)]:List Value).toArray,([]:List (Option Value)).toArray⟩,
⟨(.type "builtin_function_or_method"),none,.fields ([(.builtin "object.__init_subclass__"),(.ref 24)]:List Value).toArray,([]:List (Option Value)).toArray⟩,
kS [(.ref 24)] 0,
⟨(.type "builtin_function_or_method"),none,.fields ([(.builtin "type.__prepare__"),(.type "type")]:List Value).toArray,([]:List (Option Value)).toArray⟩,
kD [kE Q "__module__" 214 (.str "oncedone.errors" 187),kE Q "__qualname__" 216 (.str "Wrong" 215),kE Q "__firstlineno__" 218 (.int (4) 217),kE Q "__init__" 226 (.ref 41),kE Q "__static_attributes__" 228 (.ref 42)] 5,
kS [] 0,
⟨.none,none,.fields ([(.int (6) 0),(.int (4) 0),(.ref 40)]:List Value).toArray,([]:List (Option Value)).toArray⟩,
⟨(.type "code"),none,.fields ([(.str "Wrong" 209),(.str "Wrong" 210),(.str "/claim/cut.py" 211),(.int (4) 0),(.int (0) 0),(.int (0) 0),(.int (0) 0),(.int (0) 0),(.ref 31),(.bool false),(.int (181) 0),(.ref 32),.none,.none,.none,.none,(.int (212) 0),(.int (4) 0),(.str "/claim/cut.py" 213)]:List Value).toArray,([]:List (Option Value)).toArray⟩,
⟨(.type "frame"),none,.plain,([some (.ref 33),some (.ref 3),some (.ref 30),none,some (.str "oncedone.errors" 187),none,some (.ref 0)]:List (Option Value)).toArray⟩,
kS [] 0,
⟨.none,none,.fields ([]:List Value).toArray,([]:List (Option Value)).toArray⟩,
kS [(.str "self" 222),(.str "at" 223)] 0,
kS [] 0,
kZ "__init__" "Wrong.__init__" (U8 (top 2) 0),
kk 40 Q,
kk 41 Q,
kS [(.str "at" 227)] 0,
kk 43 Q,
kk 44 Q,
⟨(.type "super"),none,.fields ([(.ref 44),(.ref 44),(.ref 44)]:List Value).toArray,([]:List (Option Value)).toArray⟩,
⟨(.type "builtin_function_or_method"),none,.fields ([(.builtin "object.__init_subclass__"),(.ref 44)]:List Value).toArray,([]:List (Option Value)).toArray⟩,
kS [(.ref 24)] 0,
⟨(.type "builtin_function_or_method"),none,.fields ([(.builtin "type.__prepare__"),(.type "type")]:List Value).toArray,([]:List (Option Value)).toArray⟩,
kD [kE Q "__module__" 239 (.str "oncedone.errors" 187),kE Q "__qualname__" 241 (.str "NoThing" 240),kE Q "__firstlineno__" 243 (.int (8) 242),kE Q "__init__" 251 (.ref 60),kE Q "__static_attributes__" 253 (.ref 61)] 5,
kS [] 0,
⟨.none,none,.fields ([(.int (10) 0),(.int (4) 0),(.ref 59)]:List Value).toArray,([]:List (Option Value)).toArray⟩,
⟨(.type "code"),none,.fields ([(.str "NoThing" 234),(.str "NoThing" 235),(.str "/claim/cut.py" 236),(.int (8) 0),(.int (0) 0),(.int (0) 0),(.int (0) 0),(.int (0) 0),(.ref 50),(.bool false),(.int (181) 0),(.ref 51),.none,.none,.none,.none,(.int (237) 0),(.int (8) 0),(.str "/claim/cut.py" 238)]:List Value).toArray,([]:List (Option Value)).toArray⟩,
⟨(.type "frame"),none,.plain,([some (.ref 52),some (.ref 3),some (.ref 49),none,some (.str "oncedone.errors" 187),none,some (.ref 0)]:List (Option Value)).toArray⟩,
kS [] 0,
⟨.none,none,.fields ([]:List Value).toArray,([]:List (Option Value)).toArray⟩,
kS [(.str "self" 247),(.str "at" 248)] 0,
kS [] 0,
kZ "__init__" "NoThing.__init__" (U8 (top 3) 0),
kk 59 Q,
kk 60 Q,
kS [(.str "at" 252)] 0,
kk 62 Q,
kk 63 Q,
⟨(.type "super"),none,.fields ([(.ref 63),(.ref 63),(.ref 63)]:List Value).toArray,([]:List (Option Value)).toArray⟩,
⟨(.type "builtin_function_or_method"),none,.fields ([(.builtin "object.__init_subclass__"),(.ref 63)]:List Value).toArray,([]:List (Option Value)).toArray⟩,
kS [(.ref 24)] 0,
⟨(.type "builtin_function_or_method"),none,.fields ([(.builtin "type.__prepare__"),(.type "type")]:List Value).toArray,([]:List (Option Value)).toArray⟩,
kD [kE Q "__module__" 264 (.str "oncedone.errors" 187),kE Q "__qualname__" 266 (.str "TooMany" 265),kE Q "__firstlineno__" 268 (.int (12) 267),kE Q "__init__" 276 (.ref 79),kE Q "__static_attributes__" 278 (.ref 80)] 5,
kS [] 0,
⟨.none,none,.fields ([(.int (14) 0),(.int (4) 0),(.ref 78)]:List Value).toArray,([]:List (Option Value)).toArray⟩,
⟨(.type "code"),none,.fields ([(.str "TooMany" 259),(.str "TooMany" 260),(.str "/claim/cut.py" 261),(.int (12) 0),(.int (0) 0),(.int (0) 0),(.int (0) 0),(.int (0) 0),(.ref 69),(.bool false),(.int (181) 0),(.ref 70),.none,.none,.none,.none,(.int (262) 0),(.int (12) 0),(.str "/claim/cut.py" 263)]:List Value).toArray,([]:List (Option Value)).toArray⟩,
⟨(.type "frame"),none,.plain,([some (.ref 71),some (.ref 3),some (.ref 68),none,some (.str "oncedone.errors" 187),none,some (.ref 0)]:List (Option Value)).toArray⟩,
kS [] 0,
⟨.none,none,.fields ([]:List Value).toArray,([]:List (Option Value)).toArray⟩,
kS [(.str "self" 272),(.str "most" 273)] 0,
kS [] 0,
kZ "__init__" "TooMany.__init__" (U8 (top 4) 0),
kk 78 Q,
kk 79 Q,
kS [(.str "most" 277)] 0,
kk 81 Q,
kk 82 Q,
⟨(.type "super"),none,.fields ([(.ref 82),(.ref 82),(.ref 82)]:List Value).toArray,([]:List (Option Value)).toArray⟩,
⟨(.type "builtin_function_or_method"),none,.fields ([(.builtin "object.__init_subclass__"),(.ref 82)]:List Value).toArray,([]:List (Option Value)).toArray⟩,
kS [(.ref 24)] 0,
⟨(.type "builtin_function_or_method"),none,.fields ([(.builtin "type.__prepare__"),(.type "type")]:List Value).toArray,([]:List (Option Value)).toArray⟩,
kD [kE Q "__module__" 289 (.str "oncedone.errors" 187),kE Q "__qualname__" 291 (.str "NoWay" 290),kE Q "__firstlineno__" 293 (.int (16) 292),kE Q "__init__" 301 (.ref 98),kE Q "__static_attributes__" 303 (.ref 99)] 5,
kS [] 0,
⟨.none,none,.fields ([(.int (18) 0),(.int (4) 0),(.ref 97)]:List Value).toArray,([]:List (Option Value)).toArray⟩,
⟨(.type "code"),none,.fields ([(.str "NoWay" 284),(.str "NoWay" 285),(.str "/claim/cut.py" 286),(.int (16) 0),(.int (0) 0),(.int (0) 0),(.int (0) 0),(.int (0) 0),(.ref 88),(.bool false),(.int (181) 0),(.ref 89),.none,.none,.none,.none,(.int (287) 0),(.int (16) 0),(.str "/claim/cut.py" 288)]:List Value).toArray,([]:List (Option Value)).toArray⟩,
⟨(.type "frame"),none,.plain,([some (.ref 90),some (.ref 3),some (.ref 87),none,some (.str "oncedone.errors" 187),none,some (.ref 0)]:List (Option Value)).toArray⟩,
kS [] 0,
⟨.none,none,.fields ([]:List Value).toArray,([]:List (Option Value)).toArray⟩,
kS [(.str "self" 297),(.str "at" 298)] 0,
kS [] 0,
kZ "__init__" "NoWay.__init__" (U8 (top 5) 0),
kk 97 Q,
kk 98 Q,
kS [(.str "at" 302)] 0,
kk 100 Q,
kk 101 Q,
⟨(.type "super"),none,.fields ([(.ref 101),(.ref 101),(.ref 101)]:List Value).toArray,([]:List (Option Value)).toArray⟩,
⟨(.type "builtin_function_or_method"),none,.fields ([(.builtin "object.__init_subclass__"),(.ref 101)]:List Value).toArray,([]:List (Option Value)).toArray⟩,
kk 104 Q,
kS [] 0,
⟨.none,none,.fields ([]:List Value).toArray,([]:List (Option Value)).toArray⟩,
kS [(.str "thing" 326)] 0,
kS [] 0,
kZ "is_whole" "is_whole" (top 12),
kk 110 Q,
kk 111 Q,
kS [] 0,
⟨.none,none,.fields ([]:List Value).toArray,([]:List (Option Value)).toArray⟩,
kS [(.str "thing" 333)] 0,
kS [] 0,
kZ "is_value" "is_value" (top 13),
kk 117 Q,
kk 118 Q,
kS [] 0,
⟨.none,none,.fields ([]:List Value).toArray,([]:List (Option Value)).toArray⟩,
kZ "is_name" "is_name" (top 14),
kk 122 Q,
kk 123 Q,
kS [] 0,
⟨.none,none,.fields ([]:List Value).toArray,([]:List (Option Value)).toArray⟩,
kS [(.str "thing" 346)] 0,
kS [] 0,
kZ "is_operand" "is_operand" (top 15),
kk 129 Q,
kk 130 Q,
kS [] 0,
⟨.none,none,.fields ([]:List Value).toArray,([]:List (Option Value)).toArray⟩,
kS [(.str "thing" 353)] 0,
kS [] 0,
kZ "is_deed" "is_deed" (top 16),
kk 136 Q,
kk 137 Q]
abbrev bd:List Stmt:=behindTheImports P
abbrev en:Env:={ scope:=P.main.scope,locals:=mainNs,globals:=mainNs,cells:=[],code:=(.ref 13),frame:=some 14 }
abbrev cE:Code:=.body bd en
abbrev fB:List Frame:=[topFrame ⟨0,0,0,0⟩]
abbrev s0(w:World)(os:OsState):i8:=⟨boot_heap w.params,Array.mk [],boot_drawn,boot_toks,os⟩
def sa(w:World)(os:OsState):i8:=((topGo treeTable P w 11 (some (.ref 6)) 12 (s0 w os) (topStub P)).map (·.1)).getD (s0 w os)
abbrev s1(w:World)(os:OsState):i8:=⟨⟨Array.mk (h1 w.params),(boot_heap w.params).life⟩,Array.mk [],boot_drawn,357,os⟩
abbrev rn(w:World)(os:OsState):Option i8:=PySem.W.Fast.tw14082659384304107361 PySem.W.Fast.tw14364793385576792824 P w 11 (some (.ref 6)) 5431 (s1 w os) (restOf (bd.drop 17) en cE ⟨36,0,39,83⟩ fB)
end
theorem d1r(w:World)(os:OsState):topGo treeTable P w 11 (some (.ref 6)) 12 (s0 w os) (topStub P)=some (sa w os,⟨denote treeTable cE,cE,⟨0,0,0,0⟩,fB⟩):=by kernel_rfl
theorem d1q(w:World)(os:OsState):segRun treeTable P w 11 (some (.ref 6)) 1 1 (sa w os) (blockOf bd en cE ⟨0,0,0,0⟩ fB)=some (.next,sa w os,cE,⟨0,0,0,0⟩):=by kernel_rfl
theorem d1p(w:World)(os:OsState):segRun treeTable P w 11 (some (.ref 6)) 1 1378 (sa w os) (piecesOf (bd.take 17) en cE ⟨0,0,0,0⟩ fB)=some (.next,s1 w os,cE,⟨36,0,39,83⟩):=by kernel_rfl
theorem d1o(w:World)(os:OsState)(x:i8)(h:rn w os=some x):topRun treeTable P w 11 (some (.ref 6)) 6822 (s0 w os) (topStub P)=some x:=by
 have h:topRun treeTable P w 11 (some (.ref 6)) 5431 (s1 w os) (restOf (bd.drop 17) en cE ⟨36,0,39,83⟩ fB)=some x:=by rw[PySem.W.Fast.te14082659384304107361,PySem.W.Fast.te14364793385576792824];exact h
 have h:=piece_app (d1p w os) h
 rw[a6V]at h
 exact go_top (d1r w os) (piece_block (d1q w os) h)
theorem c8N(w:World)(os:OsState):(rn w os).map (fun s₁=>staticsOk (a3c P.main.body) (boot_heap w.params) s₁.heap&&namesBound P s₁.heap&&gensDone s₁&&laidKept (boot_heap w.params) s₁.heap)=some true:=by kernel_rfl
theorem c8M(w:World)(os:OsState):(rn w os).map (PySem.W.Fast.tw4187177175401517315 q loose (a3c P.main.body) (fun s=>xlAt q [] s&&recOk (RowW.records row.row.toRowW) s) true)=some (openGood q loose):=by kernel_rfl
theorem c5V(w:World)(os:OsState):(rn w os).map (fun s=>c9c.map s.heap.get?)=some ((K1 w.params).map fun p=>some p.2):=by kernel_rfl
theorem c5U(w:World)(os:OsState):(rn w os).map (fun s=>c6u.map s.heap.get?)=some ((K2 w.params).map fun p=>some p.2):=by kernel_rfl
theorem c5T(w:World)(os:OsState):(rn w os).map (fun s=>c6t.map s.heap.get?)=some ((K3 w.params).map fun p=>some p.2):=by kernel_rfl
theorem c5S(w:World)(os:OsState):(rn w os).map (fun s=>c6s.map s.heap.get?)=some ((K4 w.params).map fun p=>some p.2):=by kernel_rfl
theorem c8L(w:World)(os:OsState):(rn w os).map (Hook.obs b2n)=some (Hook.val b2n w):=by
 obtain⟨s,h1,h2⟩:=l9.mp (c5V w os)
 have h3:=c5U w os
 have h4:=c5T w os
 have h5:=c5S w os
 rw[h1]at h3 h4 h5 ⊢
 have h3:c6u.map s.heap.get? = _:=Option.some.inj h3
 have h4:c6t.map s.heap.get? = _:=Option.some.inj h4
 have h5:c6s.map s.heap.get? = _:=Option.some.inj h5
 show some ((c9c++(c6u++(c6t++c6s))).map s.heap.get?)=some ((K1 w.params++(K2 w.params++(K3 w.params++K4 w.params))).map fun p=>some p.2)
 rw[z9,z9,z9,z9,z9,z9,h2,h3,h4,h5]
theorem left:LeftO P q loose (fun s=>xlAt q [] s&&recOk (RowW.records row.row.toRowW) s) (Hook.obs b2n) (Hook.val b2n) 6822:=
 c3x (m₀:=11) (ann:=(some (.ref 6))) (r:=rn) (by kernel_rfl) (by kernel_rfl) (fun s=>by kernel_rfl) (fun w=>by kernel_rfl) d1o c8N (by rw[PySem.W.Fast.te4187177175401517315];exact c8M) c8L
theorem c9F:row.wellSaid=true:=by
 rw[PySem.W.Fast.te9446332074065402090]
 kernel_rfl
theorem fin(hc:∀d:DefRec,d.name = "law" -> d.params.defaults=[]->WalkO q loose (XL q []) (Hook.says b2n) row.row.toRowW d [] (fun f vs=>b4G f vs)):row.Holds:=by
 refine holds_law (l:=row) c9F fun said=>?_
 refine holds_open (q:=q) (loose:=loose) (Xt:=fun s=>xlAt q [] s&&recOk (RowW.records row.row.toRowW) s) (XP:=XL q []) (Yf:=Hook.obs b2n) (Ya:=Hook.val b2n) (YP:=Hook.says b2n) (N:=6822) left (Hook.of b2n) (Hook.keeps b2n) (fun s e=>xl_of s (c1m.mp e).1) XL.keeps (by rfl) (by rfl) (by rfl) (fun s e=>recFacts_of (c1m.mp e).2) (by rfl) said (by decide +kernel) ⟨rfl,rfl,rfl,rfl,rfl,by decide +kernel⟩ ?hw (hc _ rfl rfl)
 case hw=>w_witness2
end HD
set_option Elab.async false
set_option linter.all false
set_option maxRecDepth 100000
namespace L2
open PySem PySem.Spec PyProof.Rows
variable{us:List Value}{i t':Nat}{u:Value}{C a b dx f:Addr}{w:World}{h h':Heap}{pins:List (Addr×Obj)}{s:i8}{c e tg:Expr}{p pos pos':Pos}{Q:Value->i8->Prop}{es:List Expr}{ps:List Str}{m:Str->Option Value}
abbrev Key:=Sum Int Str
def b1v:Key->Value->Bool
 | .inl k,v=>Value.isInt k v
 | .inr x,v=>Value.isStrOf x v
def d1m(w:World):Key->Int
 | .inl k=>hashInt k
 | .inr x=>hashStr w x
theorem Y1:∀ {k:Key} {v:Value},b1v k v=true->(∃i t,k=Sum.inl i/\v=Value.int i t)\/(∃x t,k=Sum.inr x/\v=Value.str x t)
 | .inl i,v,h=>by
  obtain⟨t,e⟩:=Value.isInt_shape (k:=i) (v:=v) h
  exact .inl ⟨i,t,rfl,e⟩
 | .inr x,v,h=>by
  obtain⟨t,e⟩:=Value.isStrOf_shape (x:=x) (v:=v) h
  exact .inr ⟨x,t,rfl,e⟩
theorem c0z(i:Int)(t:Tok):b1v (.inl i) (.int i t)=true:=by simp[b1v,Value.isInt]
theorem c0y(x:Str)(t:Tok):b1v (.inr x) (.str x t)=true:=by simp[b1v,Value.isStrOf]
theorem c8R(a b:Int):decide ((Sum.inl a:Key)=Sum.inl b)=(a == b):=by
 by_cases e:a=b
 ·subst e;simp
 ·have h:¬(Sum.inl a:Key)=Sum.inl b:=fun q=>e (Sum.inl.inj q)
  rw[d2F h]
  exact(beq_eq_false_iff_ne.mpr e).symm
theorem c8O(a b:Str):decide ((Sum.inr a:Key)=Sum.inr b)=decide (a=b):=by
 by_cases e:a=b
 ·subst e;simp
 ·have h:¬(Sum.inr a:Key)=Sum.inr b:=fun q=>e (Sum.inr.inj q)
  rw[d2F h,d2F e]
theorem c8Q(a:Int)(b:Str):decide ((Sum.inl a:Key)=Sum.inr b)=false:=d2F (fun q=>nomatch q)
theorem c8P(a:Str)(b:Int):decide ((Sum.inr a:Key)=Sum.inl b)=false:=d2F (fun q=>nomatch q)
def X7(prog:C9)(w:World):PySem.KeyKind prog w Key where
 is:=b1v
 hash:=d1m w
 inj:=fun v a b ha hb=>by
  rcases Y1 ha with ⟨i,t,rfl,rfl⟩ | ⟨x,t,rfl,rfl⟩
  ·rcases Y1 hb with ⟨j,u,rfl,e⟩ | ⟨y,u,rfl,e⟩
   ·injection e with e1 _;rw[e1]
   ·exact nomatch e
  ·rcases Y1 hb with ⟨j,u,rfl,e⟩ | ⟨y,u,rfl,e⟩
   ·exact nomatch e
   ·injection e with e1 _;rw[e1]
 byValue:=fun k v h=>by
  rcases Y1 h with ⟨i,t,rfl,rfl⟩ | ⟨x,t,rfl,rfl⟩ <;> rfl
 pyHash:=fun hv h=>by
  rcases Y1 hv with ⟨i,t,rfl,rfl⟩ | ⟨x,t,rfl,rfl⟩
  ·exact wpAny_pyHash_int h
  ·exact wpAny_pyHash_str h
 eqBool:=fun hu hv h=>by
  rcases Y1 hu with ⟨i,t,rfl,rfl⟩ | ⟨x,t,rfl,rfl⟩
  ·rcases Y1 hv with ⟨j,u,rfl,rfl⟩ | ⟨y,u,rfl,rfl⟩
   ·rw[c8R]at h;exact wpAny_eqBool_int h
   ·rw[c8Q]at h;exact SeqAt.EqAt.int_str i t y u _ _ _ _ h
  ·rcases Y1 hv with ⟨j,u,rfl,rfl⟩ | ⟨y,u,rfl,rfl⟩
   ·rw[c8P]at h;exact SeqAt.EqAt.str_int x t j u _ _ _ _ h
   ·rw[c8O]at h;exact wpAny_eqBool_str h
 «strs» := fun k x t v h=>by
  rcases Y1 h with ⟨i,u,rfl,e⟩ | ⟨y,u,rfl,e⟩
  ·exact nomatch e
  ·injection e with e1 _
   subst e1
   cases v <;> rfl
theorem b5R(prog:C9)(w:World)(i:Int)(t:Tok):(X7 prog w).is (.inl i) (.int i t)=true:=c0z i t
theorem b5Q(prog:C9)(w:World)(x:Str)(t:Tok):(X7 prog w).is (.inr x) (.str x t)=true:=c0y x t
inductive V where
 | non | bl (b:Bool) | int (i:Int) | str (x:Str) | byt (b:Array UInt8) | flt (b:UInt64) | ref (a:Addr) | ty (n:String)
 deriving DecidableEq
variable{v y:V}{xs:List V}{kvs:List (Key×V)}
def K5:V->Value->Prop
 | .non,u=>u=Value.none
 | .bl b,u=>u=Value.bool b
 | .int i,u=>∃t,u=Value.int i t
 | .str x,u=>∃t,u=Value.str x t
 | .byt b,u=>∃t,u=Value.bytes b t
 | .flt b,u=>∃t,u=Value.float b t
 | .ref a,u=>u=Value.ref a
 | .ty n,u=>u=Value.type n
abbrev L5:List V->List Value->Prop:=Paired K5
theorem L5.length(r:L5 xs us):xs.length=us.length:=Paired.length r
theorem L5.get:∀ {xs:List V} {us:List Value} {i:Nat} {x:V},L5 xs us->xs[i]? = some x->∃u,us[i]? = some u/\K5 x u
 | _,_,_,_,.nil,e=>by simp at e
 | _,_,0,_,.cons r _,e=>by simp at e;subst e;exact⟨_,rfl,r⟩
 | _,_,i+1,x,.cons _ t,e=>by
  obtain⟨u,h1,h2⟩:=L5.get (i:=i) (x:=x) t (by simpa using e)
  exact⟨u,by simpa using h1,h2⟩
theorem L5.set{x:V}(r:K5 x u):∀ {xs:List V} {us:List Value} (i:Nat),L5 xs us->L5 (xs.set i x) (us.set i u)
 | _,_,_,.nil=>.nil
 | _,_,0,.cons _ t=>.cons r t
 | _,_,i+1,.cons q t=>.cons q (L5.set r i t)
theorem L5.append:∀ {xs ys:List V} {us ws:List Value},L5 xs us->L5 ys ws->L5 (xs++ys) (us++ws)
 | _,_,_,_,.nil,s=>s
 | _,_,_,_,.cons r t,s=>.cons r (L5.append t s)
theorem L5.take:∀ {xs:List V} {us:List Value} (n:Nat),L5 xs us->L5 (xs.take n) (us.take n)
 | _,_,0,_=>.nil
 | _,_,_+1,.nil=>.nil
 | _,_,n+1,.cons r t=>.cons r (L5.take n t)
theorem L5.drop:∀ {xs:List V} {us:List Value} (n:Nat),L5 xs us->L5 (xs.drop n) (us.drop n)
 | _,_,0,r=>r
 | _,_,_+1,.nil=>.nil
 | _,_,n+1,.cons _ t=>L5.drop n t
def a6C:Option V->Option Value->Prop
 | some v,some u=>K5 v u
 | none,none=>True
 | _,_=>False
def KV{κ:Type}:List (κ×V)->List (κ×Value)->Prop:=Paired fun(p:κ×V) (q:κ×Value)=>p.1=q.1/\K5 p.2 q.2
def kV:Key->V
 | .inl i=>.int i
 | .inr x=>.str x
inductive HO where
 /-- a list -/
 | lst (xs:List V)
 /-- a tuple (never changes) -/
 | tup (xs:List V)
 /-- a dict whose keys are ints and texts;one whose keys are tuples of ints and texts (the empty one is both) -/
 | dK (kvs:List (Key×V)) | dT (kvs:List (List Key×V))
 /-- a set of ints: its members,its size -/
 | set (S:Int->Bool) (n:Nat)
 /-- an instance of the class at C,its dict at dx,its attributes -/
 | ins (C dx:Addr) (fs:List (Str×V))
 /-- the dict of the instance at x -/
 | own (x:Addr)
 /-- the dict of an exception -/
 | xd (fs:List (Str×V))
 /-- a bound method,f of x -/
 | met (f x:Addr)
 /-- a range object lo,lo+1,.. below hi -/
 | rng (lo hi:Int)
 /-- a thing that is known to the object (the script;a dict while a loop walks it): read,never written while it is so -/
 | frz (o:Obj) (u:HO)
 /-- a code object's table -/
 | tbl (ps:Array Value)
 /-- any other thing,by what is true of its one object (a def of one's own: SetO a S n:=HO.ext fun h=>..) -/
 | ext (φ:Heap->Prop)
variable{o:HO}
abbrev Hp:=Addr->Option HO
variable{H H':Hp}
def upd(H:Hp)(a:Addr)(o:HO):Hp:=fun b=>if b=a then some o else H b
theorem d8:upd H a o a=some o:=by unfold upd;rw[if_pos rfl]
theorem j7(h:b≠a):upd H a o b=H b:=by unfold upd;rw[if_neg h]
theorem a9V{u:HO}:upd (upd H a o) a u=upd H a u:=by
 funext b;unfold upd;split <;> rfl
theorem S8{u:HO}(h:H a=some o)(h':H b=some u)(d:o≠u):a≠b:=by
 intro e;subst e;rw[h]at h';exact d (Option.some.inj h')
theorem d6(h:H a=some o)(h':H b=none):a≠b:=by
 intro e;subst e;rw[h]at h';cases h'
section
variable (P:C9)(w:World)
def a0e(H:Hp)(h:Heap)(a:Addr):HO->Prop
 | .lst xs=>xs.length<=u8/\∃(its:List Value) (n:Nat),L5 xs its/\h.get? a=some { cls:=.type "list",data:=.seq its.toArray n }
 | .tup xs=>xs.length<=u8/\∃its:List Value,L5 xs its/\IsTup h a its.toArray
 | .dK kvs=>kvs.length<=u8/\(a == a0J)=false/\∃vs,KV kvs vs/\h.DictOf (X7 P w) a vs
 | .dT kvs=>kvs.length<=u8/\(a == a0J)=false/\∃xs:List (List Key×Addr×Value),
   Paired (fun(p:List Key×V) (q:List Key×Addr×Value)=>p.1=q.1/\H q.2.1=some (.tup (p.1.map kV))/\K5 p.2 q.2.2) kvs xs /\
   ∃o es ep,h.get? a=some o/\o.ExactDict/\o.data=.dict es ep/\es.toList=xs.map (entryOfKey (c1p (X7 P w)))/\(xs.map (·.1)).Nodup
 | .set S n=>h.SetOf (intKind P w) a S n
 | .ins C dx fs=>H dx=some (.own a)/\fs.length<=1000/\dx≠a/\h.get? a=some (a0h C dx) /\
   ∃mA,h.Ns1 dx mA/\(∀f,a6C (fs.lookup f) (mA f))/\PySem.Within mA (fs.map (·.1))
 | .own _=>∃o,h.get? a=some o
 | .xd fs=>∃mA,h.Ns1 a mA/\∀f,a6C (fs.lookup f) (mA f)
 | .rng lo hi=>∃t u v,h.get? a=some { cls:=.type "range",data:=.fields #[.int lo t,.int hi u,.int 1 v] }
 | .frz o u=>h.get? a=some o/\a0e H h a u
 | .tbl ps=>h.get? a=some { cls:=.none,data:=.fields ps }
 | .met f x=>h.get? a=some (a9v (.ref f) (.ref x))
 | .ext φ=>φ h/\(∃o,h.get? a=some o)/\∀h1 h2:Heap,φ h1->(∀o,h1.get? a=some o->h2.get? a=some o)->φ h2
def HOk(H:Hp)(h:Heap):Prop:=∀a o,H a=some o->a0e P w H h a o
end
section
variable {P:C9}
theorem a0e.lt(x:a0e P w H h a o):a<h.objs.size:=by
 cases o with
 | lst xs=>obtain⟨_,_,_,_,e⟩:=x;exact j5 e
 | tup xs=>obtain⟨_,_,_,p⟩:=x;exact p.lt
 | dK kvs=>obtain⟨_,_,_,_,o,_,_,e,_⟩:=x;exact j5 e
 | dT kvs=>obtain⟨_,_,_,_,o,_,_,e,_⟩:=x;exact j5 e
 | set S n=>obtain⟨o,_,_,_,e,_⟩:=x;exact j5 e
 | ins C dx fs=>obtain⟨_,_,_,e,_⟩:=x;exact j5 e
 | own y=>obtain⟨_,e⟩:=x;exact j5 e
 | xd fs=>obtain⟨_,⟨_,_,_,e,_⟩,_⟩:=x;exact j5 e
 | rng lo hi=>obtain⟨_,_,_,e⟩:=x;exact j5 e
 | frz ob u=>obtain⟨e,_⟩:=x;exact j5 e
 | tbl ps=>exact j5 (show h.get? a=some _ from x)
 | met f y=>exact j5 (show h.get? a=some _ from x)
 | ext φ=>obtain⟨_,⟨_,e⟩,_⟩:=x;exact j5 e
theorem Paired.mapP{α β:Type}{F G:α->β->Prop}:∀ {l₁:List α} {l₂:List β},Paired F l₁ l₂->(∀a b,F a b->G a b)->Paired G l₁ l₂
 | _,_,.nil,_=>.nil
 | _,_,.cons r t,f=>.cons (f _ _ r) (Paired.mapP t f)
theorem a0e.stay(x:a0e P w H h a o)(k:∀b u,(b=a\/H b=some (.own a))->h.get? b=some u->h'.get? b=some u)
  (ho:∀b,H b=some (.own a)->H' b=some (.own a)) (ht:∀b xs,H b=some (.tup xs)->H' b=some (.tup xs)):a0e P w H' h' a o:=by
 induction o with
 | lst xs=>obtain⟨z,its,n,r,e⟩:=x;exact⟨z,its,n,r,k _ _ (.inl rfl) e⟩
 | tup xs=>obtain⟨z,its,r,ob,e,c⟩:=x;exact⟨z,its,r,ob,k _ _ (.inl rfl) e,c⟩
 | dK kvs=>obtain⟨z,y,vs,r,ob,es,ep,e,c⟩:=x;exact⟨z,y,vs,r,ob,es,ep,k _ _ (.inl rfl) e,c⟩
 | dT kvs=>
  obtain⟨z,y,xs,r,ob,es,ep,e,c⟩:=x
  exact⟨z,y,xs,Paired.mapP r fun p q z=>⟨z.1,ht _ _ z.2.1,z.2.2⟩,ob,es,ep,k _ _ (.inl rfl) e,c⟩
 | set S n=>obtain⟨ob,es,ep,t,e,c⟩:=x;exact⟨ob,es,ep,t,k _ _ (.inl rfl) e,c⟩
 | ins C dx fs=>
  obtain⟨d,z,ne,e,mA,⟨od,es,ep,e2,c⟩,r⟩:=x
  exact⟨ho _ d,z,ne,k _ _ (.inl rfl) e,mA,⟨od,es,ep,k _ _ (.inr d) e2,c⟩,r⟩
 | own y=>obtain⟨ob,e⟩:=x;exact⟨ob,k _ _ (.inl rfl) e⟩
 | xd fs=>obtain⟨mA,⟨od,es,ep,e,c⟩,r⟩:=x;exact⟨mA,⟨od,es,ep,k _ _ (.inl rfl) e,c⟩,r⟩
 | rng lo hi=>obtain⟨t,u,v,e⟩:=x;exact⟨t,u,v,k _ _ (.inl rfl) e⟩
 | frz ob u ih=>obtain⟨e,q⟩:=x;exact⟨k _ _ (.inl rfl) e,ih q⟩
 | tbl ps=>
  have e:h.get? a=some { cls:=.none,data:=.fields ps }:=x
  show h'.get? a=some { cls:=.none,data:=.fields ps }
  exact k a _ (.inl rfl) e
 | met f y=>
  have e:h.get? a=some (a9v (.ref f) (.ref y)):=x
  show h'.get? a=some (a9v (.ref f) (.ref y))
  exact k a _ (.inl rfl) e
 | ext φ=>obtain⟨p,⟨o,e⟩,st⟩:=x;exact⟨st _ _ p fun o q=>k _ _ (.inl rfl) q,⟨o,k _ _ (.inl rfl) e⟩,st⟩
theorem HOk.lt(x:HOk P w H h)(e:H a=some o):a<h.objs.size:=(x a o e).lt
theorem HOk.fresh(x:HOk P w H h)(e:h.objs.size<=a):H a=none:=by
 cases q:H a with
 | none=>rfl
 | some u=>exact absurd (D7 (x.lt q) e) (N9 _)
theorem HOk.kept(x:HOk P w H h)(k:∀b u,h.get? b=some u->h'.get? b=some u):HOk P w H h':=fun a o e=>
 (x a o e).stay (fun b u _ q=>k b u q) (fun _ q=>q) fun _ _ q=>q
theorem HOk.laid(x:HOk P w H h)(k:∀b u,h.get? b=some u->h'.get? b=some u)(hp:h.objs.size<=a)(new:a0e P w (upd H a o) h' a o):HOk P w (upd H a o) h':=fun b u e=>by
 have hn:=x.fresh hp
 by_cases hb:b=a
 ·subst hb;rw[d8]at e;cases e;exact new
 ·rw[j7 hb]at e
  exact(x b u e).stay (fun c v _ q=>k c v q) (fun c q=>by rw[j7 (d6 q hn)];exact q) fun c xs q=>by rw[j7 (d6 q hn)];exact q
end
def Rd(H:Hp)(a:Addr)(u:HO):Prop:=H a=some u\/∃o,H a=some (.frz o u)
theorem Rd.ok{P:C9}{u:HO}(r:Rd H a u)(x:HOk P w H h):a0e P w H h a u:=by
 rcases r with r | ⟨o,r⟩
 ·exact x a u r
 ·obtain⟨_,q⟩:=x a _ r
  exact q
def Mut:Option HO->Prop
 | some (.lst _)=>True
 | some (.dK _)=>True
 | some (.dT _)=>True
 | some (.set _ _)=>True
 | some (.ins _ _ _)=>True
 | some (.ext _)=>True
 | _=>False
section
variable {P:C9}{x e:Addr}{o':HO}
theorem HOk.write(ok:HOk P w H h)(mu:Mut (H x))(he:e=x\/H e=some (.own x))(k:∀b u,b≠e->h.get? b=some u->h'.get? b=some u)(heo:∃u,h'.get? e=some u)
  (new:a0e P w (upd H x o') h' x o'):HOk P w (upd H x o') h':=fun b u q=>by
 have nown:∀c y,H c=some (.own y)->c≠x:=fun c y r z=>by subst z;rw[r]at mu;exact mu
 have ntup:∀c xs,H c=some (.tup xs)->c≠x:=fun c xs r z=>by subst z;rw[r]at mu;exact mu
 by_cases hb:b=x
 ·subst hb;rw[d8]at q;cases q;exact new
 ·rw[j7 hb]at q
  by_cases hbe:b=e
  ·have q':H b=some (.own x):=by
    rcases he with z | z
    ·exact absurd (hbe.trans z) hb
    ·rw[hbe];exact z
   rw[q]at q';cases q'
   obtain⟨v,hv⟩:=heo
   exact⟨v,by rw[hbe];exact hv⟩
  ·refine(ok b u q).stay (fun c v hc r=>k c v ?_ r) (fun c r=>by rw[j7 (nown c b r)];exact r) fun c xs r=>by rw[j7 (ntup c xs r)];exact r
   rcases hc with rfl | hc
   ·exact hbe
   ·rintro rfl
    rcases he with z | z
    ·exact nown c b hc z
    ·rw[hc]at z;cases z;exact hb rfl
end
structure Un(fs ex:List Addr)(H H':Hp)(h h':Heap):Prop where
 keep:∀b o,h.get? b=some o->H b=none->b∉fs->b∉ex->h'.get? b=some o
 slot:∀b o,h.get? b=some o->H b=none->b∈fs->b∉ex->∃sl,h'.get? b=some { o with slots:=sl }
 free:∀b o,h.get? b=some o->H b=none->b∉ex->H' b=none
 there:∀b o,h.get? b=some o->b∉ex->∃o',h'.get? b=some o'
 tups:∀b xs,H b=some (.tup xs)->H' b=some (.tup xs)
 frzs:∀b o u,H b=some (.frz o u)->H' b=some (.frz o u)
 tbls:∀b ps,H b=some (.tbl ps)->∃more,H' b=some (.tbl (ps++more))
section
variable {fs fs' ex ex':List Addr}{H1 H2:Hp}{h1 h2:Heap}{x e:Addr}
theorem Un.any(u:Un fs ex H H1 h h1){ob:Obj}(q:h.get? b=some ob)(n:H b=none)(hx:b∉ex):∃sl,h1.get? b=some { ob with slots:=sl }:=by
 by_cases hb:b∈fs
 ·exact u.slot b ob q n hb hx
 ·exact⟨ob.slots,u.keep b ob q n hb hx⟩
theorem Un.kept(k:∀b u,h.get? b=some u->h'.get? b=some u):Un fs ex H H h h':=
 ⟨fun b ob q _ _ _=>k b ob q,fun b ob q _ _ _=>⟨ob.slots,k b ob q⟩,fun _ _ _ n _=>n,fun b ob q _=>⟨ob,k b ob q⟩,fun _ _ q=>q,fun _ _ _ q=>q,fun _ ps q=>⟨#[],by rw[q];simp⟩⟩
theorem Un.refl:Un fs ex H H h h:=Un.kept fun _ _ q=>q
theorem Un.laid(k:∀b u,h.get? b=some u->h'.get? b=some u)(hp:h.objs.size<=a)(hn:H a=none):Un fs ex H (upd H a o) h h' where
 keep:=fun b u q _ _ _=>k b u q
 slot:=fun b u q _ _ _=>⟨u.slots,k b u q⟩
 free:=fun b u q n _=>by rw[j7 (u9 (D7 (j5 q) hp))];exact n
 there:=fun b u q _=>⟨u,k b u q⟩
 tups:=fun b xs q=>by rw[j7 (d6 q hn)];exact q
 frzs:=fun b u xs q=>by rw[j7 (d6 q hn)];exact q
 tbls:=fun b ps q=>⟨#[],by rw[j7 (d6 q hn),q];simp⟩
theorem Un.write(mu:Mut (H x))(he:e=x\/H e=some (.own x))(k:∀b u,b≠e->h.get? b=some u->h'.get? b=some u)(heo:∃u,h'.get? e=some u):Un fs ex H (upd H x o) h h':=by
 have hx:∀b,H b=none->b≠x:=fun b n z=>by subst z;rw[n]at mu;exact mu
 have hb:∀b,H b=none->b≠e:=fun b n z=>by
  subst z
  rcases he with r | r
  ·exact hx b n r
  ·rw[n]at r;cases r
 have hm:∀b u,H b=some u->¬Mut (some u)->b≠x:=fun b u q nm z=>by subst z;rw[q]at mu;exact nm mu
 refine⟨fun b u q n _ _=>k b u (hb b n) q,fun b u q n _ _=>⟨u.slots,k b u (hb b n) q⟩,fun b u q n _=>by rw[j7 (hx b n)];exact n,fun b u q _=>?_,
  fun b xs q=>by rw[j7 (hm b _ q fun z=>z)];exact q,fun b u xs q=>by rw[j7 (hm b _ q fun z=>z)];exact q,fun b ps q=>⟨#[],by rw[j7 (hm b _ q fun z=>z),q];simp⟩⟩
 by_cases hbe:b=e
 ·subst hbe;exact heo
 ·exact⟨u,k b u hbe q⟩
end
def trk(h:Heap)(H:Hp):List Addr:=(J2 h.objs.size).filter fun a=>(H a).isSome
def b4k(h:Heap)(H:Hp):Heap:=PySem.W.hideAll h (trk h H)
theorem c0D(h:Heap)(H:Hp):(b4k h H).objs.size=h.objs.size:=PySem.W.hideAll_size _ _
theorem c3H{o:Obj}(e:h.get? b=some o)(n:H b=none):(b4k h H).get? b=some o:=
 PySem.W.hideAll_get _ e fun hm=>by
  have q:(H b).isSome=true:=(a0q.mp hm).2
  rw[n]at q;simp at q
theorem c5M{o:Obj}(e:(b4k h H).get? b=some o):h.get? b=some o/\H b=none:=by
 have e':h.get? b=some o:=PySem.W.of_hideAll (trk h H) e
 refine⟨e',?_⟩
 cases q:H b with
 | none=>rfl
 | some x=>
  have hm:b∈trk h H:=a0q.mpr ⟨U9.mpr (j5 e'),by simp[q]⟩
  have z:(b4k h H).get? b=none:=PySem.W.hideAll_none (trk h H) hm
  rw[z]at e;cases e
def c6r(g h:Heap)(L:Addr):List (Addr×Obj):=(J2 h.objs.size).filterMap fun a=>if a=L\/(g.get? a).isSome=true then none else (h.get? a).map fun o=>(a,o)
def a5Q(g h:Heap)(L d:Addr):List (Addr×Obj):=(c6r g h L).filter fun p=>decide (p.1≠d)
structure Mod(K:Fg)(mg:Str->Option Value)(base:Heap):Prop where
 kin:K.In base
 glob:base.Ns A7 mg
 blt:∃mb,base.Ns builtinsNs mb/\∀x:Str,x ≠ "__name__" -> mb x=Y5 x
 nolimit:base.NoLimit
structure Cx where
 prog:C9
 w:World
 K:Fg
 mg:Str->Option Value
 base:Heap
 A:O0
 N:List Str
 s₀:i8
 H₀:Hp
 env:Env
 outer:List Env
 stack:List Env
 ex:List Addr
 fn:Str->Bool
 calm:Bool
 pn:List (Addr×Obj)
 xe:Value->i8->Prop
variable{X:Cx}
def frs(l:List Env):List Addr:=l.filterMap (·.frame)
abbrev Cx.fs(X:Cx):List Addr:=frs X.outer
def Vis(sc:Scope)(x:Str):Prop:=sc.names.lookup x=some .local\/sc.names.lookup x=some .cell\/sc.names.lookup x=some .free
def Loc(sc:Scope)(x:Str):Prop:=sc.names.lookup x=some .local\/sc.names.lookup x=some .cell
def d1u(env:Env)(h:Heap)(m:Str->Option Value)(x:Str)(u:Value):Prop:=
 (env.kindOf x=some .local/\m x=some u)\/((env.kindOf x=some .cell\/env.kindOf x=some .free)/\∃c,env.cells.lookup x=some c/\h.IsCell c (some u))
structure Cx.Ok(X:Cx):Prop where
 mod:Mod X.K X.mg X.base
 kind:X.env.scope.kind=.function
 glob:X.env.globals=A7
 blt:X.env.builtins=builtinsNs
 above:X.s₀.heap.objs.size<=X.env.locals
 inj:∀x y c,X.env.cells.lookup x=some c->X.env.cells.lookup y=some c->x=y
 has:∀x,(X.env.kindOf x=some .cell\/X.env.kindOf x=some .free)->∃c,X.env.cells.lookup x=some c
 cab:∀x c,X.fn x=true->X.env.cells.lookup x=some c->X.s₀.heap.objs.size<=c
 hd:X.calm=true->X.A.handled=none
 frames:X.A.frames=some X.stack
 stk:X.stack=X.outer\/(X.stack=X.env::X.outer/\X.env.frame=some X.env.locals)
 exf:∀b∈X.ex,b≠X.env.locals/\∀x c,X.env.cells.lookup x=some c->c≠b
 bs:∀b o,X.base.get? b=some o->X.s₀.heap.get? b=some o/\X.H₀ b=none
 bsz:X.base.objs.size<=X.s₀.heap.objs.size
 noex:∀b o,X.base.get? b=some o->b∉X.ex
 exfs:∀b∈X.ex,b∉X.fs
 funs:X.s₀.heap.FunFrames X.base X.outer
 frf:∀b∈X.fs,X.H₀ b=none
structure Inv(X:Cx)(pins:List (Addr×Obj))(σ:List (Option V))(H:Hp)(s:i8):Prop where
 ok:X.Ok
 os:s.os=X.s₀.os
 bare:b3v s.gens
 base:Un X.fs X.ex X.H₀ H X.s₀.heap s.heap
 loc:∃m,s.heap.Ns X.env.locals m/\∀(i:Nat) (x:Str) (v:V),X.N[i]? = some x->σ[i]? = some (some v)->Vis X.env.scope x->∃u,K5 v u/\d1u X.env s.heap m x u
 cell:∀x c,X.env.cells.lookup x=some c->∃v,s.heap.IsCell c v
 free:H X.env.locals=none
 freeC:∀x c,X.env.cells.lookup x=some c->H c=none
 pin:∀p∈X.pn++pins,s.heap.get? p.1=some p.2/\H p.1=none/\p.1≠X.env.locals/\p.1∉X.fs/\∀v,p.2.data≠.cell v
 hok:HOk X.prog X.w H s.heap
 len:σ.length=X.N.length
section
variable {σ:List (Option V)}
theorem Cx.Ok.nofr(ok:X.Ok){o:Obj}(e:X.base.get? b=some o):b∉X.fs:=fun hb=>by
 have:=(ok.funs.mem hb).1
 rw[e]at this;cases this
theorem Inv.bs(I:Inv X pins σ H s):∀b o,X.base.get? b=some o->s.heap.get? b=some o/\H b=none:=fun b o e=>
 ⟨I.base.keep b o (I.ok.bs b o e).1 (I.ok.bs b o e).2 (I.ok.nofr e) (I.ok.noex b o e),I.base.free b o (I.ok.bs b o e).1 (I.ok.bs b o e).2 (I.ok.noex b o e)⟩
theorem Inv.bk(I:Inv X pins σ H s):∀b o,X.base.get? b=some o->s.heap.get? b=some o:=fun b o e=>(I.bs b o e).1
theorem Inv.mod(I:Inv X pins σ H s):Mod X.K X.mg X.base:=I.ok.mod
theorem Inv.kIn(I:Inv X pins σ H s):X.K.In s.heap:=I.ok.mod.kin.keeps I.bk
theorem Inv.lt(I:Inv X pins σ H s):X.env.locals<s.heap.objs.size:=let⟨_,hn,_⟩:=I.loc;hn.lt
theorem Inv.sz(I:Inv X pins σ H s):X.s₀.heap.objs.size<=s.heap.objs.size:=J5 I.ok.above (a4a I.lt)
theorem Inv.nofs(I:Inv X pins σ H s)(h:s.heap.objs.size<=a):a∉X.fs:=fun hb=>by
 obtain⟨_,o,ho,_⟩:=I.ok.funs.mem hb
 exact absurd (D7 (j5 ho) (J5 I.sz h)) (N9 _)
theorem Inv.cne(I:Inv X pins σ H s):∀x c,X.env.cells.lookup x=some c->c≠X.env.locals:=fun x c e z=>by
 obtain⟨v,o,ho,hd⟩:=I.cell x c e
 obtain⟨m,⟨o',es,ep,ho',hd',_⟩,_⟩:=I.loc
 rw[z,ho']at ho;cases ho;rw[hd']at hd;cases hd
theorem Inv.funs(I:Inv X pins σ H s):s.heap.FunFrames X.base X.outer:=by
 have all:∀(l:List Env),(∀b∈frs l,b∈X.fs)->X.s₀.heap.FunFrames X.base l->s.heap.FunFrames X.base l:=by
  intro l
  induction l with
  | nil=>intro _ _;trivial
  | cons env r ih=>
   intro hs hl
   obtain⟨hk,⟨L,o,hf,hn,ho,hd⟩,hr⟩:=hl
   have hL:L∈X.fs:=hs L (by unfold frs;rw[a8E,hf];exact F4)
   obtain⟨sl,e⟩:=I.base.slot L o ho (I.ok.frf L hL) hL fun z=>I.ok.exfs L z hL
   exact⟨hk,⟨L,_,hf,hn,e,hd⟩,ih (fun b hb=>hs b (by unfold frs;rw[a8E,hf];exact F9 _ hb)) hr⟩
 exact all X.outer (fun _ hb=>hb) I.ok.funs
theorem Inv.stack(I:Inv X pins σ H s):s.heap.FunFrames X.base X.stack:=by
 rcases I.ok.stk with e | ⟨e,hf⟩
 ·rw[e];exact I.funs
 ·rw[e]
  obtain⟨m,hn,_⟩:=I.loc
  refine .cons (by rw[I.ok.kind];decide) hf hn ?_ I.funs
  exact Heap.get?_none_of_le (J5 I.ok.bsz I.ok.above)
theorem Inv.stkSub(I:Inv X pins σ H s):∀b∈frs X.stack,b∈X.env.locals::X.fs:=fun b hb=>by
 rcases I.ok.stk with e | ⟨e,hf⟩
 ·rw[e]at hb;exact F9 _ hb
 ·rw[e]at hb
  unfold frs at hb
  rw[a8E,hf]at hb
  exact hb
theorem Inv.stkFree(I:Inv X pins σ H s):∀b∈frs X.stack,H b=none:=fun b hb=>by
 rcases j4.mp (I.stkSub b hb)with e | hb
 ·rw[e];exact I.free
 ·obtain⟨_,o,ho,_⟩:=I.ok.funs.mem hb
  exact I.base.free b o ho (I.ok.frf b hb) fun z=>I.ok.exfs b z hb
theorem Inv.step{g':Array GenState}{t':Nat}{d':Drawn}{ch:List Addr}(I:Inv X pins σ H s)
  (hch:∀b∈ch,(b∈X.ex\/X.s₀.heap.objs.size<=b)/\b≠X.env.locals/\(∀x c,X.env.cells.lookup x=some c->c≠b)/\∀p∈X.pn++pins,p.1≠b)
  (keep:∀b o,b≠X.env.locals->b∉X.fs->b∉ch->s.heap.get? b=some o->H b=none->h'.get? b=some o)
  (slot:∀b o,b≠X.env.locals->b∈X.fs->b∉ch->s.heap.get? b=some o->H b=none->∃sl,h'.get? b=some { o with slots:=sl }) (free:∀b o,b∉ch->s.heap.get? b=some o->H b=none->H' b=none)
  (there:∀b o,b∉ch->s.heap.get? b=some o->∃o',h'.get? b=some o')
  (tups:∀b xs,H b=some (.tup xs)->H' b=some (.tup xs)) (frzs:∀b o u,H b=some (.frz o u)->H' b=some (.frz o u)) (tbls:∀b ps,H b=some (.tbl ps)->∃more,H' b=some (.tbl (ps++more)))
  (ns:∀m,s.heap.Ns X.env.locals m->h'.Ns X.env.locals m) (hok:HOk X.prog X.w H' h') (hg:b3v g') :
  Inv X pins σ H' { s with heap:=h',gens:=g',drawn:=d',toks:=t' }:=by
 have neL:∀b o,X.s₀.heap.get? b=some o->b≠X.env.locals:=fun b o e=>u9 (D7 (j5 e) I.ok.above)
 have neC:∀b o,X.s₀.heap.get? b=some o->b∉X.ex->b∉ch:=fun b o e hx hb=>by
  rcases(hch b hb).1 with z | z
  ·exact hx z
  ·exact absurd (D7 (j5 e) z) (N9 _)
 have cellK:∀x c,X.env.cells.lookup x=some c->∀v,s.heap.IsCell c v->h'.IsCell c v:=fun x c e v ⟨o,ho,hd⟩=>by
  have nch:c∉ch:=fun z=>(hch c z).2.2.1 x c e rfl
  by_cases hc:c∈X.fs
  ·obtain⟨sl,q⟩:=slot c o (I.cne x c e) hc nch ho (I.freeC x c e)
   exact⟨_,q,hd⟩
  ·exact⟨o,keep c o (I.cne x c e) hc nch ho (I.freeC x c e),hd⟩
 refine⟨I.ok,I.os,hg,⟨fun b o e n hb hx=>?_,fun b o e n hb hx=>?_,fun b o e n hx=>?_,fun b o e hx=>?_,fun b xs e=>tups b xs (I.base.tups b xs e),fun b o xs e=>frzs b o xs (I.base.frzs b o xs e),fun b ps e=>?_⟩,?_,fun x c e=>?_,?_,fun x c e=>?_,fun p hp=>?_,hok,I.len⟩
 ·exact keep b o (neL b o e) hb (neC b o e hx) (I.base.keep b o e n hb hx) (I.base.free b o e n hx)
 ·obtain⟨sl,e1⟩:=I.base.slot b o e n hb hx
  obtain⟨sl',e2⟩:=slot b _ (neL b o e) hb (neC b o e hx) e1 (I.base.free b o e n hx)
  exact⟨sl',e2⟩
 ·obtain⟨o',e1⟩:=I.base.there b o e hx
  exact free b o' (neC b o e hx) e1 (I.base.free b o e n hx)
 ·obtain⟨o',e1⟩:=I.base.there b o e hx
  exact there b o' (neC b o e hx) e1
 ·obtain⟨m1,e1⟩:=I.base.tbls b ps e
  obtain⟨m2,e2⟩:=tbls b _ e1
  exact⟨m1++m2,by rw[e2,Array.append_assoc]⟩
 ·obtain⟨m,hn,hl⟩:=I.loc
  refine⟨m,ns m hn,fun i x v e1 e2 e3=>?_⟩
  obtain⟨u,r,l⟩:=hl i x v e1 e2 e3
  refine⟨u,r,?_⟩
  rcases l with l | ⟨k,c,e,z⟩
  ·exact .inl l
  ·exact .inr ⟨k,c,e,cellK x c e _ z⟩
 ·obtain⟨v,z⟩:=I.cell x c e
  exact⟨v,cellK x c e v z⟩
 ·obtain⟨m,⟨o,_,_,ho,_⟩,_⟩:=I.loc
  exact free _ o (fun z=>(hch _ z).2.1 rfl) ho I.free
 ·obtain⟨v,o,ho,hd⟩:=I.cell x c e
  exact free c o (fun z=>(hch c z).2.2.1 x c e rfl) ho (I.freeC x c e)
 ·obtain⟨e,n,ne,nf,d⟩:=I.pin p hp
  have nch:p.1∉ch:=fun z=>(hch p.1 z).2.2.2 p hp rfl
  exact⟨keep p.1 p.2 ne nf nch e n,free p.1 p.2 nch e n,ne,nf,d⟩
theorem Inv.un(I:Inv X pins σ H s)(u:Un X.fs [] H H' s.heap h')(hok:HOk X.prog X.w H' h'):Inv X pins σ H' { s with heap:=h',toks:=t' }:=by
 obtain⟨m,⟨o,es,ep,ho,r⟩,_⟩:=id I.loc
 obtain⟨sl,hL⟩:=u.any ho I.free (by simp)
 exact I.step (g':=s.gens) (d':=s.drawn) (ch:=[]) (fun _ z=>nomatch z) (fun b o _ hb _ e n=>u.keep b o e n hb (by simp)) (fun b o _ hb _ e n=>u.slot b o e n hb (by simp)) (fun b o _ e n=>u.free b o e n (by simp)) (fun b o _ e=>u.there b o e (by simp)) u.tups u.frzs u.tbls (fun m' hm=>by
  obtain⟨o',es',ep',ho',r'⟩:=hm
  rw[ho]at ho';cases ho'
  exact⟨_,es',ep',hL,r'⟩) hok I.bare
theorem Inv.call{g':Array GenState}{d':Drawn}{ch:List Addr}(I:Inv X pins σ H s)(u:Un (frs X.stack) ch H H' s.heap h')(hok:HOk X.prog X.w H' h')(hg:b3v g')
  (hch:∀b∈ch,(b∈X.ex\/X.s₀.heap.objs.size<=b)/\b≠X.env.locals/\(∀x c,X.env.cells.lookup x=some c->c≠b)/\∀p∈X.pn++pins,p.1≠b) :
  Inv X pins σ H' { s with heap:=h',gens:=g',drawn:=d',toks:=t' }:=by
 obtain⟨m,⟨o,es,ep,ho,r⟩,_⟩:=id I.loc
 obtain⟨sl,hL⟩:=u.any ho I.free fun z=>(hch _ z).2.1 rfl
 exact I.step (ch:=ch) hch (fun b o hL hb hc e n=>u.keep b o e n (fun z=>(j4.mp (I.stkSub b z)).elim hL hb) hc) (fun b o _ _ hc e n=>u.any e n hc) (fun b o hc e n=>u.free b o e n hc) (fun b o hc e=>u.there b o e hc) u.tups u.frzs u.tbls (fun m' hm=>by
  obtain⟨o',es',ep',ho',r'⟩:=hm
  rw[ho]at ho';cases ho'
  exact⟨_,es',ep',hL,r'⟩) hok hg
theorem Inv.turned{it:Addr}(I:Inv X pins σ H s)(k:∀b o,b≠it->s.heap.get? b=some o->h'.get? b=some o)(hn:H it=none)(hL:it≠X.env.locals)
  (h1:it∈X.ex\/X.s₀.heap.objs.size<=it) (h2:∀x c,X.env.cells.lookup x=some c->c≠it) (h3:∀p∈X.pn++pins,p.1≠it):Inv X pins σ H { s with heap:=h',toks:=t' }:=by
 have nit:∀b u,H b=some u->b≠it:=fun b u e z=>by rw[z,hn]at e;cases e
 refine I.step (g':=s.gens) (d':=s.drawn) (ch:=[it]) (fun b hb=>?_) (fun b o _ _ hc e _=>k b o (fun z=>hc (by simp[z])) e) (fun b o _ _ hc e _=>⟨o.slots,k b o (fun z=>hc (by simp[z])) e⟩) (fun _ _ _ _ n=>n)
  (fun b o hc e=>⟨o,k b o (fun z=>hc (by simp[z])) e⟩) (fun _ _ e=>e) (fun _ _ _ e=>e) (fun b ps e=>⟨#[],by rw[e];simp⟩) (fun m hm=>?_) (fun b u e=>?_) I.bare
 ·have e:b=it:=by simpa using hb
  subst e
  exact⟨h1,hL,h2,h3⟩
 ·obtain⟨o,es,ep,ho,r⟩:=hm
  exact⟨o,es,ep,k _ o (Ne.symm hL) ho,r⟩
 ·refine(I.hok b u e).stay (fun c v hc q=>k c v ?_ q) (fun _ q=>q) fun _ _ q=>q
  rcases hc with z | z
  ·rw[z];exact nit b u e
  ·exact nit c _ z
theorem Inv.tok(I:Inv X pins σ H s)(t:Nat):Inv X pins σ H { s with toks:=t }:=I.un (h':=s.heap) (t':=t) Un.refl I.hok
theorem Inv.kept(I:Inv X pins σ H s)(k:∀b u,s.heap.get? b=some u->h'.get? b=some u):Inv X pins σ H { s with heap:=h',toks:=t' }:=I.un (Un.kept k) (I.hok.kept k)
theorem Inv.laid(I:Inv X pins σ H s)(k:∀b u,s.heap.get? b=some u->h'.get? b=some u)(hp:s.heap.objs.size<=a)(new:a0e X.prog X.w (upd H a o) h' a o) :
  Inv X pins σ (upd H a o) { s with heap:=h',toks:=t' }:=I.un (Un.laid k hp (I.hok.fresh hp)) (I.hok.laid k hp new)
theorem Inv.write{x e:Addr}(I:Inv X pins σ H s)(mu:Mut (H x))(he:e=x\/H e=some (.own x))(k:∀b u,b≠e->s.heap.get? b=some u->h'.get? b=some u)(heo:∃u,h'.get? e=some u)
  (new:a0e X.prog X.w (upd H x o) h' x o):Inv X pins σ (upd H x o) { s with heap:=h',toks:=t' }:=I.un (Un.write mu he k heo) (I.hok.write mu he k heo new)
theorem Inv.weak{σ':List (Option V)}(I:Inv X pins σ H s)(hl:σ'.length=σ.length)(w:∀(i:Nat) v,σ'[i]? = some (some v)->σ[i]? = some (some v)):Inv X pins σ' H s:=
 ⟨I.ok,I.os,I.bare,I.base,let⟨m,hn,hl'⟩:=I.loc; ⟨m,hn,fun i x v e1 e2 e3=>hl' i x v e1 (w i v e2) e3⟩,I.cell,I.free,I.freeC,I.pin,I.hok,hl.trans I.len⟩
theorem Inv.pins_of{pins':List (Addr×Obj)}(I:Inv X pins σ H s)(h:∀p∈pins',s.heap.get? p.1=some p.2/\H p.1=none/\p.1≠X.env.locals/\p.1∉X.fs/\∀v,p.2.data≠.cell v):Inv X pins' σ H s:=
 ⟨I.ok,I.os,I.bare,I.base,I.loc,I.cell,I.free,I.freeC,fun p hp=>(t5.mp hp).elim (fun z=>I.pin p (D8 _ z)) (h p),I.hok,I.len⟩
theorem b5N{N:List Str}(hN:N.Nodup){j:Nat}{x:Str}(a:N[i]? = some x)(b:N[j]? = some x):i=j:=by
 obtain⟨h1,e1⟩:=u6.mp a
 obtain⟨h2,e2⟩:=u6.mp b
 exact(List.getElem_inj hN).mp (e1.trans e2.symm)
theorem b2O{M:Model}{A:O0}{E:Value->i8->Prop}{x:Str}{Q:Unit->i8->Prop}(I:Inv X pins σ H s)(hN:X.N.Nodup)(hi:X.N[i]? = some x)(hx:Loc X.env.scope x)(r:K5 v u)
  (h:∀s',Inv X pins (σ.set i (some v)) H s'->(∃a,Heap.SameBut a s.heap s'.heap/\(a=X.env.locals\/X.env.cells.lookup x=some a))->Q () s') (hf:X.fn x=true\/X.env.scope.names.lookup x=some .local:=by first | exact .inl rfl | exact .inr rfl | assumption):wpAny M A (storeName X.env x u) Q E s:=by
 obtain⟨m,hn,hl⟩:=id I.loc
 have hcls:(X.env.scope.kind == .class||(X.env.scope.kind == .module&&X.env.locals != X.env.globals))=false:=by rw[I.ok.kind];rfl
 have hiσ:i<σ.length:=by rw[I.len];exact(u6.mp hi).1
 have cne:=I.cne
 have tracked:∀ {a:Addr} {h':Heap},(∃o,s.heap.get? a=some o/\H a=none)->Heap.SameBut a s.heap h'->HOk X.prog X.w H h':=fun {a h'} ha hs b ob e=>by
  obtain⟨_,_,hfree⟩:=ha
  refine(I.hok b ob e).stay (fun c w' hc q=>(hs.2 c ?_).trans q) (fun _ q=>q) fun _ _ q=>q
  rintro rfl
  rcases hc with rfl | hc
  ·rw[hfree]at e;cases e
  ·rw[hfree]at hc;cases hc
 rcases hx with hk | hk
 ·refine wpAny_storeName_local hk hn (fun h' hn' hs=>?_) hcls
  obtain⟨oL,_,_,hoL,_⟩:=id hn
  refine h _ ⟨I.ok,I.os,I.bare,⟨fun b o e n hb hx=>?_,fun b o e n hb hx=>?_,I.base.free,fun b o e hx=>?_,I.base.tups,I.base.frzs,I.base.tbls⟩,⟨_,hn',fun j y v' e1 e2 e3=>?_⟩,fun y c e=>?_,I.free,I.freeC,fun p hp=>?_,tracked ⟨oL,hoL,I.free⟩ hs,by simpa using I.len⟩ ⟨_,hs,.inl rfl⟩
  ·exact(hs.2 b (u9 (D7 (j5 e) I.ok.above))).trans (I.base.keep b o e n hb hx)
  ·obtain⟨sl,e1⟩:=I.base.slot b o e n hb hx
   exact⟨sl,(hs.2 b (u9 (D7 (j5 e) I.ok.above))).trans e1⟩
  ·obtain⟨o',e1⟩:=I.base.there b o e hx
   exact⟨o',(hs.2 b (u9 (D7 (j5 e) I.ok.above))).trans e1⟩
  ·by_cases hj:j=i
   ·subst hj
    rw[hi]at e1;cases e1
    rw[P3 hiσ]at e2
    cases e2
    exact⟨u,r,.inl ⟨hk,by simp⟩⟩
   ·rw[R9 (Ne.symm hj)]at e2
    obtain⟨u',r',q⟩:=hl j y v' e1 e2 e3
    refine⟨u',r',?_⟩
    rcases q with ⟨k,e⟩ | ⟨k,c,e,z⟩
    ·refine .inl ⟨k,?_⟩
     have:y≠x:=fun e=>hj (b5N hN e1 (e ▸ hi))
     simp[this,e]
    ·exact .inr ⟨k,c,e,z.sameBut hs (cne y c e)⟩
  ·obtain⟨w',z⟩:=I.cell y c e
   exact⟨w',z.sameBut hs (cne y c e)⟩
  ·obtain⟨e,n,ne,nf,d⟩:=I.pin p hp
   exact⟨(hs.2 p.1 ne).trans e,n,ne,nf,d⟩
 ·have hfn:X.fn x=true:=by
   rcases hf with z | z
   ·exact z
   ·rw[z]at hk;cases hk
  obtain⟨c,hc⟩:=I.ok.has x (.inl hk)
  obtain⟨w',z⟩:=I.cell x c hc
  refine wpAny_storeName_cell I.ok.kind hk hc z (fun h' hc' hs=>?_)
  obtain⟨oc,hoc,hocd⟩:=id z
  refine h { s with heap:=h' } ⟨I.ok,I.os,I.bare,⟨fun b o e n hb hx=>?_,fun b o e n hb hx=>?_,I.base.free,fun b o e hx=>?_,I.base.tups,I.base.frzs,I.base.tbls⟩,⟨m,hn.sameBut hs (Ne.symm (cne x c hc)),fun j y v' e1 e2 e3=>?_⟩,fun y c' e=>?_,I.free,I.freeC,fun p hp=>?_,tracked ⟨oc,hoc,I.freeC x c hc⟩ hs,by simpa using I.len⟩ ⟨c,hs,.inr hc⟩
  ·exact(hs.2 b (u9 (D7 (j5 e) (I.ok.cab x c hfn hc)))).trans (I.base.keep b o e n hb hx)
  ·obtain⟨sl,e1⟩:=I.base.slot b o e n hb hx
   exact⟨sl,(hs.2 b (u9 (D7 (j5 e) (I.ok.cab x c hfn hc)))).trans e1⟩
  ·obtain⟨o',e1⟩:=I.base.there b o e hx
   exact⟨o',(hs.2 b (u9 (D7 (j5 e) (I.ok.cab x c hfn hc)))).trans e1⟩
  ·by_cases hj:j=i
   ·subst hj
    rw[hi]at e1;cases e1
    rw[P3 hiσ]at e2
    cases e2
    exact⟨u,r,.inr ⟨.inl hk,c,hc,hc'⟩⟩
   ·rw[R9 (Ne.symm hj)]at e2
    obtain⟨u',r',q⟩:=hl j y v' e1 e2 e3
    refine⟨u',r',?_⟩
    rcases q with q | ⟨k,c',e,z'⟩
    ·exact .inl q
    ·refine .inr ⟨k,c',e,z'.sameBut hs ?_⟩
     rintro rfl
     exact hj (b5N hN e1 (I.ok.inj _ _ _ e hc ▸ hi))
  ·by_cases hcc:c'=c
   ·subst hcc;exact⟨_,hc'⟩
   ·obtain⟨w2,z2⟩:=I.cell y c' e
    exact⟨w2,z2.sameBut hs hcc⟩
  ·obtain⟨e,n,ne,nf,d⟩:=I.pin p hp
   refine⟨(hs.2 p.1 ?_).trans e,n,ne,nf,d⟩
   intro q
   rw[q,hoc]at e
   have q':oc=p.2:=Option.some.inj e
   exact d w' (by rw[<-q'];exact hocd)
theorem a7T{M:Model}{A:O0}{E:Value->i8->Prop}{x:Str}{Q:Unit->i8->Prop}(I:Inv X pins σ H s)(hN:X.N.Nodup)(hi:X.N[i]? = some x)(hx:Loc X.env.scope x)(r:K5 v u)
  (h:∀s',Inv X pins (σ.set i (some v)) H s'->Q () s') (hf:X.fn x=true\/X.env.scope.names.lookup x=some .local:=by first | exact .inl rfl | exact .inr rfl | assumption):wpAny M A (storeName X.env x u) Q E s:=
 b2O I hN hi hx r (fun s' I' _=>h s' I') hf
theorem Inv.call'{s':i8}{ch:List Addr}(I:Inv X pins σ H s)(ho:s'.os=s.os)(u:Un (frs X.stack) ch H H' s.heap s'.heap)(hok:HOk X.prog X.w H' s'.heap)(hg:b3v s'.gens)
  (hch:∀b∈ch,(b∈X.ex\/X.s₀.heap.objs.size<=b)/\b≠X.env.locals/\(∀x c,X.env.cells.lookup x=some c->c≠b)/\∀p∈X.pn++pins,p.1≠b):Inv X pins σ H' s':=by
 obtain⟨h',g',d',t',o'⟩:=s'
 have e:o'=s.os:=ho
 subst e
 exact I.call (g':=g') (t':=t') (d':=d') u hok hg hch
end
abbrev XK:=Value->Option Addr->Hp->Prop
abbrev St:=List (Option V)
variable{σ:St}
abbrev VK:=V->Hp->Prop
abbrev TE:=St->Hp->VK->Prop
variable{ta te:TE}
abbrev TT:=St->Hp->(Bool->Hp->Prop)->Prop
abbrev TA:=St->Hp->(List V->Hp->Prop)->Prop
structure b1I where
 nx:St->Hp->Prop
 rt:VK
 bk:St->Hp->Prop:=fun _ _=>False
 ct:St->Hp->Prop:=fun _ _=>False
variable{D:b1I}
abbrev TS:=b1I->St->Hp->Prop
variable{tb:TS}
def EP(X:Cx)(pins:List (Addr×Obj))(σ:St)(Q:VK)(u:Value)(s':i8):Prop:=∃v H',Inv X pins σ H' s'/\K5 v u/\Q v H'
def TP(X:Cx)(pins:List (Addr×Obj))(σ:St)(Q:Bool->Hp->Prop)(b:Bool)(s':i8):Prop:=∃H',Inv X pins σ H' s'/\Q b H'
def AP(X:Cx)(pins:List (Addr×Obj))(σ:St)(Q:List V->Hp->Prop)(us:List Value)(s':i8):Prop:=∃vs H',Inv X pins σ H' s'/\L5 vs us/\Q vs H'
def SP(X:Cx)(pins:List (Addr×Obj))(D:b1I)(f:Flow)(s':i8):Prop:=
 match f with
 | .next=>∃σ' H',Inv X pins σ' H' s'/\D.nx σ' H'
 | .brk=>∃σ' H',Inv X pins σ' H' s'/\D.bk σ' H'
 | .cont=>∃σ' H',Inv X pins σ' H' s'/\D.ct σ' H'
 | .ret u=>∃v σ' H',Inv X pins σ' H' s'/\K5 v u/\D.rt v H'
def PE(X:Cx)(e:Expr)(t:TE):Prop:=
 ∀(pins:List (Addr×Obj)) (s:i8) (σ:St) (H:Hp) (Q:VK),Inv X pins σ H s->t σ H Q->wpAny (model X.prog X.w) X.A (eval e X.env) (EP X pins σ Q) X.xe s
def PT(X:Cx)(e:Expr)(t:TT):Prop:=
 ∀(pins:List (Addr×Obj)) (s:i8) (σ:St) (H:Hp) (Q:Bool->Hp->Prop),Inv X pins σ H s->t σ H Q->wpAny (model X.prog X.w) X.A (isTrue e X.env (eval e X.env)) (TP X pins σ Q) X.xe s
def PW(X:Cx)(e:Expr)(t:TT):Prop:=
 ∀(whole:Sem Value) (pins:List (Addr×Obj)) (s:i8) (σ:St) (H:Hp) (Q:Bool->Hp->Prop),Inv X pins σ H s->t σ H Q->wpAny (model X.prog X.w) X.A (isTrue e X.env whole) (TP X pins σ Q) X.xe s
theorem PW.pt{t:TT}(h:PW X e t):PT X e t:=h _
def PA(X:Cx)(es:List Expr)(t:TA):Prop:=
 ∀(pos:Pos) (pins:List (Addr×Obj)) (s:i8) (σ:St) (H:Hp) (Q:List V->Hp->Prop),Inv X pins σ H s->t σ H Q->wpAny (model X.prog X.w) X.A (spliced (a0u pos (j9 es X.env))) (AP X pins σ Q) X.xe s
def PS(X:Cx)(st:Stmt)(t:TS):Prop:=
 ∀(pins:List (Addr×Obj)) (s:i8) (σ:St) (H:Hp) (D:b1I),Inv X pins σ H s->t D σ H->wpAny (model X.prog X.w) X.A (exec st X.env) (SP X pins D) X.xe s
def PSs(X:Cx)(st:List Stmt)(t:TS):Prop:=
 ∀(pins:List (Addr×Obj)) (s:i8) (σ:St) (H:Hp) (D:b1I),Inv X pins σ H s->t D σ H->wpAny (model X.prog X.w) X.A (execs st X.env) (SP X pins D) X.xe s
theorem thn{α:Type}{t:Sem α}{Q Q':α->i8->Prop}{M:Model}{A:O0}{E:Value->i8->Prop}(h:wpAny M A t Q E s)(hQ:∀a s,Q a s->Q' a s):wpAny M A t Q' E s:=a0m h hQ fun _ _ x=>x
section
def c8(i:Nat):TE:=fun σ H Q=>∃v,σ[i]? = some (some v)/\Q v H
def tC(v:V):TE:=fun _ H Q=>Q v H
theorem c8c{x:Str}(hN:X.N[i]? = some x)(hv:Vis X.env.scope x)(hd:(x == ("__debug__" : Str))=false:=by decide)(hcd:(x == ("__classdict__" : Str))=false:=by decide):PE X (.Name x pos) (c8 i):=by
 intro pins s σ H Q I h
 obtain⟨v,e,h⟩:=h
 obtain⟨m,hn,hl⟩:=I.loc
 obtain⟨u,r,l⟩:=hl i x v hN e hv
 have fin:EP X pins σ Q u s:=⟨v,H,I,r,h⟩
 rcases l with ⟨hk,hm⟩ | ⟨hk,c,hc,hcell⟩
 ·exact wpAny_Name (d0V I.ok.kind hk hn hm fin) hd
 ·rcases hk with hk | hk
  ·exact wpAny_Name (d0Y I.ok.kind hk hc hcell fin) hd
  ·exact wpAny_Name (wpAny_loadName_free I.ok.kind hk hc hcell fin hcd) hd
theorem c8l{i j pos}:PE X (.Constant (.int i) j pos) (tC (.int i)):=fun _ _ _ H _ I h=>wpAny_Constant_int ⟨.int i,H,I.tok _,⟨_,rfl⟩,h⟩
theorem d0o{b j pos}:PE X (.Constant (.bool b) j pos) (tC (.bl b)):=fun _ _ _ H _ I h=>Constant_bool ⟨.bl b,H,I,rfl,h⟩
theorem c8i{j pos}:PE X (.Constant .none j pos) (tC .non):=fun _ _ _ H _ I h=>Constant_none ⟨.non,H,I,rfl,h⟩
theorem c8e{x j pos}:PE X (.Constant (.str x) j pos) (tC (.str x)):=fun _ _ _ H _ I h=>Calls.Constant_str ⟨.str x,H,I.tok _,⟨_,rfl⟩,h⟩
def Gl(X:Cx)(x:Str):Prop:=X.env.kindOf x=some .globalImplicit
theorem b4i{E:Value->i8->Prop}{x:Str}(I:Inv X pins σ H s)(hg:Gl X x)(hm:X.mg x=some u)(h:Q u s)
  (hd:(x == ("__debug__" : Str))=false:=by decide):wpAny (model X.prog X.w) X.A (eval (.Name x pos) X.env) Q E s:=
 Calls.Name_function_global I.ok.kind hg (Calls.loadGlobal_global (by rw[I.ok.glob];exact I.mod.glob.keeps I.bk) hm h) hd
theorem a5a{E:Value->i8->Prop}{x:Str}(I:Inv X pins σ H s)(hg:Gl X x)(hm:X.mg x=none)(hv:Y5 x=some u)(h:Q u s)
  (hn:x ≠ "__name__" := by decide) (hd:(x == ("__debug__" : Str))=false:=by decide):wpAny (model X.prog X.w) X.A (eval (.Name x pos) X.env) Q E s:=by
 obtain⟨mb,h1,h2⟩:=I.mod.blt
 exact Calls.Name_function_global I.ok.kind hg (Calls.loadGlobal_builtin (by rw[I.ok.glob];exact I.mod.glob.keeps I.bk) hm (by rw[I.ok.blt];exact h1.keeps I.bk) ((h2 x hn).trans hv) h) hd
theorem c5l{x:Str}(hg:Gl X x)(hm:X.mg x=some u)(r:K5 v u)(hd:(x == ("__debug__" : Str))=false:=by decide):PE X (.Name x pos) (tC v):=
 fun _ _ _ H _ I h=>b4i I hg hm ⟨v,H,I,r,h⟩ hd
theorem c5r{x:Str}(hg:Gl X x)(hm:X.mg x=none)(hv:Y5 x=some u)(r:K5 v u)(hn:x ≠ "__name__" := by decide)(hd:(x == ("__debug__" : Str))=false:=by decide):PE X (.Name x pos) (tC v):=
 fun _ _ _ H _ I h=>a5a I hg hm hv ⟨v,H,I,r,h⟩ hn hd
variable {a b:Expr}{tb:TE}
def PC(X:Cx)(op:CmpOp)(a b:Expr)(t:TE):Prop:=
 ∀(pins:List (Addr×Obj)) (s:i8) (σ:St) (H:Hp) (Q:VK),Inv X pins σ H s->t σ H Q ->
  wpAny (model X.prog X.w) X.A (eval a X.env) (fun v s₁=>wpAny (model X.prog X.w) X.A (eval b X.env) (fun u s₂=>wpAny (model X.prog X.w) X.A (A3 op v u) (EP X pins σ Q) X.xe s₂) X.xe s₁) X.xe s
def tB(t:TE):TT:=fun σ H Q=>t σ H fun x H1=>∃c,x=.bl c/\Q c H1
theorem c8n{op:CmpOp}{t:TE}(h:PC X op a b t)(h1:W3 op b=false:=by first | exact nobehind _ (by decide) (by decide) | rfl):PE X (.Compare a [op] [b] pos) t:=fun pins s σ H Q I hw=>wpAny_Compare1 (h pins s σ H Q I hw) h1
theorem c2K{op:CmpOp}{t:TE}(h:PC X op a b t)(h1:W3 op b=false:=by first | exact nobehind _ (by decide) (by decide) | rfl):PT X (.Compare a [op] [b] pos) (tB t):=by
 intro pins s σ H Q I hw
 refine c9v (thn (h pins s σ H _ I hw) fun v s1 h1=>thn h1 fun u s2 h2=>thn h2 fun c s3 ⟨x,H1,I1,r1,q1⟩=>?_) h1
 obtain⟨d,rfl,q⟩:=q1
 cases r1
 exact Q3 ⟨H1,I1,q⟩
theorem c7Q{t:TE}(h:PE X e t)(he:∀whole,isTrue e X.env whole=(do let v <-whole;b0m e.pos;a1A [v] (truthy v)):=by intro _;rfl):PT X e (tB t):=by
 intro pins s σ H Q I hw
 refine isTrue_plain (thn (h pins s σ H _ I hw) fun v s1 ⟨x,H1,I1,r1,q1⟩=>?_) (he _)
 obtain⟨d,rfl,q⟩:=q1
 cases r1
 exact Q3 ⟨H1,I1,q⟩
variable {tA tB':TT}{a5Q:List Expr}
def b5i(t u:TT):TT:=fun σ H Q=>t σ H fun c H1=>if c=true then u σ H1 Q else Q false H1
def tOr(t u:TT):TT:=fun σ H Q=>t σ H fun c H1=>if c=true then Q true H1 else u σ H1 Q
def a2t(t:TT):TT:=fun σ H Q=>t σ H fun c H1=>Q (!c) H1
theorem c4S(ha:PT X a tA):PW X (.BoolOp .And [a] pos) tA:=by
 intro wh pins s σ H Q I h
 refine isTrue_and (thn (ha pins s σ H Q I h) fun c s1 e=>?_)
 cases c with
 | true=>exact isTrue_and_nil e
 | false=>exact e
theorem c7O(ha:PT X a tA):PW X (.BoolOp .Or [a] pos) tA:=by
 intro wh pins s σ H Q I h
 refine isTrue_or (thn (ha pins s σ H Q I h) fun c s1 e=>?_)
 cases c with
 | false=>exact isTrue_or_nil e
 | true=>exact e
theorem c7P(ha:PT X a tA)(hb:PW X (.BoolOp .And (b::a5Q) pos) tB'):PW X (.BoolOp .And (a::b::a5Q) pos) (b5i tA tB'):=by
 intro wh pins s σ H Q I h
 refine isTrue_and (thn (ha pins s σ H _ I h) fun c s1 ⟨H1,I1,q1⟩=>?_)
 cases c with
 | true=>exact hb wh pins s1 σ H1 Q I1 q1
 | false=>exact⟨H1,I1,q1⟩
theorem d0e(ha:PT X a tA)(hb:PW X (.BoolOp .Or (b::a5Q) pos) tB'):PW X (.BoolOp .Or (a::b::a5Q) pos) (tOr tA tB'):=by
 intro wh pins s σ H Q I h
 refine isTrue_or (thn (ha pins s σ H _ I h) fun c s1 ⟨H1,I1,q1⟩=>?_)
 cases c with
 | true=>exact⟨H1,I1,q1⟩
 | false=>exact hb wh pins s1 σ H1 Q I1 q1
theorem c7R(ha:PT X a tA):PT X (.UnaryOp .Not a pos) (a2t tA):=by
 intro pins s σ H Q I h
 exact isTrue_not (ha pins s σ H (fun c H1=>Q (!c) H1) I h)
def a1d(ta tb:TE):TE:=fun σ H Q=>ta σ H fun x H1=>∃c,x=.bl c/\if c=true then tb σ H1 Q else Q (.bl false) H1
def c4x(ta tb:TE):TE:=fun σ H Q=>ta σ H fun x H1=>∃c,x=.bl c/\if c=true then Q (.bl true) H1 else tb σ H1 Q
def b2N(ta:TE):TE:=fun σ H Q=>ta σ H fun x H1=>∃c,x=.bl c/\Q (.bl (!c)) H1
theorem c8g{op}{t:TE}(h:PE X a t):PE X (.BoolOp op [a] pos) t:=fun pins s σ H Q I hw=>BoolOp_one (h pins s σ H Q I hw)
theorem c8p(ha:PE X a ta)(hb:PE X (.BoolOp .And (b::a5Q) pos) tb):PE X (.BoolOp .And (a::b::a5Q) pos) (a1d ta tb):=by
 intro pins s σ H Q I h
 refine BoolOp_and (thn (ha pins s σ H _ I h) fun v s1 ⟨x,H1,I1,r1,q1⟩=>?_)
 obtain⟨c,rfl,q1⟩:=q1
 cases r1
 refine Q3 ?_
 cases c with
 | true=>exact hb pins s1 σ H1 Q I1 q1
 | false=>exact⟨.bl false,H1,I1,rfl,q1⟩
theorem d0j(ha:PE X a ta)(hb:PE X (.BoolOp .Or (b::a5Q) pos) tb):PE X (.BoolOp .Or (a::b::a5Q) pos) (c4x ta tb):=by
 intro pins s σ H Q I h
 refine BoolOp_or (thn (ha pins s σ H _ I h) fun v s1 ⟨x,H1,I1,r1,q1⟩=>?_)
 obtain⟨c,rfl,q1⟩:=q1
 cases r1
 refine Q3 ?_
 cases c with
 | false=>exact hb pins s1 σ H1 Q I1 q1
 | true=>exact⟨.bl true,H1,I1,rfl,q1⟩
theorem c8h(ha:PE X a ta):PE X (.UnaryOp .Not a pos) (b2N ta):=by
 intro pins s σ H Q I h
 refine UnaryOp_ (thn (ha pins s σ H _ I h) fun v s1 ⟨x,H1,I1,r1,q1⟩=>?_)
 obtain⟨c,rfl,q1⟩:=q1
 cases r1
 exact not_of (Q3 ⟨.bl (!c),H1,I1,rfl,q1⟩)
def tIf(t:TT)(ta tb:TE):TE:=fun σ H Q=>t σ H fun c H1=>if c=true then ta σ H1 Q else tb σ H1 Q
theorem c2V(hc:PT X c tA)(ha:PE X a ta)(hb:PE X b tb):PE X (.IfExp c a b pos) (tIf tA ta tb):=by
 intro pins s σ H Q I h
 refine wpAny_IfExp (thn (hc pins s σ H _ I h) fun d s1 ⟨H1,I1,q1⟩=>?_)
 cases d with
 | true=>exact ha pins s1 σ H1 Q I1 q1
 | false=>exact hb pins s1 σ H1 Q I1 q1
end
def SqL(K:Fg)(H:Hp)(a:Addr)(xs:List V):Prop:=
 Rd H a (.lst xs) \/
  ∃(o:Obj) (its:Array Value) (n:Nat),K.lookup a=some o/\o.cls=.type "list" /\ o.dict=none/\o.data=.seq its n/\its.size<=u8/\L5 xs its.toList
def SqT(K:Fg)(H:Hp)(a:Addr)(xs:List V):Prop:=
 Rd H a (.tup xs) \/
  ∃(o:Obj) (its:Array Value) (n:Nat),K.lookup a=some o/\o.cls=.type "tuple" /\ o.data=.seq its n/\its.size<=u8/\L5 xs its.toList
def d1t:Value->Option V
 | .none=>some .non
 | .bool b=>some (.bl b)
 | .int i _=>some (.int i)
 | .str x _=>some (.str x)
 | .bytes b _=>some (.byt b)
 | .float b _=>some (.flt b)
 | .ref a=>some (.ref a)
 | .type n=>some (.ty n)
 | _=>none
theorem K5.abs{x:V}(r:K5 x u):d1t u=some x:=by
 cases x with
 | non=>cases r;rfl
 | bl _=>cases r;rfl
 | int _=>obtain⟨t,rfl⟩:=r;rfl
 | str _=>obtain⟨t,rfl⟩:=r;rfl
 | byt _=>obtain⟨t,rfl⟩:=r;rfl
 | flt _=>obtain⟨t,rfl⟩:=r;rfl
 | ref _=>cases r;rfl
 | ty _=>cases r;rfl
theorem K5.inj{x:V}(r:K5 x u)(q:K5 y u):x=y:=Option.some.inj (r.abs.symm.trans q.abs)
theorem L5.inj:∀ {xs ys:List V} {us:List Value},L5 xs us->L5 ys us->xs=ys
 | _,_,_,.nil,.nil=>rfl
 | _,_,_,.cons r t,.cons r' t'=>by rw[r.inj r',L5.inj t t']
section
variable {ys:List V}
theorem SqL.of{K:Fg}(h:H a=some (.lst xs)):SqL K H a xs:=.inl (.inl h)
theorem SqT.of{K:Fg}(h:H a=some (.tup xs)):SqT K H a xs:=.inl (.inl h)
theorem Inv.list(I:Inv X pins σ H s)(h:SqL X.K H a xs):∃its:List Value,L5 xs its/\PlainL s.heap a its.toArray/\xs.length<=u8:=by
 rcases h with h | ⟨o,its,n,hk,hc,hd,hs,hz,r⟩
 ·obtain⟨z,its,n,r,e⟩:=h.ok I.hok
  exact⟨its,r,⟨_,n,e,rfl,rfl,rfl⟩,z⟩
 ·refine⟨its.toList,r,⟨o,n,I.kIn a o hk,hc,hd,by simpa using hs⟩,?_⟩
  have e:=r.length
  simp only[E5]at e
  omega
theorem Inv.tuple(I:Inv X pins σ H s)(h:SqT X.K H a xs):∃its:List Value,L5 xs its/\IsTup s.heap a its.toArray/\xs.length<=u8:=by
 rcases h with h | ⟨o,its,n,hk,hc,hs,hz,r⟩
 ·obtain⟨z,its,r,p⟩:=h.ok I.hok
  exact⟨its,r,p,z⟩
 ·refine⟨its.toList,r,⟨o,I.kIn a o hk,hc,n,by simpa using hs⟩,?_⟩
  have e:=r.length
  simp only[E5]at e
  omega
theorem Inv.list_inj(I:Inv X pins σ H s)(h:SqL X.K H a xs)(h':SqL X.K H a ys):xs=ys:=by
 obtain⟨its,r,⟨o,n,e,_,_,d⟩,_⟩:=I.list h
 obtain⟨its',r',⟨o',n',e',_,_,d'⟩,_⟩:=I.list h'
 rw[e]at e';cases e'
 rw[d]at d'
 injection d' with d1 _
 have:its=its':=by simpa using congrArg d0O d1
 subst this
 exact r.inj r'
theorem Inv.tuple_inj(I:Inv X pins σ H s)(h:SqT X.K H a xs)(h':SqT X.K H a ys):xs=ys:=by
 obtain⟨its,r,⟨o,e,_,n,d⟩,_⟩:=I.tuple h
 obtain⟨its',r',⟨o',e',_,n',d'⟩,_⟩:=I.tuple h'
 rw[e]at e';cases e'
 rw[d]at d'
 injection d' with d1 _
 have:its=its':=by simpa using congrArg d0O d1
 subst this
 exact r.inj r'
end
abbrev Cx.wish(X:Cx)(E:Value->i8->Prop):Cx:={ X with xe:=E }
abbrev Cx.nox(X:Cx):Cx:=X.wish fun _ _=>False
theorem Cx.Ok.wish(ok:X.Ok)(E:Value->i8->Prop):(X.wish E).Ok:=
 ⟨ok.mod,ok.kind,ok.glob,ok.blt,ok.above,ok.inj,ok.has,ok.cab,ok.hd,ok.frames,ok.stk,ok.exf,ok.bs,ok.bsz,ok.noex,ok.exfs,ok.funs,ok.frf⟩
theorem Cx.Ok.unwish{E:Value->i8->Prop}(ok:(X.wish E).Ok):X.Ok:=
 ⟨ok.mod,ok.kind,ok.glob,ok.blt,ok.above,ok.inj,ok.has,ok.cab,ok.hd,ok.frames,ok.stk,ok.exf,ok.bs,ok.bsz,ok.noex,ok.exfs,ok.funs,ok.frf⟩
section
variable {E:Value->i8->Prop}
theorem Inv.wish(I:Inv X pins σ H s)(E:Value->i8->Prop):Inv (X.wish E) pins σ H s:=⟨I.ok.wish E,I.os,I.bare,I.base,I.loc,I.cell,I.free,I.freeC,I.pin,I.hok,I.len⟩
theorem Inv.unwish(I:Inv (X.wish E) pins σ H s):Inv X pins σ H s:=⟨I.ok.unwish,I.os,I.bare,I.base,I.loc,I.cell,I.free,I.freeC,I.pin,I.hok,I.len⟩
theorem SP.unwish{f:Flow}{s':i8}(h:SP (X.wish E) pins D f s'):SP X pins D f s':=by
 cases f with
 | next=>obtain⟨σ',H',I,q⟩:=h;exact⟨σ',H',I.unwish,q⟩
 | brk=>obtain⟨σ',H',I,q⟩:=h;exact⟨σ',H',I.unwish,q⟩
 | cont=>obtain⟨σ',H',I,q⟩:=h;exact⟨σ',H',I.unwish,q⟩
 | ret u=>obtain⟨v,σ',H',I,r,q⟩:=h;exact⟨v,σ',H',I.unwish,r,q⟩
theorem PSs.nox{st:List Stmt}{t:TS}(h:PSs X.nox st t):PSs X st t:=fun pins s σ H D I hw=>
 a0m (h pins s σ H D (I.wish _) hw) (fun _ _ q=>q.unwish) fun _ _ z=>False.elim z
end
section
variable {st:Stmt}{a5Q:List Stmt}{t u:TS}
def F0:TS:=fun D σ H=>D.nx σ H
def A4(t u:TS):TS:=fun D σ H=>t { D with nx:=u D } σ H
theorem c4Z:PSs X [] F0:=fun _ _ σ H _ I h=>b0l ⟨σ,H,I,h⟩
theorem c2M(h1:PS X st t)(h2:PSs X a5Q u):PSs X (st::a5Q) (A4 t u):=by
 intro pins s σ H D I h
 refine wpAny_execs_cons (thn (h1 pins s σ H { D with nx:=u D } I h) fun f s1 q=>?_)
 cases f with
 | next=>
  obtain⟨σ',H',I',q⟩:=q
  exact h2 pins s1 σ' H' D I' q
 | ret v=>exact q
 | brk=>exact q
 | cont=>exact q
theorem c4Y(h1:PS X st t):PSs X [st] t:=by
 intro pins s σ H D I h
 refine wpAny_execs_cons (thn (h1 pins s σ H D I h) fun f s1 q=>?_)
 cases f with
 | next=>exact b0l q
 | ret v=>exact q
 | brk=>exact q
 | cont=>exact q
theorem Inv.quiet(I:Inv X pins σ H s):interactive X.env=false:=by simp[interactive,I.ok.kind]
def Y7(te:TE):TS:=fun D σ H=>te σ H fun _ H1=>D.nx σ H1
theorem c5a(he:PE X e te)(hs:a3a e none pos.line X.env=pure false:=by rfl):PS X (.Expr e pos) (Y7 te):=by
 intro pins s σ H D I h
 exact wpAny_Expr_any (thn (he pins s σ H _ I h) fun v s1 ⟨x,H1,I1,r1,q1⟩=>⟨σ,H1,I1,q1⟩) I.quiet hs
def K8(te:TE):TS:=fun D σ H=>te σ H D.rt
theorem c7T(he:PE X e te):PS X (.Return (some e) pos) (K8 te):=by
 intro pins s σ H D I h
 exact wpAny_Return_some (thn (he pins s σ H _ I h) fun v s1 ⟨x,H1,I1,r1,q1⟩=>⟨x,σ,H1,I1,r1,q1⟩)
def O8(c:TT)(t u:TS):TS:=fun D σ H=>c σ H fun b H1=>if b=true then t D σ H1 else u D σ H1
theorem d0f{a b:List Stmt}{tc:TT}(hc:PT X c tc)(ha:PSs X a t)(hb:PSs X b u):PS X (.If c a b pos) (O8 tc t u):=by
 intro pins s σ H D I h
 refine wpAny_If (thn (hc pins s σ H _ I h) fun d s1 ⟨H1,I1,q1⟩=>?_)
 cases d with
 | true=>exact ha pins s1 σ H1 D I1 q1
 | false=>exact hb pins s1 σ H1 D I1 q1
end
abbrev TG:=V->St->Hp->(St->Hp->Prop)->Prop
variable{g:TG}
abbrev TGs:=List V->St->Hp->(St->Hp->Prop)->Prop
def PG(X:Cx)(target:Expr)(t:TG):Prop:=
 ∀(pins:List (Addr×Obj)) (s:i8) (σ:St) (H:Hp) (v:V) (u:Value) (Q:St->Hp->Prop),Inv X pins σ H s->K5 v u->t v σ H Q ->
  wpAny (model X.prog X.w) X.A (b2z target X.env u) (fun _ s'=>∃σ' H',Inv X pins σ' H' s'/\Q σ' H') X.xe s
def PGs(X:Cx)(ts:List Expr)(t:TGs):Prop:=
 ∀(pins:List (Addr×Obj)) (s:i8) (σ:St) (H:Hp) (vs:List V) (us:List Value) (Q:St->Hp->Prop),Inv X pins σ H s->L5 vs us->t vs σ H Q ->
  wpAny (model X.prog X.w) X.A (assignInOrder ((a1S ts X.env).map (·.2)) us) (fun _ s'=>∃σ' H',Inv X pins σ' H' s'/\Q σ' H') X.xe s
abbrev b2t:=V->V->V->Hp->(Hp->Prop)->Prop
def c4b(X:Cx)(t:b2t):Prop:=
 ∀(pins:List (Addr×Obj)) (s:i8) (σ:St) (H:Hp) (o i v:V) (ov iv u:Value) (Q:Hp->Prop),Inv X pins σ H s->K5 o ov->K5 i iv->K5 v u->t o i v H Q ->
  wpAny (model X.prog X.w) X.A (c7b ov iv u) (fun _ s'=>∃H',Inv X pins σ H' s'/\Q H') X.xe s
abbrev TIp:=V->V->Hp->VK->Prop
def PIp(X:Cx)(op:b1P)(t:TIp):Prop:=
 ∀(pins:List (Addr×Obj)) (s:i8) (σ:St) (H:Hp) (x y:V) (v u:Value) (Q:VK),Inv X pins σ H s->K5 x v->K5 y u->t x y H Q ->
  wpAny (model X.prog X.w) X.A (inplaceOp op v u) (EP X pins σ Q) X.xe s
section
def z8(i:Nat):TG:=fun v σ H Q=>Q (σ.set i (some v)) H
theorem b3W{x:Str}(hN:X.N.Nodup)(hi:X.N[i]? = some x)(hx:Loc X.env.scope x)(hf:X.fn x=true\/X.env.scope.names.lookup x=some .local:=by first | exact .inl rfl | exact .inr rfl | assumption):PG X (.Name x pos) (z8 i):=by
 intro pins s σ H v u Q I r h
 exact b6K (a7T I hN hi hx r (fun s' I'=>⟨_,H,I',h⟩) hf)
def b2p:TGs:=fun vs σ H Q=>vs=[]/\Q σ H
def a1X(t:TG)(u:TGs):TGs:=fun vs σ H Q=>∃v r,vs=v::r/\t v σ H fun σ' H'=>u r σ' H' Q
theorem b8E:PGs X [] b2p:=by
 intro pins s σ H vs us Q I r h
 obtain⟨e,h⟩:=h
 subst e
 cases r
 exact assignInOrder_nil ⟨σ,H,I,h⟩
theorem b1c{t:TG}{u:TGs}(h1:PG X e t)(h2:PGs X es u)
  (hs:(a1S (e::es) X.env).map (·.2)=b2z e X.env::(a1S es X.env).map (·.2):=by rfl):PGs X (e::es) (a1X t u):=by
 intro pins s σ H vs us Q I r h
 obtain⟨v,vr,e1,h⟩:=h
 subst e1
 cases r with
 | cons r rr=>
  rw[hs]
  refine assignInOrder_cons (thn (h1 pins s σ H _ _ _ I r h) fun _ s1 ⟨σ1,H1,I1,q1⟩=>?_)
  exact h2 pins s1 σ1 H1 _ _ Q I1 rr q1
def b2o(K:Fg)(n:Nat)(t:TGs):TG:=fun v σ H Q=>∃a xs,v=.ref a/\SqT K H a xs/\xs.length=n/\t xs σ H Q
theorem c2S{k:Nat}{t:TGs}{n:Nat}(hc:X.calm=true)(h:PGs X es t)
  (hn:(a1S es X.env).length=n:=by rfl) (hst:(a1S es X.env).findIdx? (·.1)=none:=by rfl):PG X (.Tuple es k pos) (b2o X.K n t):=by
 intro pins s σ H v u Q I r hw
 obtain⟨a,xs,e1,hq,hl,hw⟩:=hw
 subst e1
 cases r
 obtain⟨its,rv,ht,hz⟩:=I.tuple hq
 refine assign_Tuple_tuple (I.ok.hd hc) ht (by simp[hn,<-hl,rv.length]) hst fun h' hx=>?_
 have I1:Inv X pins σ H { s with heap:=h' }:=I.kept (t':=s.toks) fun b o e=>hx b o (u9 (j5 e)) e
 exact h pins _ σ H xs _ Q I1 (by simpa using rv) hw
def b5X(to ti:TE)(t:b2t):TG:=fun v σ H Q=>to σ H fun o H1=>ti σ H1 fun i H2=>t o i v H2 fun H3=>Q σ H3
theorem c8b{o i:Expr}{to ti:TE}{t:b2t}(ho:PE X o to)(hi:PE X i ti)(hs:c4b X t)
  (ha:∀v,b2z (.Subscript o i pos) X.env v=(do
   let ov <-a1A [v] (eval o X.env)
   let iv <-a1A [v,ov] (eval i X.env)
   b0m pos
   a1A [v,ov,iv] (c7b ov iv v)
   release [v,ov,iv] []):=by intro _;rfl):PG X (.Subscript o i pos) (b5X to ti t):=by
 intro pins s σ H v u Q I r h
 rw[ha]
 refine b6 (Y3 (thn (ho pins s σ H _ I h) fun ov s1 ⟨x,H1,I1,r1,q1⟩=>?_))
 refine b6 (Y3 (thn (hi pins s1 σ H1 _ I1 q1) fun iv s2 ⟨y,H2,I2,r2,q2⟩=>?_))
 refine b6 (c6Z (b6 (Y3 (thn (hs pins s2 σ H2 x y v ov iv u _ I2 r1 r2 r q2) fun _ s3 ⟨H3,I3,q3⟩=>?_))))
 exact wpAny_release ⟨σ,H3,I3,q3⟩
def K0(te:TE)(g:TG):TS:=fun D σ H=>te σ H fun x H1=>g x σ H1 D.nx
theorem c7X(he:PE X e te)(hg:PG X tg g)(hs:swapsWithSole [tg] e pos.line X.env=pure false:=by rfl)(hw:swappedStores [tg] e X.env=pure none:=by rfl)
  (h1:(a1S [tg] X.env).map (·.2)=[b2z tg X.env]:=by rfl):PS X (.Assign [tg] e pos) (K0 te g):=by
 intro pins s σ H D I h
 refine wpAny_Assign_stores (thn (he pins s σ H _ I h) fun v s1 ⟨x,H1,I1,r1,q1⟩=>?_) hs hw
 rw[h1]
 exact thn (hg pins s1 σ H1 x v _ I1 r1 q1) fun _ s2 q=>q
theorem c7S{x:Str}(hN:X.N.Nodup)(hi:X.N[i]? = some x)(hx:Loc X.env.scope x)(he:PE X e te)(hs:a3a e (some (.Name x pos')) pos.line X.env=pure false:=by rfl)(hf:X.fn x=true\/X.env.scope.names.lookup x=some .local:=by first | exact .inl rfl | exact .inr rfl | assumption) :
  PS X (.Assign [.Name x pos'] e pos) (K0 te (z8 i)):=by
 intro pins s σ H D I h
 refine wpAny_Assign_Name (thn (he pins s σ H _ I h) fun v s1 ⟨y,H1,I1,r1,q1⟩=>?_) hs
 exact a7T I1 hN hi hx r1 (fun s2 I2=>⟨_,H1,I2,q1⟩) hf
def c1V(i:Nat)(te:TE)(ti:TIp):TS:=fun D σ H=>∃x,σ[i]? = some (some x)/\te σ H fun y H1=>ti x y H1 fun z H2=>D.nx (σ.set i (some z)) H2
theorem c7W{x:Str}{op:b1P}{ti:TIp}(hN:X.N.Nodup)(hi:X.N[i]? = some x)(hx:Loc X.env.scope x)(he:PE X e te)(ho:PIp X op ti)(hf:X.fn x=true\/X.env.scope.names.lookup x=some .local:=by first | exact .inl rfl | exact .inr rfl | assumption) :
  PS X (.AugAssign (.Name x pos') op e pos) (c1V i te ti):=by
 intro pins s σ H D I h
 obtain⟨v,e1,h⟩:=h
 obtain⟨m,hn,hl⟩:=I.loc
 have vis:Vis X.env.scope x:=by rcases hx with k | k;exact .inl k;exact .inr (.inl k)
 obtain⟨u,r,l⟩:=hl i x v hi e1 vis
 refine wpAny_AugAssign_Name ?_
 have go:wpAny (model X.prog X.w) X.A (eval e X.env) (fun w s₂=>wpAny (model X.prog X.w) X.A (inplaceOp op u w) (fun r s₃=>wpAny (model X.prog X.w) X.A (storeName X.env x r) (fun _=>SP X pins D .next) X.xe s₃) X.xe s₂) X.xe s:=by
  refine thn (he pins s σ H _ I h) fun w s1 ⟨y,H1,I1,r1,q1⟩=>?_
  refine thn (ho pins s1 σ H1 v y u w _ I1 r r1 q1) fun z s2 ⟨zv,H2,I2,r2,q2⟩=>?_
  exact a7T I2 hN hi hx r2 (fun s3 I3=>⟨_,H2,I3,q2⟩) hf
 rcases l with ⟨hk,hm⟩ | ⟨hk,c,hc,hcell⟩
 ·exact d0V I.ok.kind hk hn hm go
 ·rcases hk with hk | hk
  ·exact d0Y I.ok.kind hk hc hcell go
  ·rcases hx with k | k
   ·have:X.env.scope.names.lookup x=some .free:=hk
    rw[k]at this;cases this
   ·have:X.env.scope.names.lookup x=some .free:=hk
    rw[k]at this;cases this
def b8w(to ti te:TE)(tget:V->V->Hp->VK->Prop)(tip:TIp)(tset:b2t):TS:=fun D σ H=>to σ H fun o H1=>ti σ H1 fun i H2=>tget o i H2 fun x H3=>te σ H3 fun y H4=>tip x y H4 fun z H5=>tset o i z H5 fun H6=>D.nx σ H6
def c9d(X:Cx)(t:V->V->Hp->VK->Prop):Prop:=
 ∀(pins:List (Addr×Obj)) (s:i8) (σ:St) (H:Hp) (o i:V) (ov iv:Value) (Q:VK),Inv X pins σ H s->K5 o ov->K5 i iv->t o i H Q ->
  wpAny (model X.prog X.w) X.A (b3t ov iv) (EP X pins σ Q) X.xe s
theorem c5c{o i:Expr}{to ti:TE}{tget:V->V->Hp->VK->Prop}{tip:TIp}{tset:b2t}{op:b1P}{tpos:Pos}(ho:PE X o to)(hi:PE X i ti)(hg:c9d X tget)(he:PE X e te)(hp:PIp X op tip)(hs:c4b X tset)
  (ha:∀ov iv new,augStore i ov iv new=(do a1A [new,ov,iv] (c7b ov iv new);release [new,ov,iv] [];pure .next):=by intros;rfl):PS X (.AugAssign (.Subscript o i tpos) op e pos) (b8w to ti te tget tip tset):=by
 intro pins s σ H D I h
 refine wpAny_AugAssign_SubscriptAny (thn (ho pins s σ H _ I h) fun ov s1 ⟨x1,H1,I1,r1,q1⟩=>?_) ha
 refine thn (hi pins s1 σ H1 _ I1 q1) fun iv s2 ⟨x2,H2,I2,r2,q2⟩=>?_
 refine thn (hg pins s2 σ H2 x1 x2 ov iv _ I2 r1 r2 q2) fun old s3 ⟨x3,H3,I3,r3,q3⟩=>?_
 refine thn (he pins s3 σ H3 _ I3 q3) fun v s4 ⟨x4,H4,I4,r4,q4⟩=>?_
 refine thn (hp pins s4 σ H4 x3 x4 old v _ I4 r3 r4 q4) fun new s5 ⟨x5,H5,I5,r5,q5⟩=>?_
 exact thn (hs pins s5 σ H5 x1 x2 x5 ov iv new _ I5 r1 r2 r5 q5) fun _ s6 ⟨H6,I6,q6⟩=>⟨σ,H6,I6,q6⟩
def ipI(f:Int->Int->Int):TIp:=fun x y H Q=>∃i j,x=.int i/\y=.int j/\Q (.int (f i j)) H
theorem c8V:PIp X .Add (ipI fun i j=>i+j):=by
 intro pins s σ H x y v u Q I r1 r2 h
 obtain⟨i,j,e1,e2,q⟩:=h
 subst e1;subst e2
 obtain⟨t,rfl⟩:=r1
 obtain⟨t',rfl⟩:=r2
 exact iadd_int ⟨.int _,H,I.tok _,⟨_,rfl⟩,q⟩
end
section
def a5K(c:TT)(tb:TS):TS:=fun D σ H=>∃W:Nat->St->Hp->Prop,(∃m,W m σ H)/\∀m σ H,W m σ H ->
 c σ H fun b H1=>if b=true then ∃N:St->Hp->Prop,(∀σ' H',N σ' H'->∃m',m'<m/\W m' σ' H')/\tb { D with nx:=N,ct:=N,bk:=D.nx } σ H1 else D.nx σ H1
theorem c2N{body:List Stmt}{tc:TT}(hp:c9A (model X.prog X.w) X.A X.env X.xe)(hc:PT X c tc)(hb:PSs X body tb):PS X (.While c body [] pos) (a5K tc tb):=by
 intro pins s σ H D I h
 obtain⟨W,⟨m0,w0⟩,turn⟩:=h
 refine wpAny_While (codeAny_whileLoop (fun n s'=>∃σ' H',Inv X pins σ' H' s'/\W n σ' H') ?_ m0 ⟨σ,H,I,w0⟩)
 rintro n s1 ⟨σ1,H1,I1,w1⟩
 refine a1y hp (thn (hc pins s1 σ1 H1 _ I1 (turn n σ1 H1 w1)) fun b s2 ⟨H2,I2,q2⟩=>?_)
 cases b with
 | true=>
  obtain⟨N,hN,q2⟩:=q2
  rw[if_pos rfl]
  refine a1y hp (thn (hb pins s2 σ1 H2 _ I2 q2) fun f s3 q3=>?_)
  cases f with
  | next=>
   obtain⟨σ3,H3,I3,n3⟩:=q3
   obtain⟨m',hm,w3⟩:=hN σ3 H3 n3
   exact⟨m',hm,σ3,H3,I3,w3⟩
  | cont=>
   obtain⟨σ3,H3,I3,n3⟩:=q3
   obtain⟨m',hm,w3⟩:=hN σ3 H3 n3
   exact⟨m',hm,σ3,H3,I3,w3⟩
  | brk=>exact q3
  | ret v=>exact q3
 | false=>
  rw[if_neg w6]
  exact b0l ⟨σ1,H2,I2,q2⟩
end
structure It where
 go:Nat->Hp->Prop
 yld:Nat->Hp->V->Hp->Prop
 stop:Nat->Hp->Prop
def a6D(X:Cx)(pins:List (Addr×Obj))(H:Hp)(b:Addr):Prop:=
 H b=none/\b≠X.env.locals/\b∉X.fs/\(b∈X.ex\/X.s₀.heap.objs.size<=b)/\(∀x c,X.env.cells.lookup x=some c->c≠b)/\∀p∈X.pn++pins,p.1≠b
theorem Inv.fpOk(I:Inv X pins σ H s)(hb:s.heap.objs.size<=b)(hn:H' b=none):a6D X pins H' b:=by
 refine⟨hn,b1M (D7 I.lt hb),I.nofs hb,.inr (J5 I.sz hb),fun x c e z=>?_,fun p hp z=>?_⟩
 ·obtain⟨v,q⟩:=I.cell x c e
  exact absurd (D7 q.lt (by rw[z];exact hb)) (N9 _)
 ·exact absurd (D7 (j5 (I.pin p hp).1) (by rw[z];exact hb)) (N9 _)
structure b4C(P:C9)(w:World)(K:Fg)(tg:Expr)(J:It)(fp:List Addr)(it:Addr)(tn:Nat->Heap->Prop):Prop where
 mem:it∈fp
 obj:∀i h,tn i h->∀b∈fp,∃o,h.get? b=some o/\∀v,o.data≠.cell v
 keep:∀i h h',tn i h->(∀b∈fp,∀o,h.get? b=some o->h'.get? b=some o)->tn i h'
 item:∀(X:Cx),X.prog=P->X.w=w->X.K=K->X.calm=true->∀(i:Nat) (pins:List (Addr×Obj)) (s:i8) (σ:St) (H:Hp) (E:Value->i8->Prop),Inv X pins σ H s->(∀b∈fp,a6D X pins H b)->tn i s.heap->J.go i H ->
  wpAny (model P w) X.A (a4e (.ref it)) (fun r s1=>∃u,r=some u /\
   wpAny (model P w) X.A (a5A tg (.ref it) u) (fun _ s2=>∃x H',Inv X pins σ H' s2/\K5 x u/\J.yld i H x H'/\tn (i+1) s2.heap/\∀b∈fp,H' b=none) E s1) E s
 done:∀(X:Cx),X.prog=P->X.w=w->X.K=K->X.calm=true->∀(i:Nat) (pins:List (Addr×Obj)) (s:i8) (σ:St) (H:Hp) (E:Value->i8->Prop),Inv X pins σ H s->(∀b∈fp,a6D X pins H b)->tn i s.heap->J.stop i H ->
  wpAny (model P w) X.A (a4e (.ref it)) (fun r s1=>r=none/\Inv X pins σ H s1) E s
 self:∀(A:O0) (i:Nat) (s:i8) (Q:Value->i8->Prop) (E:Value->i8->Prop),tn i s.heap->Q (.ref it) s->wpAny (model P w) A (pyIter (.ref it)) Q E s
abbrev TI:=St->Hp->(It->Hp->Prop)->Prop
def PIE(X:Cx)(pins:List (Addr×Obj))(σ:St)(tg:Expr)(R:It->Hp->Prop)(itv:Value)(s2:i8):Prop:=
 ∃(it:Addr) (fp:List Addr) (tn:Nat->Heap->Prop) (J:It) (H':Hp),itv=.ref it/\Inv X pins σ H' s2/\b4C X.prog X.w X.K tg J fp it tn/\tn 0 s2.heap/\(∀b∈fp,a6D X pins H' b)/\R J H'
def PI(X:Cx)(tg iter:Expr)(wi:TI):Prop:=
 ∀(pins:List (Addr×Obj)) (s:i8) (σ:St) (H:Hp) (R:It->Hp->Prop),Inv X pins σ H s->wi σ H R ->
  wpAny (model X.prog X.w) X.A (eval iter X.env) (fun v s1=>wpAny (model X.prog X.w) X.A (pyIter v) (PIE X pins σ tg R) X.xe s1) X.xe s
theorem b8O{M:Model}{A:O0}{E:Value->i8->Prop}{it:Addr}{o:Obj}{n:String}{vs:Array Value}{Q:Unit->i8->Prop}(ho:s.heap.get? it=some o)(hc:o.cls=.type n)(hd:o.data=.fields vs)
  (hn:["enumerate","zip","dict_itemiterator","dict_reverseitemiterator","odict_iterator","itertools.zip_longest","itertools.pairwise"].contains n=false) (hQ:Q () s):wpAny M A (a5A tg (.ref it) u) Q E s:=by
 unfold a5A
 cases tg <;> first
  | exact d7 hQ
  | (cases u <;> first
    | exact d7 hQ
    | (refine b6 (wpAny_load ho ?_)
       rw[hc,hd]
       show wpAny M A (if(["enumerate","zip","dict_itemiterator","dict_reverseitemiterator","odict_iterator","itertools.zip_longest","itertools.pairwise"].contains n&&vs[0]? == some (rawInt _))=true then _ else _) Q E s
       rw[if_neg (by intro h;rw[hn,Bool.false_and]at h;cases h)]
       exact d7 hQ))
def Itl(K:Fg)(a:Addr):It:=
 ⟨fun i H=>∃xs x,SqL K H a xs/\xs[i]? = some x,fun i H x H'=>H'=H/\∀xs,SqL K H a xs->xs[i]? = some x,fun i H=>∃xs,SqL K H a xs/\xs.length<=i⟩
def Itt(K:Fg)(a:Addr):It:=
 ⟨fun i H=>∃xs x,SqT K H a xs/\xs[i]? = some x,fun i H x H'=>H'=H/\∀xs,SqT K H a xs->xs[i]? = some x,fun i H=>∃xs,SqT K H a xs/\xs.length<=i⟩
def Itr(lo:Int)(n:Nat):It:=⟨fun i _=>i<n,fun i H x H'=>H'=H/\x=.int (lo+i),fun i _=>n<=i⟩
theorem b9x{P:C9}{K:Fg}(a it:Addr):b4C P w K tg (Itl K a) [it] it (fun i h=>h.IsListIter it a i) where
 mem:=by simp
 obj:=fun i h st b hb=>by
  have e:b=it:=by simpa using hb
  subst e
  obtain⟨o,e,c,d⟩:=st
  exact⟨o,e,fun v z=>by rw[d]at z;cases z⟩
 keep:=fun i h h' st k=>st.at fun o e=>k it (by simp) o e
 item:=by
  intro X hP hw hK hc i pins s σ H E I hf st hg
  subst hP hw hK
  obtain⟨xs,x,hq,hx⟩:=hg
  obtain⟨its,rv,p,hz⟩:=I.list hq
  obtain⟨u,hu,ru⟩:=rv.get hx
  obtain⟨f0,f1,f2,f3,f4,f5⟩:=hf it (by simp)
  refine c9p st p.isList (x:=u) (by simpa using hu) fun h' st' sb=>?_
  have I1:Inv X pins σ H { s with heap:=h' }:=I.turned (t':=s.toks) (fun b o hb e=>(sb.2 b hb).trans e) f0 f1 f3 f4 f5
  obtain⟨o,e,c,d⟩:=id st'
  exact⟨u,rfl,b8O (s:={ s with heap:=h' }) e c d (by decide) ⟨x,H,I1,ru,⟨rfl,fun ys hy=>by rw[I.list_inj hy hq];exact hx⟩,st',fun b hb=>(hf b hb).1⟩⟩
 done:=by
  intro X hP hw hK hc i pins s σ H E I hf st hg
  subst hP hw hK
  obtain⟨xs,hq,hx⟩:=hg
  obtain⟨its,rv,p,hz⟩:=I.list hq
  obtain⟨f0,f1,f2,f3,f4,f5⟩:=hf it (by simp)
  have hl:=rv.length
  exact c9t (I.ok.hd hc) st p.isList (by simp;omega) fun h' eb=>⟨rfl,I.turned (t':=s.toks) (fun b o hb e=>eb b o hb e) f0 f1 f3 f4 f5⟩
 self:=fun _ _ _ _ _ st h=>wpAny_pyIter_listiter st h
theorem b6P{P:C9}{K:Fg}(a it:Addr):b4C P w K tg (Itt K a) [it] it (fun i h=>h.IsTupleIter it a i) where
 mem:=by simp
 obj:=fun i h st b hb=>by
  have e:b=it:=by simpa using hb
  subst e
  obtain⟨o,e,c,d⟩:=st
  exact⟨o,e,fun v z=>by rw[d]at z;cases z⟩
 keep:=fun i h h' st k=>st.at fun o e=>k it (by simp) o e
 item:=by
  intro X hP hw hK hc i pins s σ H E I hf st hg
  subst hP hw hK
  obtain⟨xs,x,hq,hx⟩:=hg
  obtain⟨its,rv,p,hz⟩:=I.tuple hq
  obtain⟨u,hu,ru⟩:=rv.get hx
  obtain⟨f0,f1,f2,f3,f4,f5⟩:=hf it (by simp)
  refine wpAny_pyNext_tuple_item st (show s.heap.IsTuple a its.toArray from p) (x:=u) (by simpa using hu) fun h' st' sb=>?_
  have I1:Inv X pins σ H { s with heap:=h' }:=I.turned (t':=s.toks) (fun b o hb e=>(sb.2 b hb).trans e) f0 f1 f3 f4 f5
  obtain⟨o,e,c,d⟩:=id st'
  exact⟨u,rfl,b8O (s:={ s with heap:=h' }) e c d (by decide) ⟨x,H,I1,ru,⟨rfl,fun ys hy=>by rw[I.tuple_inj hy hq];exact hx⟩,st',fun b hb=>(hf b hb).1⟩⟩
 done:=by
  intro X hP hw hK hc i pins s σ H E I hf st hg
  subst hP hw hK
  obtain⟨xs,hq,hx⟩:=hg
  obtain⟨its,rv,p,hz⟩:=I.tuple hq
  obtain⟨f0,f1,f2,f3,f4,f5⟩:=hf it (by simp)
  have hl:=rv.length
  exact wpAny_pyNext_tuple_end (I.ok.hd hc) st (show s.heap.IsTuple a its.toArray from p) (by simp;omega) fun h' eb=>⟨rfl,I.turned (t':=s.toks) (fun b o hb e=>eb b o hb e) f0 f1 f3 f4 f5⟩
 self:=fun _ _ _ _ _ st h=>wpAny_pyIter_tupleiter st h
theorem b6Q{P:C9}{K:Fg}(it:Addr)(lo:Int)(n:Nat):b4C P w K tg (Itr lo n) [it] it (fun i h=>IsRangeIter h it (lo+(i:Nat) * 1) ((n:Int) - (i:Nat)) 1) where
 mem:=by simp
 obj:=fun i h st b hb=>by
  have e:b=it:=by simpa using hb
  subst e
  exact⟨_,st,fun v z=>by
   have z':Data.fields _=Data.cell v:=z
   cases z'⟩
 keep:=fun i h h' st k=>k it (by simp) _ st
 item:=by
  intro X hP hw hK hc i pins s σ H E I hf st hg
  subst hP hw hK
  obtain⟨f0,f1,f2,f3,f4,f5⟩:=hf it (by simp)
  have W:=Walks.range (prog:=X.prog) (w:=X.w) (I.ok.hd hc) it lo 1 n
  refine W.item i s _ _ hg st fun v h' tk hv st' kk=>?_
  obtain⟨t,rfl⟩:=hv
  have I1:Inv X pins σ H { s with heap:=h',toks:=tk }:=I.turned (fun b o hb e=>kk b o (by simpa using hb) e) f0 f1 f3 f4 f5
  refine⟨_,rfl,b8O (s:={ s with heap:=h',toks:=tk }) (n := "range_iterator") st' rfl rfl (by decide) ⟨.int (lo+i),H,I1,⟨t,?_⟩,⟨rfl,rfl⟩,st',fun b hb=>(hf b hb).1⟩⟩
  rw[Int.mul_one]
 done:=by
  intro X hP hw hK hc i pins s σ H E I hf st hg
  subst hP hw hK
  obtain⟨f0,f1,f2,f3,f4,f5⟩:=hf it (by simp)
  exact wpAny_pyNext_range_end (I.ok.hd hc) st (by have:n<=i:=hg;omega) fun h' eb=>⟨rfl,I.turned (t':=s.toks) (fun b o hb e=>eb b o hb e) f0 f1 f3 f4 f5⟩
 self:=fun _ _ _ _ _ st h=>wpAny_pyIter_rangeiter st h
section
def X0(K:Fg)(tl:TE):TI:=fun σ H R=>tl σ H fun x H1=>∃a,x=.ref a/\(∃xs,SqL K H1 a xs)/\R (Itl K a) H1
def c6b(K:Fg)(tl:TE):TI:=fun σ H R=>tl σ H fun x H1=>∃a,x=.ref a/\(∃xs,SqT K H1 a xs)/\R (Itt K a) H1
theorem c5g{l:Expr}{tl:TE}(hl:PE X l tl):PI X tg l (X0 X.K tl):=by
 intro pins s σ H R I h
 refine thn (hl pins s σ H _ I h) fun v s1 ⟨x,H1,I1,r1,q1⟩=>?_
 obtain⟨a,e,⟨xs,hq⟩,q⟩:=q1
 subst e
 cases r1
 obtain⟨its,rv,p,hz⟩:=I1.list hq
 refine a3O p.isList ?_
 refine⟨s1.heap.objs.size,[s1.heap.objs.size],_,_,H1,rfl,I1.kept (t':=s1.toks) fun b o e=>d5 _ e,b9x a _,⟨_,l7 _ rfl,rfl,rfl⟩,fun b hb=>?_,q⟩
 have e:b=s1.heap.objs.size:=by simpa using hb
 subst e
 exact I1.fpOk (j6 _) (I1.hok.fresh (j6 _))
theorem c7Z{l:Expr}{tl:TE}(hl:PE X l tl):PI X tg l (c6b X.K tl):=by
 intro pins s σ H R I h
 refine thn (hl pins s σ H _ I h) fun v s1 ⟨x,H1,I1,r1,q1⟩=>?_
 obtain⟨a,e,⟨xs,hq⟩,q⟩:=q1
 subst e
 cases r1
 obtain⟨its,rv,p,hz⟩:=I1.tuple hq
 refine wpAny_pyIter_tuple (show s1.heap.IsTuple a its.toArray from p) ?_
 refine⟨s1.heap.objs.size,[s1.heap.objs.size],_,_,H1,rfl,I1.kept (t':=s1.toks) fun b o e=>d5 _ e,b6P a _,⟨_,l7 _ rfl,rfl,rfl⟩,fun b hb=>?_,q⟩
 have e:b=s1.heap.objs.size:=by simpa using hb
 subst e
 exact I1.fpOk (j6 _) (I1.hok.fresh (j6 _))
theorem b5y{R:It->Hp->Prop}{E:Value->i8->Prop}{lo hi:Int}{t u v:Tok}{tk:Nat}(I:Inv X pins σ H s)(h1 : -(2 ^ 62)<=lo)(h2:lo<2 ^ 62)(h3 : -(2 ^ 62)<=hi)(h4:hi<2 ^ 62)
  (q:R (Itr lo (hi - lo).toNat) H):wpAny (model X.prog X.w) X.A (pyIter (.ref s.heap.objs.size)) (PIE X pins σ tg R) E { s with heap:=s.heap.push { cls:=.type "range",data:=.fields #[.int lo t,.int hi u,.int 1 v] },toks:=tk }:=by
 refine wpAny_pyIter_range (IsRange.new ..) (small_one h1 h2 h3 h4) ?_
 have I1:Inv X pins σ H { s with heap:=s.heap.push { cls:=.type "range",data:=.fields #[.int lo t,.int hi u,.int 1 v] },toks:=tk }:=I.kept fun b o e=>d5 _ e
 refine⟨(s.heap.push { cls:=.type "range",data:=.fields #[.int lo t,.int hi u,.int 1 v] }).objs.size,[(s.heap.push { cls:=.type "range",data:=.fields #[.int lo t,.int hi u,.int 1 v] }).objs.size],_,_,H,rfl,
  I1.kept (t':=tk) fun b o e=>d5 _ e,b6Q _ lo (hi - lo).toNat,?_,fun b hb=>?_,q⟩
 ·have e1:lo+((0:Nat):Int) * 1=lo:=by simp
  have e2:(((hi - lo).toNat:Nat):Int) - ((0:Nat):Int)=Builtin.Range.rangeSize lo hi 1:=by rw[rangeSize_one];split <;> omega
  show IsRangeIter _ _ (lo+((0:Nat):Int) * 1) ((((hi - lo).toNat:Nat):Int) - ((0:Nat):Int)) 1
  rw[e1,e2]
  exact l7 _ rfl
 ·have e:b=(s.heap.push { cls:=.type "range",data:=.fields #[.int lo t,.int hi u,.int 1 v] }).objs.size:=by simpa using hb
  subst e
  exact I1.fpOk (j6 _) (I1.hok.fresh (j6 _))
def a2L(ta:TA):TI:=fun σ H R=>ta σ H fun vs H1=>∃j:Int,vs=[.int j] /\ -(2 ^ 62)<=j/\j<2 ^ 62/\R (Itr 0 j.toNat) H1
def b8N(ta:TA):TI:=fun σ H R=>ta σ H fun vs H1=>∃i j:Int,vs=[.int i,.int j]/\(-(2 ^ 62)<=i/\i<2 ^ 62 /\ -(2 ^ 62)<=j/\j<2 ^ 62)/\R (Itr i (j - i).toNat) H1
theorem c0a{a:Expr}{ta:TA}(hg:Gl X "range")(hm:X.mg "range" = none)(ha:PA X [a] ta)(hs:j9 [a] X.env=[(false,eval a X.env)]:=by rfl):PI X tg (.Call (.Name "range" p) [a] [] pos) (a2L ta):=by
 intro pins s σ H R I h
 refine Call_ (a5a I hg hm boot_range (Q6 (thn (ha pos pins s σ H _ I h) fun us s1 ⟨vs,H1,I1,r1,q1⟩=>?_) hs rfl))
 obtain⟨j,e,q1,q2,q⟩:=q1
 subst e
 cases r1 with
 | cons r rr=>
  cases rr
  obtain⟨t,rfl⟩:=r
  exact call_range_1 (b5y I1 (by omega) (by omega) q1 q2 (by simpa using q))
theorem b9Z{a b:Expr}{ta:TA}(hg:Gl X "range")(hm:X.mg "range" = none)(ha:PA X [a,b] ta)(hs:j9 [a,b] X.env=[(false,eval a X.env),(false,eval b X.env)]:=by rfl)(hs2:j9 [b] X.env=[(false,eval b X.env)]:=by rfl) :
  PI X tg (.Call (.Name "range" p) [a,b] [] pos) (b8N ta):=by
 intro pins s σ H R I h
 refine Call_ (a5a I hg hm boot_range (Q6 (thn (ha pos pins s σ H _ I h) fun us s1 ⟨vs,H1,I1,r1,q1⟩=>?_) (by rw[hs,hs2]) (by rw[hs2];rfl)))
 obtain⟨i,j,e,⟨q1,q2,q3,q4⟩,q⟩:=q1
 subst e
 cases r1 with
 | cons r rr=>
  cases rr with
  | cons r' rr=>
   cases rr
   obtain⟨t,rfl⟩:=r
   obtain⟨t',rfl⟩:=r'
   exact call_range_2 (b5y I1 q1 q2 q3 q4 q)
def a1T(wi:TI)(g:TG)(tb:TS):TS:=fun D σ H=>wi σ H fun J H1=>∃W:Nat->Nat->St->Hp->Prop,(∃m,W 0 m σ H1)/\∀i m σ H,W i m σ H ->
 (J.stop i H/\D.nx σ H)\/(J.go i H/\∃N:St->Hp->Prop,(∀σ' H',N σ' H'->∃m',m'<m/\W (i+1) m' σ' H')/\∀x H',J.yld i H x H'->g x σ H' fun σ2 H2=>tb { D with nx:=N,ct:=N,bk:=D.nx } σ2 H2)
def a7i(fp:List Addr)(h:Heap):List (Addr×Obj):=fp.filterMap fun b=>(h.get? b).map fun o=>(b,o)
theorem a2d{fp:List Addr}{o:Obj}(hb:b∈fp)(e:h.get? b=some o):(b,o)∈a7i fp h:=c4o.mpr ⟨b,hb,by rw[e];rfl⟩
theorem c0p{fp:List Addr}{p:Addr×Obj}(hp:p∈a7i fp h):p.1∈fp/\h.get? p.1=some p.2:=by
 obtain⟨b,hb,e⟩:=c4o.mp hp
 cases q:h.get? b with
 | none=>rw[q]at e;cases e
 | some o=>
  rw[q]at e
  have e':(b,o)=p:=Option.some.inj e
  subst e'
  exact⟨hb,q⟩
theorem Inv.pinned{fp:List Addr}(I:Inv X pins σ H s)(hf:∀b∈fp,a6D X pins H b)(ho:∀b∈fp,∃o,s.heap.get? b=some o/\∀v,o.data≠.cell v):Inv X (pins++a7i fp s.heap) σ H s:=
 I.pins_of fun p hp=>(t5.mp hp).elim (fun z=>I.pin p (A6 _ z)) fun z=>by
  obtain⟨hb,e⟩:=c0p z
  obtain⟨f0,f1,f2,_⟩:=hf p.1 hb
  obtain⟨o,e',d⟩:=ho p.1 hb
  rw[e]at e';cases e'
  exact⟨e,f0,f1,f2,d⟩
theorem Inv.unpinned{pl:List (Addr×Obj)}(I:Inv X (pins++pl) σ H s):Inv X pins σ H s:=I.pins_of fun p hp=>I.pin p (A6 _ (D8 _ hp))
theorem c7U{iter:Expr}{body:List Stmt}{wi:TI}(hp:c9A (model X.prog X.w) X.A X.env X.xe)(hc:X.calm=true)(hi:PI X tg iter wi)(hg:PG X tg g)(hb:PSs X body tb)
  (hs:∀x,a0n iter X.env x=pure x:=by intro _;rfl):PS X (.For tg iter body [] pos) (a1T wi g tb):=by
 intro pins s σ H D I h
 refine wpAny_For (thn (hi pins s σ H _ I h) fun v s1 h1=>thn h1 fun itv s2 h2=>?_) hs
 obtain⟨it,fp,tn,J,H2,e,I2,T,st2,f2,W,⟨m0,w0⟩,turn⟩:=h2
 subst e
 have stat:∀ {H':Hp},(∀b∈fp,H' b=none)->∀b∈fp,a6D X pins H' b:=fun hn b hb=>⟨hn b hb,(f2 b hb).2⟩
 refine codeAny_forLoop_any (fun n s'=>∃i σ' H',Inv X pins σ' H' s'/\tn i s'.heap/\(∀b∈fp,H' b=none)/\W i n σ' H') ?_ m0 ⟨0,σ,H2,I2,st2,fun b hb=>(f2 b hb).1,w0⟩
 rintro n s3 ⟨i,σ3,H3,I3,st3,fr3,w3⟩
 rcases turn i n σ3 H3 w3 with ⟨stop,qn⟩ | ⟨go,N,hN,step⟩
 ·refine a1y hp (thn (T.done X rfl rfl rfl hc i pins s3 σ3 H3 X.xe I3 (stat fr3) st3 stop) fun r s4 ⟨hr,I4⟩=>?_)
  subst hr
  exact b0l ⟨σ3,H3,I4,qn⟩
 ·refine a1y hp (thn (T.item X rfl rfl rfl hc i pins s3 σ3 H3 X.xe I3 (stat fr3) st3 go) fun r s4 ⟨u,hr,h4⟩=>?_)
  subst hr
  refine a1y hp (thn h4 fun _ s5 ⟨x,H5,I5,r5,y5,st5,fr5⟩=>?_)
  have I5':=I5.pinned (stat fr5) (T.obj _ _ st5)
  refine a1y hp (thn (hg _ s5 σ3 H5 x u _ I5' r5 (step x H5 y5)) fun _ s6 ⟨σ6,H6,I6,q6⟩=>?_)
  refine a1y hp (thn (hb _ s6 σ6 H6 _ I6 q6) fun f s7 q7=>?_)
  have again:∀ {σ7:St} {H7:Hp},Inv X (pins++a7i fp s5.heap) σ7 H7 s7->N σ7 H7->∃m,m<n/\∃i σ' H',Inv X pins σ' H' s7/\tn i s7.heap/\(∀b∈fp,H' b=none)/\W i m σ' H':=fun {σ7 H7} I7 n7=>by
   obtain⟨m',hm,w7⟩:=hN σ7 H7 n7
   refine⟨m',hm,i+1,σ7,H7,I7.unpinned,T.keep _ _ _ st5 fun b hb o e=>(I7.pin (b,o) (A6 _ (A6 _ (a2d hb e)))).1,fun b hb=>?_,w7⟩
   obtain⟨o,e,d⟩:=T.obj _ _ st5 b hb
   exact(I7.pin (b,o) (A6 _ (A6 _ (a2d hb e)))).2.1
  cases f with
  | next=>obtain⟨σ7,H7,I7,n7⟩:=q7;exact again I7 n7
  | cont=>obtain⟨σ7,H7,I7,n7⟩:=q7;exact again I7 n7
  | brk=>obtain⟨σ7,H7,I7,q7⟩:=q7;exact⟨σ7,H7,I7.unpinned,q7⟩
  | ret v=>obtain⟨x7,σ7,H7,I7,r7,q7⟩:=q7;exact⟨x7,σ7,H7,I7.unpinned,r7,q7⟩
end
theorem a0Q{K:Fg}(Pv:Nat->St->Hp->Prop)(h0:Pv 0 σ H)(hl:∀i σ H,i<=xs.length->Pv i σ H->SqL K H a xs)
  (hs:∀i x σ H,xs[i]? = some x->Pv i σ H->g x σ H fun σ2 H2=>tb { D with nx:=Pv (i+1),ct:=Pv (i+1),bk:=D.nx } σ2 H2) (hd:∀σ H,Pv xs.length σ H->D.nx σ H) :
  ∃W:Nat->Nat->St->Hp->Prop,(∃m,W 0 m σ H)/\∀i m σ H,W i m σ H ->
   ((Itl K a).stop i H/\D.nx σ H)\/((Itl K a).go i H/\∃N:St->Hp->Prop,(∀σ' H',N σ' H'->∃m',m'<m/\W (i+1) m' σ' H')/\∀x H',(Itl K a).yld i H x H'->g x σ H' fun σ2 H2=>tb { D with nx:=N,ct:=N,bk:=D.nx } σ2 H2):=by
 refine⟨fun i m σ H=>m=xs.length - i/\i<=xs.length/\Pv i σ H,⟨xs.length,by simp,L6 _,h0⟩,?_⟩
 rintro i m σ H ⟨rfl,hi,p⟩
 have q:=hl i σ H hi p
 by_cases hlt:i<xs.length
 ·refine .inr ⟨⟨xs,xs[i],q,by simp[hlt]⟩,Pv (i+1),fun σ' H' p'=>⟨xs.length - (i+1),by omega,rfl,hlt,p'⟩,fun x H' y=>?_⟩
  obtain⟨e,y⟩:=y
  subst e
  exact hs i x σ _ (y xs q) p
 ·have e:i=xs.length:=by omega
  subst e
  exact .inl ⟨⟨xs,q,j6 _⟩,hd σ H p⟩
theorem c6h{K:Fg}(Pv:Nat->St->Hp->Prop)(h0:Pv 0 σ H)(hl:∀i σ H,i<=xs.length->Pv i σ H->SqT K H a xs)
  (hs:∀i x σ H,xs[i]? = some x->Pv i σ H->g x σ H fun σ2 H2=>tb { D with nx:=Pv (i+1),ct:=Pv (i+1),bk:=D.nx } σ2 H2) (hd:∀σ H,Pv xs.length σ H->D.nx σ H) :
  ∃W:Nat->Nat->St->Hp->Prop,(∃m,W 0 m σ H)/\∀i m σ H,W i m σ H ->
   ((Itt K a).stop i H/\D.nx σ H)\/((Itt K a).go i H/\∃N:St->Hp->Prop,(∀σ' H',N σ' H'->∃m',m'<m/\W (i+1) m' σ' H')/\∀x H',(Itt K a).yld i H x H'->g x σ H' fun σ2 H2=>tb { D with nx:=N,ct:=N,bk:=D.nx } σ2 H2):=by
 refine⟨fun i m σ H=>m=xs.length - i/\i<=xs.length/\Pv i σ H,⟨xs.length,by simp,L6 _,h0⟩,?_⟩
 rintro i m σ H ⟨rfl,hi,p⟩
 have q:=hl i σ H hi p
 by_cases hlt:i<xs.length
 ·refine .inr ⟨⟨xs,xs[i],q,by simp[hlt]⟩,Pv (i+1),fun σ' H' p'=>⟨xs.length - (i+1),by omega,rfl,hlt,p'⟩,fun x H' y=>?_⟩
  obtain⟨e,y⟩:=y
  subst e
  exact hs i x σ _ (y xs q) p
 ·have e:i=xs.length:=by omega
  subst e
  exact .inl ⟨⟨xs,q,j6 _⟩,hd σ H p⟩
theorem a1v{lo:Int}{n:Nat}(Pv:Nat->St->Hp->Prop)(h0:Pv 0 σ H)
  (hs:∀i σ H,i<n->Pv i σ H->g (.int (lo+i)) σ H fun σ2 H2=>tb { D with nx:=Pv (i+1),ct:=Pv (i+1),bk:=D.nx } σ2 H2) (hd:∀σ H,Pv n σ H->D.nx σ H) :
  ∃W:Nat->Nat->St->Hp->Prop,(∃m,W 0 m σ H)/\∀i m σ H,W i m σ H ->
   ((Itr lo n).stop i H/\D.nx σ H)\/((Itr lo n).go i H/\∃N:St->Hp->Prop,(∀σ' H',N σ' H'->∃m',m'<m/\W (i+1) m' σ' H')/\∀x H',(Itr lo n).yld i H x H'->g x σ H' fun σ2 H2=>tb { D with nx:=N,ct:=N,bk:=D.nx } σ2 H2):=by
 refine⟨fun i m σ H=>m=n - i/\i<=n/\Pv i σ H,⟨n,by simp,L6 _,h0⟩,?_⟩
 rintro i m σ H ⟨rfl,hi,p⟩
 by_cases hlt:i<n
 ·refine .inr ⟨hlt,Pv (i+1),fun σ' H' p'=>⟨n - (i+1),by omega,rfl,hlt,p'⟩,fun x H' y=>?_⟩
  obtain⟨e,y⟩:=y
  subst e y
  exact hs i σ _ hlt p
 ·have e:i=n:=by omega
  subst e
  exact .inl ⟨j6 _,hd σ H p⟩
abbrev R2:=V->V->Hp->VK->Prop
variable{r:R2}
def OpR(X:Cx)(f:Value->Value->Sem Value)(r:R2):Prop:=
 ∀(pins:List (Addr×Obj)) (s:i8) (σ:St) (H:Hp) (x y:V) (v u:Value) (Q:VK),Inv X pins σ H s->K5 x v->K5 y u->r x y H Q ->
  wpAny (model X.prog X.w) X.A (f v u) (EP X pins σ Q) X.xe s
def UnR(X:Cx)(f:Value->Sem Value)(r:V->Hp->VK->Prop):Prop:=
 ∀(pins:List (Addr×Obj)) (s:i8) (σ:St) (H:Hp) (x:V) (v:Value) (Q:VK),Inv X pins σ H s->K5 x v->r x H Q ->
  wpAny (model X.prog X.w) X.A (f v) (EP X pins σ Q) X.xe s
def a0k(X:Cx)(f:Value)(r:List V->Hp->VK->Prop):Prop:=
 ∀(pins:List (Addr×Obj)) (s:i8) (σ:St) (H:Hp) (xs:List V) (us:List Value) (Q:VK),Inv X pins σ H s->L5 xs us->r xs H Q ->
  wpAny (model X.prog X.w) X.A (call f us) (EP X pins σ Q) X.xe s
def tOp(r:R2)(ta tb:TE):TE:=fun σ H Q=>ta σ H fun x H1=>tb σ H1 fun y H2=>r x y H2 Q
def tUn(r:V->Hp->VK->Prop)(ta:TE):TE:=fun σ H Q=>ta σ H fun x H1=>r x H1 Q
def rI(C:Int->Int->Prop)(g:Int->Int->V):R2:=fun x y H Q=>∃i j,x=.int i/\y=.int j/\C i j/\Q (g i j) H
def rI0(g:Int->Int->V):R2:=fun x y H Q=>∃i j,x=.int i/\y=.int j/\Q (g i j) H
def rU(g:Int->V):V->Hp->VK->Prop:=fun x H Q=>∃i,x=.int i/\Q (g i) H
section
variable {a b:Expr}{tb tc:TE}
theorem c8Y(ha:PE X a ta)(hb:PE X b tb){R:V->V->Hp->Prop}(I:Inv X pins σ H s)
  (h:ta σ H fun x H1=>tb σ H1 fun y H2=>R x y H2) {Q:Value->i8->Prop} {f:Value->Value->Sem Value}
  (hf:∀v u s2 x y H2,Inv X pins σ H2 s2->K5 x v->K5 y u->R x y H2->wpAny (model X.prog X.w) X.A (f v u) Q X.xe s2) :
  wpAny (model X.prog X.w) X.A (eval a X.env) (fun v s₁=>wpAny (model X.prog X.w) X.A (eval b X.env) (fun u s₂=>wpAny (model X.prog X.w) X.A (f v u) Q X.xe s₂) X.xe s₁) X.xe s:=by
 refine thn (ha pins s σ H _ I h) fun v s1 ⟨x,H1,I1,r1,q1⟩=>?_
 refine thn (hb pins s1 σ H1 _ I1 q1) fun u s2 ⟨y,H2,I2,r2,q2⟩=>?_
 exact hf v u s2 x y H2 I2 r1 r2 q2
theorem d0k{op:b1P}(ho:OpR X (a0i op) r)(ha:PE X a ta)(hb:PE X b tb):PE X (.BinOp a op b pos) (tOp r ta tb):=by
 intro pins s σ H Q I h
 exact wpAny_BinOp (c8Y ha hb I h fun v u s2 x y H2 I2 rx ry q=>ho pins s2 σ H2 x y v u Q I2 rx ry q)
theorem d0h{op:UnaryOp}{r:V->Hp->VK->Prop}(ho:UnR X (unaryOp op) r)(ha:PE X a ta):PE X (.UnaryOp op a pos) (tUn r ta):=by
 intro pins s σ H Q I h
 exact UnaryOp_ (thn (ha pins s σ H _ I h) fun v s1 ⟨x,H1,I1,r1,q1⟩=>ho pins s1 σ H1 x v Q I1 r1 q1)
theorem opI{f:Value->Value->Sem Value}{C:Int->Int->Prop}{g:Int->Int->Int}
  (rule:∀(i j:Int) (t u:Tok) (s:i8) (Q:Value->i8->Prop) (E:Value->i8->Prop),C i j->Q (.int (g i j) s.toks) { s with toks:=s.toks+1 }->wpAny (model X.prog X.w) X.A (f (.int i t) (.int j u)) Q E s) :
  OpR X f (rI C fun i j=>.int (g i j)):=by
 intro pins s σ H x y v u Q I rx ry h
 obtain⟨i,j,rfl,rfl,hc,q⟩:=h
 obtain⟨t,rfl⟩:=rx
 obtain⟨t',rfl⟩:=ry
 exact rule i j t t' s _ _ hc ⟨.int (g i j),H,I.tok _,⟨_,rfl⟩,q⟩
theorem d0w{f:Value->Value->Sem Value}{g:Int->Int->Int}
  (rule:∀(i j:Int) (t u:Tok) (s:i8) (Q:Value->i8->Prop) (E:Value->i8->Prop),Q (.int (g i j) s.toks) { s with toks:=s.toks+1 }->wpAny (model X.prog X.w) X.A (f (.int i t) (.int j u)) Q E s) :
  OpR X f (rI0 fun i j=>.int (g i j)):=by
 intro pins s σ H x y v u Q I rx ry h
 obtain⟨i,j,rfl,rfl,q⟩:=h
 obtain⟨t,rfl⟩:=rx
 obtain⟨t',rfl⟩:=ry
 exact rule i j t t' s _ _ ⟨.int (g i j),H,I.tok _,⟨_,rfl⟩,q⟩
theorem c5G{f:Value->Value->Sem Value}{g:Int->Int->Bool}
  (rule:∀(i j:Int) (t u:Tok) (s:i8) (Q:Value->i8->Prop) (E:Value->i8->Prop),Q (.bool (g i j)) s->wpAny (model X.prog X.w) X.A (f (.int i t) (.int j u)) Q E s) :
  OpR X f (rI0 fun i j=>.bl (g i j)):=by
 intro pins s σ H x y v u Q I rx ry h
 obtain⟨i,j,rfl,rfl,q⟩:=h
 obtain⟨t,rfl⟩:=rx
 obtain⟨t',rfl⟩:=ry
 exact rule i j t t' s _ _ ⟨.bl (g i j),H,I,rfl,q⟩
def d0K(i j:Int):Prop:=0<=j/\j<=1000000/\i.natAbs<2 ^ 64
def c6z(i j:Int):Prop:=(-(2 ^ 64)<i/\i<2 ^ 64)\/(-(2 ^ 64)<j/\j<2 ^ 64)
theorem c6z.ok{i j:Int}(h:c6z i j):IntMulOk i j:=by
 rcases h with ⟨h1,h2⟩ | ⟨h1,h2⟩
 ·exact .of_left (intBits_le_64 h1 h2)
 ·exact .of_right (intBits_le_64 h1 h2)
theorem c8D:OpR X (a0i .Add) (rI0 fun i j=>.int (i+j)):=d0w fun _ _ _ _ _ _ _ q=>add_int q
theorem c8r:OpR X (a0i .Sub) (rI0 fun i j=>.int (i - j)):=d0w fun _ _ _ _ _ _ _ q=>sub_int q
theorem c8z:OpR X (a0i .Mult) (rI c6z fun i j=>.int (i * j)):=opI fun _ _ _ _ _ _ _ hc q=>mul_int q hc.ok
theorem c8A:OpR X (a0i .Mod) (rI (fun _ j=>0<j) fun i j=>.int (i % j)):=opI fun i j _ _ _ _ _ hc q=>by
 have h1:(0:Int)<j:=hc
 exact mod_int' (by omega) (by rw[Int.fmod_eq_emod_of_nonneg i (by omega)];exact q)
theorem c8y:OpR X (a0i .Pow) (rI d0K fun i j=>.int (i ^ j.toNat)):=opI fun _ _ _ _ _ _ _ hc q=>pow_int_small hc.1 hc.2.1 hc.2.2 q
theorem unI{f:Value->Sem Value}{g:Int->Int}
  (rule:∀(i:Int) (t:Tok) (s:i8) (Q:Value->i8->Prop) (E:Value->i8->Prop),Q (.int (g i) s.toks) { s with toks:=s.toks+1 }->wpAny (model X.prog X.w) X.A (f (.int i t)) Q E s) :
  UnR X f (rU fun i=>.int (g i)):=by
 intro pins s σ H x v Q I rx h
 obtain⟨i,rfl,q⟩:=h
 obtain⟨t,rfl⟩:=rx
 exact rule i t s _ _ ⟨.int (g i),H,I.tok _,⟨_,rfl⟩,q⟩
theorem c7h:UnR X (unaryOp .USub) (rU fun i=>.int (-i)):=unI fun _ _ _ _ _ q=>neg_int q
end
def b5n:V->V->Bool
 | .non,.non=>true | .non,.int _=>true | .int _,.non=>true | .non,.bl _=>true | .bl _,.non=>true | .non,.str _=>true | .str _,.non=>true
 | .int _,.int _=>true | .bl _,.bl _=>true | .str _,.str _=>true | .byt _,.byt _=>true
 | .int _,.str _=>true | .str _,.int _=>true | .bl _,.str _=>true | .str _,.bl _=>true
 | _,_=>false
def rEq:R2:=fun x y H Q=>b5n x y=true/\Q (.bl (decide (x=y))) H
def rNe:R2:=fun x y H Q=>b5n x y=true/\Q (.bl (!decide (x=y))) H
theorem b8U{i j:Int}:decide (V.int i=V.int j)=(i == j):=by
 rw[a1R]
 simp
theorem c3Q{i j:Bool}:decide (V.bl i=V.bl j)=(i == j):=by
 rw[a1R]
 simp
theorem b8T{i j:Str}:decide (V.str i=V.str j)=(i == j):=by
 rw[a1R]
 simp
theorem b8V{i j:Array UInt8}:decide (V.byt i=V.byt j)=(i.toList == j.toList):=by
 rw[a1R]
 cases i
 cases j
 simp
section
variable {a b:Expr}{tb tc:TE}
theorem Q0{Q:VK}{k k':Bool}(I:Inv X pins σ H s)(q:Q (.bl k) H)(e:k=k'):EP X pins σ Q (.bool k') s:=by
 subst e
 exact⟨.bl k,H,I,rfl,q⟩
theorem d0v:OpR X (A3 .Eq) rEq:=by
 intro pins s σ H x y v u Q I rx ry h
 obtain⟨hs,q⟩:=h
 cases x with
 | non=>
  cases rx
  cases y with
  | non=>cases ry;exact PySem.EqNone.eq_none_none (Q0 I q (by simp))
  | bl j=>cases ry;exact PySem.EqNone.eq_none_bool (Q0 I q (by simp))
  | int j=>obtain⟨t',rfl⟩:=ry;exact PySem.EqNone.eq_none_int (Q0 I q (by simp))
  | str j=>obtain⟨t',rfl⟩:=ry;exact PySem.EqNone.eq_none_str (Q0 I q (by simp))
  | _=>exact absurd (show false=true from hs) w6
 | bl i=>
  cases rx
  cases y with
  | non=>cases ry;exact PySem.EqNone.eq_bool_none (Q0 I q (by simp))
  | bl j=>cases ry;exact eq_bool (Q0 I q c3Q)
  | str j=>obtain⟨t',rfl⟩:=ry;exact PySem.EqMixed.eq_bool_str (Q0 I q (by simp))
  | _=>exact absurd (show false=true from hs) w6
 | int i=>
  obtain⟨t,rfl⟩:=rx
  cases y with
  | non=>cases ry;exact PySem.EqNone.eq_int_none (Q0 I q (by simp))
  | int j=>obtain⟨t',rfl⟩:=ry;exact eq_int (Q0 I q b8U)
  | str j=>obtain⟨t',rfl⟩:=ry;exact PySem.EqMixed.eq_int_str (Q0 I q (by simp))
  | _=>exact absurd (show false=true from hs) w6
 | str i=>
  obtain⟨t,rfl⟩:=rx
  cases y with
  | non=>cases ry;exact PySem.EqNone.eq_str_none (Q0 I q (by simp))
  | bl j=>cases ry;exact PySem.EqMixed.eq_str_bool (Q0 I q (by simp))
  | int j=>obtain⟨t',rfl⟩:=ry;exact PySem.EqMixed.eq_str_int (Q0 I q (by simp))
  | str j=>obtain⟨t',rfl⟩:=ry;exact eq_str (Q0 I q b8T)
  | _=>exact absurd (show false=true from hs) w6
 | byt i=>
  obtain⟨t,rfl⟩:=rx
  cases y with
  | byt j=>obtain⟨t',rfl⟩:=ry;exact PySem.W.eq_bytes (Q0 I q b8V)
  | _=>exact absurd (show false=true from hs) w6
 | _=>cases y <;> exact absurd (show false=true from hs) w6
theorem d0q:OpR X (A3 .NotEq) rNe:=by
 intro pins s σ H x y v u Q I rx ry h
 obtain⟨hs,q⟩:=h
 cases x with
 | non=>
  cases rx
  cases y with
  | non=>cases ry;exact PySem.EqNone.ne_none_none (Q0 I q (by simp))
  | bl j=>cases ry;exact PySem.EqNone.ne_none_bool (Q0 I q (by simp))
  | int j=>obtain⟨t',rfl⟩:=ry;exact PySem.EqNone.ne_none_int (Q0 I q (by simp))
  | str j=>obtain⟨t',rfl⟩:=ry;exact PySem.EqNone.ne_none_str (Q0 I q (by simp))
  | _=>exact absurd (show false=true from hs) w6
 | bl i=>
  cases rx
  cases y with
  | non=>cases ry;exact PySem.EqNone.ne_bool_none (Q0 I q (by simp))
  | bl j=>cases ry;exact ne_bool (Q0 I q (congrArg not c3Q))
  | str j=>obtain⟨t',rfl⟩:=ry;exact PySem.EqMixed.ne_bool_str (Q0 I q (by simp))
  | _=>exact absurd (show false=true from hs) w6
 | int i=>
  obtain⟨t,rfl⟩:=rx
  cases y with
  | non=>cases ry;exact PySem.EqNone.ne_int_none (Q0 I q (by simp))
  | int j=>obtain⟨t',rfl⟩:=ry;exact ne_int (Q0 I q (congrArg not b8U))
  | str j=>obtain⟨t',rfl⟩:=ry;exact PySem.EqMixed.ne_int_str (Q0 I q (by simp))
  | _=>exact absurd (show false=true from hs) w6
 | str i=>
  obtain⟨t,rfl⟩:=rx
  cases y with
  | non=>cases ry;exact PySem.EqNone.ne_str_none (Q0 I q (by simp))
  | bl j=>cases ry;exact PySem.EqMixed.ne_str_bool (Q0 I q (by simp))
  | int j=>obtain⟨t',rfl⟩:=ry;exact PySem.EqMixed.ne_str_int (Q0 I q (by simp))
  | str j=>obtain⟨t',rfl⟩:=ry;exact ne_str (Q0 I q (congrArg not b8T))
  | _=>exact absurd (show false=true from hs) w6
 | byt i=>
  obtain⟨t,rfl⟩:=rx
  cases y with
  | byt j=>obtain⟨t',rfl⟩:=ry;exact PySem.W.ne_bytes (Q0 I q (congrArg not b8V))
  | _=>exact absurd (show false=true from hs) w6
 | _=>cases y <;> exact absurd (show false=true from hs) w6
theorem d0r:OpR X (A3 .Lt) (rI0 fun i j=>.bl (decide (i<j))):=c5G fun _ _ _ _ _ _ _ q=>lt_int q
theorem d0s:OpR X (A3 .LtE) (rI0 fun i j=>.bl (decide (i<=j))):=c5G fun _ _ _ _ _ _ _ q=>le_int q
theorem d0t:OpR X (A3 .Gt) (rI0 fun i j=>.bl (decide (j<i))):=c5G fun _ _ _ _ _ _ _ q=>gt_int q
theorem d0u:OpR X (A3 .GtE) (rI0 fun i j=>.bl (decide (j<=i))):=c5G fun _ _ _ _ _ _ _ q=>ge_int q
theorem c0f:OpR X (A3 .In) (fun x y H Q=>∃i j,x=.str i/\y=.str j/\Q (.bl (!(Builtin.Str.occurrences j i 0 j.length 1).isEmpty)) H):=by
 intro pins s σ H x y v u Q I rx ry h
 obtain⟨i,j,rfl,rfl,q⟩:=h
 obtain⟨t,rfl⟩:=rx
 obtain⟨t',rfl⟩:=ry
 exact in_str (Q0 I q rfl)
theorem c5F:OpR X (A3 .IsNot) (fun x y H Q=>y=.non/\Q (.bl (!decide (x=.non))) H):=by
 intro pins s σ H x y v u Q I rx ry h
 obtain⟨rfl,q⟩:=h
 cases ry
 refine isnot_none_gen (Q0 I q ?_)
 cases x <;> first
  | (cases rx;rfl)
  | (obtain⟨t,rfl⟩:=rx;rfl)
theorem OpR.or{f:Value->Value->Sem Value}{r':R2}(h:OpR X f r)(h':OpR X f r'):OpR X f (fun x y H Q=>r x y H Q\/r' x y H Q):=by
 intro pins s σ H x y v u Q I rx ry q
 rcases q with q | q
 ·exact h pins s σ H x y v u Q I rx ry q
 ·exact h' pins s σ H x y v u Q I rx ry q
theorem a1J(b:Expr){op:CmpOp}(h:op≠.In:=by decide)(h2:op≠.NotIn:=by decide):W3 op b=false:=by
 have e1:(op == CmpOp.In)=false:=by cases op <;> first | rfl | exact absurd rfl h
 have e2:(op == CmpOp.NotIn)=false:=by cases op <;> first | rfl | exact absurd rfl h2
 cases b <;> simp[W3,e1,e2]
theorem c5p{op:CmpOp}(ho:OpR X (A3 op) r)(ha:PE X a ta)(hb:PE X b tb)(hm:W3 op b=false):PE X (.Compare a [op] [b] pos) (tOp r ta tb):=by
 intro pins s σ H Q I h
 exact wpAny_Compare1 (c8Y ha hb I h fun v u s2 x y H2 I2 rx ry q=>ho pins s2 σ H2 x y v u Q I2 rx ry q) hm
def E6(t:TE):TT:=fun σ H Q=>t σ H fun x H'=>∃k,x=.bl k/\Q k H'
theorem c4X{op:CmpOp}(ho:OpR X (A3 op) r)(ha:PE X a ta)(hb:PE X b tb)(hm:W3 op b=false):PT X (.Compare a [op] [b] pos) (E6 (tOp r ta tb)):=by
 intro pins s σ H Q I h
 refine c9v (thn (ha pins s σ H _ I h) fun v s1 ⟨x,H1,I1,r1,q1⟩=>thn (hb pins s1 σ H1 _ I1 q1) fun u s2 ⟨y,H2,I2,r2,q2⟩=>
  thn (ho pins s2 σ H2 x y v u _ I2 r1 r2 q2) fun c s3 ⟨z,H3,I3,r3,k,e,q3⟩=>?_) hm
 subst e
 cases r3
 exact Q3 ⟨H3,I3,q3⟩
def a5L(r r':R2)(ta tb tc:TE):TE:=fun σ H Q=>ta σ H fun x H1=>tb σ H1 fun y H2=>r x y H2 fun z H3=>∃k,z=.bl k /\
 (if k=true then tc σ H3 fun w' H4=>r' y w' H4 Q else Q (.bl false) H3)
theorem c2Z{op op':CmpOp}{r':R2}(ho:OpR X (A3 op) r)(ho':OpR X (A3 op') r')(ha:PE X a ta)(hb:PE X b tb)(hc:PE X c tc)
  (hm:c9z [op,op'] [b,c]=false:=by with_unfolding_all rfl):PE X (.Compare a [op,op'] [b,c] pos) (a5L r r' ta tb tc):=by
 intro pins s σ H Q I h
 refine Compare_chain (thn (ha pins s σ H _ I h) fun v s1 ⟨x,H1,I1,r1,q1⟩=>chain_link (thn (hb pins s1 σ H1 _ I1 q1) fun u s2 ⟨y,H2,I2,r2,q2⟩=>
  thn (ho pins s2 σ H2 x y v u _ I2 r1 r2 q2) fun d s3 ⟨z,H3,I3,r3,k,e,q3⟩=>?_)) hm
 subst e
 cases r3
 refine Q3 ?_
 cases k with
 | false=>exact ite_ff ⟨.bl false,H3,I3,rfl,q3⟩
 | true=>exact ite_tt (chain_last (thn (hc pins s3 σ H3 _ I3 q3) fun w' s4 ⟨z',H4,I4,r4,q4⟩=>ho' pins s4 σ H4 y z' u w' Q I4 r2 r4 q4))
theorem c2L{op op':CmpOp}{r':R2}(ho:OpR X (A3 op) r)(ho':OpR X (A3 op') r')(ha:PE X a ta)(hb:PE X b tb)(hc:PE X c tc)
  (hm:c9z [op,op'] [b,c]=false:=by with_unfolding_all rfl):PT X (.Compare a [op,op'] [b,c] pos) (E6 (a5L r r' ta tb tc)):=by
 intro pins s σ H Q I h
 refine isTrue_chain (thn (ha pins s σ H _ I h) fun v s1 ⟨x,H1,I1,r1,q1⟩=>test_link (thn (hb pins s1 σ H1 _ I1 q1) fun u s2 ⟨y,H2,I2,r2,q2⟩=>
  thn (ho pins s2 σ H2 x y v u _ I2 r1 r2 q2) fun d s3 ⟨z,H3,I3,r3,k,e,q3⟩=>?_)) hm
 subst e
 cases r3
 refine Q3 ?_
 cases k with
 | false=>
  obtain⟨k',e',q'⟩:=q3
  cases e'
  exact ite_ff ⟨H3,I3,q'⟩
 | true=>
  refine ite_tt (test_last (thn (hc pins s3 σ H3 _ I3 q3) fun w' s4 ⟨z',H4,I4,r4,q4⟩=>thn (ho' pins s4 σ H4 y z' u w' _ I4 r2 r4 q4) fun d' s5 ⟨z2,H5,I5,r5,k2,e2,q5⟩=>?_))
  subst e2
  cases r5
  exact Q3 ⟨H5,I5,q5⟩
theorem a7s:(u8:Nat)<2 ^ 63:=by rw[sizeLine_eq];decide
theorem b7A:OpR X (a0i .Add) (fun x y H Q=>∃i j,x=.str i/\y=.str j/\i.length+j.length<=u8/\Q (.str (i++j)) H):=by
 intro pins s σ H x y v u Q I rx ry h
 obtain⟨i,j,rfl,rfl,hz,q⟩:=h
 obtain⟨t,rfl⟩:=rx
 obtain⟨t',rfl⟩:=ry
 exact add_str (fun t' tk=>⟨.str (i++j),H,I.tok _,⟨_,rfl⟩,q⟩) hz
theorem a6L{x:V}(r:L5 [x] us):∃u,us=[u]/\K5 x u:=by
 cases r with
 | cons r1 r2=>cases r2;exact⟨_,rfl,r1⟩
theorem b8n{x:V}(r:L5 [x,y] us):∃u w',us=[u,w']/\K5 x u/\K5 y w':=by
 cases r with
 | cons r1 r2=>
  cases r2 with
  | cons r3 r4=>cases r4;exact⟨_,_,rfl,r1,r3⟩
theorem c3W:a0k X (.builtin "abs") (fun xs H Q=>∃i,xs=[.int i]/\Q (.int (if i<0 then -i else i)) H):=by
 intro pins s σ H xs us Q I r h
 obtain⟨i,rfl,q⟩:=h
 obtain⟨u,rfl,t,rfl⟩:=a6L r
 exact call_abs_int fun u tk=>⟨.int (if i<0 then -i else i),H,I.tok _,⟨_,rfl⟩,q⟩
theorem c0V(hc:X.calm=true):a0k X (.builtin "min") (fun xs H Q=>∃i j,xs=[.int i,.int j]/\Q (.int (if j<i then j else i)) H):=by
 intro pins s σ H xs us Q I r h
 obtain⟨i,j,rfl,q⟩:=h
 obtain⟨u,w',rfl,⟨t,rfl⟩,⟨t',rfl⟩⟩:=b8n r
 refine min_two_ints (I.ok.hd hc) fun h' tk k=>⟨_,H,I.kept k,?_,q⟩
 by_cases hj:j<i
 ·rw[if_pos hj,if_pos hj];exact⟨_,rfl⟩
 ·rw[if_neg hj,if_neg hj];exact⟨_,rfl⟩
end
structure b8i(h:Heap)(x dx C:Addr)(mA:Str->Option Value):Prop where
 obj:h.get? x=some (a0h C dx)
 ns:h.Ns1 dx mA
 ne:dx≠x
theorem c0v{mA:Str->Option Value}(n:h.Ns1 dx mA):∃od,h.get? dx=some od/\∀name,a6E name od=some (mA name):=by
 obtain⟨o,es,ep,ho,hd,hk,_,hm⟩:=n
 refine⟨o,ho,fun name=>?_⟩
 have e:=hm name
 unfold nsFind findBy at e
 rw[<-Array.find?_toList]at e
 unfold a6E
 rw[hd]
 dsimp only
 split
 ·rename_i y q
  rw[q]at e
  exact congrArg some e
 ·rename_i q
  rw[q]at e
  have a:es.toList.any (·.refKey)=false:=by
   rw[List.any_eq_false]
   intro y hy
   obtain⟨z,t,hkey⟩:=hk y (Array.mem_toList_iff.mp hy)
   simp[DictEntry.refKey,hkey]
  have a':¬es.toList.any (·.refKey)=true:=by rw[a];exact w6
  rw[if_neg a']
  exact congrArg some e
theorem b8i.look{x:Addr}{mA:Str->Option Value}(I:b8i h x dx C mA):∃od,PySem.W.InstAt h x (a0h C dx) C (some od)/\∀name,a6E name od=some (mA name):=
 let⟨od,ho,hl⟩:=c0v I.ns
 ⟨od,⟨I.obj,rfl,rfl,ho⟩,hl⟩
section
variable {prog:C9}{A:O0}{E:Value->i8->Prop}{K:Fg}{x:Addr}{mA:Str->Option Value}{name:Str}{v:Value}
theorem c6e{expr:Bool}(X:K.In s.heap)(I:b8i s.heap x dx C mA)(hg:a2A K C name=true)(hh:a4b K C=true)
  (ha:I0 K (.ref C) name=some none) (hv:mA name=some v) (hv':c4i v=true) (h:Q v { s with toks:=s.toks+1 }) :
  wpAny (model prog w) A (getAttr (.ref x) name expr) Q E s:=by
 obtain⟨od,J,hl⟩:=I.look
 exact PySem.W.get_value X J (a7B hg).1 (PySem.W.findObj_own hh ha rfl (by rw[hl,hv])) hv' h
theorem c3I{pl:Sem Bool}{Q:Value×List Value->i8->Prop}(X:K.In s.heap)(I:b8i s.heap x dx C mA)(hg:a2A K C name=true)
  (hf:I0 K (.ref C) name=some (some (.ref f))) (ht:a9w K (.ref f)=true) (hv:mA name=none) (h:Q (.ref f,[.ref x]) s) :
  wpAny (model prog w) A (a7F (.ref x) name pl) Q E s:=by
 obtain⟨od,J,hl⟩:=I.look
 exact PySem.W.method_fn X J (a7B hg).1 (a7B hg).2 hf (beq_iff_eq.mp ht) (by show(a6E name od).map (·.isSome)=some false;rw[hl,hv];rfl) h
theorem c4C{ns:List Str}{Q:Unit->i8->Prop}(X:K.In s.heap)(I:b8i s.heap x dx C mA)
  (hs:I0 K (.ref C) "__setattr__" = some (some (.builtin "object.__setattr__"))) (hp:a9u K C=true) (ht:b1L K C name=some none) (hh:a4b K C=true)
  (hw:PySem.Within mA ns) (hsz:ns.length<=u8)
  (h:∀h',b8i h' x dx C (fun y=>if y=name then some v else mA y)->Heap.SameBut dx s.heap h'->Q () { s with heap:=h',toks:=s.toks+2 }) :
  wpAny (model prog w) A (setAttr (.ref x) name v) Q E s:=by
 obtain⟨od,J,hl⟩:=I.look
 refine PySem.W.set_plain X J hs (PySem.W.osa_open (s:={ s with toks:=s.toks+1 }) (r:=none) X J hp ht fun b=>?_)
 obtain⟨cd,hc,hd'⟩:=PySem.W.any_some hh
 have hx:s.heap.get? x=some ⟨.ref C,some dx,.plain,#[]⟩:=I.obj
 refine b6 (d7 (b6 (b6 (wpAny_loadPart hx (b6 (PySem.W.Looks.here (s:={ s with toks:=s.toks+1 }) (PySem.W.looks_clsIn X hc) ?_))))))
 rw[hd']
 refine d7 (a:=some dx) (b6 (d7 (b6 ?_)))
 refine wpAny_nsSet1 (s:={ s with toks:=s.toks+1 }) I.ns fun h' hn2 hs2=>?_
 obtain⟨oD,esD,epD,hoD,hdD,hcD⟩:=hn2.count (PySem.Within.cons name v hw)
 refine b6 (wpAny_lookBehind hoD (by rw[hdD];exact pastItsLine_dict (J5 hcD (by rw[A2];omega))) ?_)
 exact d7 (h _ ⟨(hs2.2 _ (Ne.symm I.ne)).trans I.obj,hn2,I.ne⟩ hs2)
theorem c3v{R:b4N->i8->Prop}{vs:List Value}{kw:List (Str×Value)}(X:K.In s.heap)(hm:a5v K C=true)
  (hi:I0 K (.ref C) "__init__" = some (some (.ref f))) (hf:PySem.W.typeIn K (.ref f)=some (.type "function"))
  (h:a2D (model prog w) (A.under (.builtin "type.__call__" ⟨.ref C::vs,kw⟩)) (.call (.ref f) ⟨.ref (s.heap.objs.size+1)::vs,kw⟩) (PySem.W.InitBack (s.heap.objs.size+1) R)
   { s with heap:=(s.heap.push U1).push (a0h C s.heap.objs.size) }) :
  a2D (model prog w) A (.call (.ref C) ⟨vs,kw⟩) R s:=by
 obtain⟨hh,g,d,t,os⟩:=s
 exact PySem.W.make_core (PySem.W.makes_of X hm) (PySem.W.looks_findIn X hi) (fun self=>PySem.W.bind_fn X self hf) (.inl rfl) h
end
def a3t(f:Str)(v:V):List (Str×V)->List (Str×V)
 | []=>[(f,v)]
 | (g,x)::r=>if g=f then (g,v)::r else (g,x)::a3t f v r
theorem a9G(f g:Str)(v:V):∀fs:List (Str×V),(a3t f v fs).lookup g=if g=f then some v else fs.lookup g
 | []=>by
  show a2Z g [(f,v)]=_
  by_cases h:g=f
  ·have hb:(g == f)=true:=beq_iff_eq.mpr h
   simp only[a2Z,hb,if_pos h]
  ·have hb:(g == f)=false:=beq_eq_false_iff_ne.mpr h
   simp only[a2Z,hb,if_neg h]
 | (k,x)::r=>by
  have ih:=a9G f g v r
  rw[show a3t f v ((k,x)::r)=(if k=f then (k,v)::r else (k,x)::a3t f v r)from rfl]
  by_cases hk:k=f
  ·rw[if_pos hk]
   by_cases h:g=k
   ·have hb:(g == k)=true:=beq_iff_eq.mpr h
    simp only[a2Z,hb,if_pos (h.trans hk)]
   ·have hb:(g == k)=false:=beq_eq_false_iff_ne.mpr h
    simp only[a2Z,hb,if_neg (fun e:g=f=>h (e.trans hk.symm))]
  ·rw[if_neg hk]
   by_cases h:g=k
   ·have hb:(g == k)=true:=beq_iff_eq.mpr h
    simp only[a2Z,hb,if_neg (fun e:g=f=>hk (h.symm.trans e))]
   ·have hb:(g == k)=false:=beq_eq_false_iff_ne.mpr h
    simp only[a2Z,hb]
    exact ih
theorem a9j(f:Str)(v:V):∀fs:List (Str×V),f∈(a3t f v fs).map (·.1)/\∀g,g∈fs.map (·.1)->g∈(a3t f v fs).map (·.1)
 | []=>⟨by simp[a3t],fun g h=>by simp at h⟩
 | (k,x)::r=>by
  obtain⟨i1,i2⟩:=a9j f v r
  rw[show a3t f v ((k,x)::r)=(if k=f then (k,v)::r else (k,x)::a3t f v r)from rfl]
  by_cases hk:k=f
  ·rw[if_pos hk]
   subst hk
   exact⟨by simp,fun g h=>by simpa using h⟩
  ·rw[if_neg hk]
   refine⟨?_,fun g h=>?_⟩
   ·rw[E2]
    exact F9 _ i1
   ·rw[E2]at h ⊢
    rcases j4.mp h with e | e
    ·exact j4.mpr (.inl e)
    ·exact F9 _ (i2 g e)
theorem a9H(f:Str)(v:V):∀fs:List (Str×V),(a3t f v fs).length<=fs.length+1
 | []=>by simp[a3t]
 | (k,x)::r=>by
  have ih:=a9H f v r
  rw[show a3t f v ((k,x)::r)=(if k=f then (k,v)::r else (k,x)::a3t f v r)from rfl]
  by_cases hk:k=f
  ·rw[if_pos hk,A2,A2];omega
  ·rw[if_neg hk,A2,A2];omega
theorem a6C.some_of{o:Option Value}(r:a6C (some v) o):∃u,o=some u/\K5 v u:=by
 cases o with
 | none=>exact(show False from r).elim
 | some u=>exact⟨u,rfl,r⟩
theorem a6C.none_of{o:Option Value}(r:a6C none o):o=none:=by
 cases o with
 | none=>rfl
 | some u=>exact(show False from r).elim
theorem c0E(r:K5 v u):c4i u=true:=by
 cases v with
 | non=>cases (show u=Value.none from r);rfl
 | bl b=>cases (show u=Value.bool b from r);rfl
 | int i=>obtain⟨t,e⟩:=(show ∃t,u=Value.int i t from r);cases e;rfl
 | str x=>obtain⟨t,e⟩:=(show ∃t,u=Value.str x t from r);cases e;rfl
 | byt b=>obtain⟨t,e⟩:=(show ∃t,u=Value.bytes b t from r);cases e;rfl
 | flt b=>obtain⟨t,e⟩:=(show ∃t,u=Value.float b t from r);cases e;rfl
 | ref a=>cases (show u=Value.ref a from r);rfl
 | ty n=>cases (show u=Value.type n from r);rfl
section
variable {P:C9}{fs fs':List (Str×V)}
theorem b0b(hok:HOk P w H h)(e:H a=some (.ins C dx fs)):∃mA,b8i h a dx C mA/\(∀f,a6C (fs.lookup f) (mA f))/\PySem.Within mA (fs.map (·.1))/\fs.length<=1000/\H dx=some (.own a):=by
 obtain⟨d,z,ne,ob,mA,n,r,q⟩:=(show a0e P w H h a (.ins C dx fs)from hok a _ e)
 exact⟨mA,⟨ob,n,ne⟩,r,q,z,d⟩
end
structure Cls(K:Fg)(C:Addr):Prop where
 pg:a2A K C Str.empty=true
 hd:a4b K C=true
 po:a9u K C=true
 sa:I0 K (.ref C) "__setattr__" = some (some (.builtin "object.__setattr__"))
theorem Cls.get{K:Fg}(c:Cls K C)(f:Str):a2A K C f=true:=c.pg
def a3p(K:Fg)(C:Addr)(f:Str):Prop:=I0 K (.ref C) f=some none
theorem a3p.taker{K:Fg}{f:Str}(n:a3p K C f):b1L K C f=some none:=by
 unfold b1L
 rw[show I0 K (.ref C) f=some none from n]
 rfl
structure Con(K:Fg)(C:Addr)(f:Str)(v:V)(u:Value):Prop where
 at_:I0 K (.ref C) f=some (some u)
 rel:K5 v u
 get:a9t K u "__get__" = some none
 cp:PySem.W.copiedNames.contains f=false
structure c6w(K:Fg)(C:Addr)(m:Str)(f:Addr):Prop where
 at_:I0 K (.ref C) m=some (some (.ref f))
 fn:a9w K (.ref f)=true
 kp:Z4 K (.ref f)=true
section
variable {fs:List (Str×V)}{f:Str}{A:O0}{E:Value->i8->Prop}
theorem b7T{b:Bool}(I:Inv X pins σ H s)(e:H a=some (.ins C dx fs))(c:Cls X.K C)(n:a3p X.K C f)(l:fs.lookup f=some v)
  (h:∀u s',Inv X pins σ H s'->K5 v u->Q u s'):wpAny (model X.prog X.w) A (getAttr (.ref a) f b) Q E s:=by
 obtain⟨mA,O,r,_,_,_⟩:=b0b I.hok e
 obtain⟨u,hu,ru⟩:=a6C.some_of (v:=v) (o:=mA f) (by rw[<-l];exact r f)
 exact c6e I.kIn O (c.get f) c.hd n hu (c0E ru) (h u _ (I.tok _) ru)
theorem b1y{m:Str}{g:Addr}{pl:Sem Bool}{Q:Value×List Value->i8->Prop}(I:Inv X pins σ H s)(e:H a=some (.ins C dx fs))(c:Cls X.K C)(k:c6w X.K C m g)(l:fs.lookup m=none)
  (h:Q (.ref g,[.ref a]) s):wpAny (model X.prog X.w) A (a7F (.ref a) m pl) Q E s:=by
 obtain⟨mA,O,r,_,_,_⟩:=b0b I.hok e
 have hn:mA m=none:=a6C.none_of (by rw[<-l];exact r m)
 exact c3I I.kIn O (c.get m) k.at_ k.fn hn h
theorem b6Y{Q:Unit->i8->Prop}(I:Inv X pins σ H s)(e:H a=some (.ins C dx fs))(c:Cls X.K C)(n:a3p X.K C f)(hl:fs.length<1000)(ry:K5 y u)
  (h:∀s',Inv X pins σ (upd H a (.ins C dx (a3t f y fs))) s'->Q () s'):wpAny (model X.prog X.w) A (setAttr (.ref a) f u) Q E s:=by
 obtain⟨mA,O,r,wi,_,ho⟩:=b0b I.hok e
 have hz:(fs.map (·.1)).length<=u8:=by rw[a9,sizeLine_eq];omega
 refine c4C I.kIn O c.sa c.po n.taker c.hd wi hz fun h' O' sb=>h _ ?_
 have hd:∃o,h'.get? dx=some o:=let⟨o,_,_,e',_⟩:=O'.ns; ⟨o,e'⟩
 refine I.write (x:=a) (e:=dx) (by rw[e];exact True.intro) (.inr ho) (fun b q hb z=>(sb.2 b hb).trans z) hd ?_
 refine⟨by rw[j7 O.ne];exact ho,?_,O.ne,O'.obj,_,O'.ns,fun g=>?_,fun g hg=>?_⟩
 ·have:=a9H f y fs;omega
 ·show a6C ((a3t f y fs).lookup g) (if g=f then some u else mA g)
  rw[a9G]
  by_cases q:g=f
  ·rw[if_pos q,if_pos q];exact ry
  ·rw[if_neg q,if_neg q];exact r g
 ·by_cases q:g=f
  ·rw[q];exact(a9j f y fs).1
  ·refine(a9j f y fs).2 g (wi g fun z=>hg ?_)
   show(if g=f then some u else mA g)=none
   rw[if_neg q];exact z
theorem Inv.made(I:Inv X pins σ H s):Inv X pins σ (upd (upd H s.heap.objs.size (.own (s.heap.objs.size+1))) (s.heap.objs.size+1) (.ins C s.heap.objs.size []))
  { s with heap:=(s.heap.push U1).push (a0h C s.heap.objs.size) }:=by
 have e1:(s.heap.push U1).get? s.heap.objs.size=some U1:=l7 s.heap rfl
 have e2:((s.heap.push U1).push (a0h C s.heap.objs.size)).get? (s.heap.objs.size+1)=some (a0h C s.heap.objs.size):=by
  have:=l7 (s.heap.push U1) (o:=a0h C s.heap.objs.size) rfl
  rwa [a0z]at this
 have e3:(s.heap.push U1).Ns s.heap.objs.size (fun _=>none):=⟨U1,#[],_,e1,rfl,(fun e he=>absurd he (by simp)),fun _=>rfl⟩
 have I1:=I.laid (a:=s.heap.objs.size) (o:=.own (s.heap.objs.size+1)) (h':=s.heap.push U1) (t':=s.toks) (fun b u q=>d5 _ q) (j6 _) ⟨_,e1⟩
 refine I1.laid (a:=s.heap.objs.size+1) (o:=.ins C s.heap.objs.size []) (t':=s.toks) (fun b u q=>d5 _ q) (c1b (a0z _ _)) ?_
 have ne:s.heap.objs.size≠s.heap.objs.size+1:=u9 (a6f _)
 refine⟨by rw[j7 ne,d8],L6 _,ne,e2,fun _=>none,(Heap.Ns1.of_empty e3).at fun o q=>d5 _ q,fun _=>True.intro,fun y hy=>absurd rfl hy⟩
theorem c6q{prog:C9}{env:Env}(hb:a0Z e f env (eval e env)=eval e env)
  (h:wpAny (model prog w) A (eval e env) (fun o s₁=>wpAny (model prog w) A (getAttr o f true) Q E s₁) E s):wpAny (model prog w) A (eval (.Attribute e f pos) env) Q E s:=
 Attribute_any_ h (by rw[arm_eval_Attribute,hb])
end
def a3S(K:Fg)(ta:TE)(f:Str):TE:=fun σ H Q=>ta σ H fun x H1=>∃a C dx fs v,x=.ref a/\H1 a=some (.ins C dx fs)/\Cls K C/\a3p K C f/\fs.lookup f=some v/\Q v H1
def b9R(K:Fg)(ta tv:TE)(f:Str):TS:=fun D σ H=>tv σ H fun y H1=>ta σ H1 fun x H2=>∃a C dx fs,x=.ref a/\H2 a=some (.ins C dx fs)/\Cls K C/\a3p K C f/\fs.length<1000 /\
 D.nx σ (upd H2 a (.ins C dx (a3t f y fs)))
section
variable {o value:Expr}{f:Str}{tpos:Pos}{tv:TE}
theorem c8m(he:PE X e ta)(hb:a0Z e f X.env (eval e X.env)=eval e X.env):PE X (.Attribute e f pos) (a3S X.K ta f):=by
 intro pins s σ H Q I h
 refine c6q hb (thn (he pins s σ H _ I h) fun u s1 ⟨x,H1,I1,rx,a,C,dx,fs,v,ex,ea,c,n,l,q⟩=>?_)
 subst ex
 obtain rfl:u=Value.ref a:=rx
 exact b7T I1 ea c n l fun u' s2 I2 ru=>⟨v,H1,I2,ru,q⟩
theorem c7V(ha:PE X o ta)(hv:PE X value tv)(hs:a3a value (some (.Attribute o f pos')) pos.line X.env=pure false):PS X (.Assign [.Attribute o f pos'] value pos) (b9R X.K ta tv f):=by
 intro pins s σ H D I h
 refine plainObj_wpAny_Assign_Attribute (thn (hv pins s σ H _ I h) fun u s1 ⟨y,H1,I1,ry,q⟩=>thn (ha pins s1 σ H1 _ I1 q) fun ov s2 ⟨x,H2,I2,rx,a,C,dx,fs,ex,ea,c,n,l,q2⟩=>?_) hs
 subst ex
 obtain rfl:ov=Value.ref a:=rx
 exact b6Y I2 ea c n l ry fun s3 I3=>⟨σ,_,I3,q2⟩
end
section
variable {A:O0}{E:Value->i8->Prop}{c:Value}{b:Bool}
inductive a9s(K:Fg)(H:Hp):V->Value->Prop where
 | non:a9s K H .non (.type "NoneType")
 | bl (x:Bool):a9s K H (.bl x) (.type "bool")
 | int (i:Int):a9s K H (.int i) (.type "int")
 | str (x:Str):a9s K H (.str x) (.type "str")
 | flt (x:UInt64):a9s K H (.flt x) (.type "float")
 | lst {a:Addr} {xs:List V} (e:H a=some (.lst xs)):a9s K H (.ref a) (.type "list")
 | frz {a:Addr} {o:Obj} {xs:List V} (e:H a=some (.frz o (.lst xs))):a9s K H (.ref a) (.type "list")
 | tup {a:Addr} {xs:List V} (e:H a=some (.tup xs)):a9s K H (.ref a) (.type "tuple")
 | dK {a:Addr} {kvs:List (Key×V)} (e:H a=some (.dK kvs)):a9s K H (.ref a) (.type "dict")
 | dT {a:Addr} {kvs:List (List Key×V)} (e:H a=some (.dT kvs)):a9s K H (.ref a) (.type "dict")
 | ins {a C dx:Addr} {fs:List (Str×V)} (e:H a=some (.ins C dx fs)) (cl:Cls K C) (ha:I0 K (.ref C) "__class__" = some (some (.builtin "object.__class__")))
   (hn:a9t K (.builtin "object.__class__") "__get__" = some (some (.builtin "getset_descriptor.__get__"))) (htk:c4l K (.builtin "object.__class__")=some true)
   (hm:c6W K C (.type "object")=some true):a9s K H (.ref a) (.ref C)
theorem c0A{x:V}{t:Value}(I:Inv X pins σ H s)(rx:K5 x u)(ty:a9s X.K H x t)(e:c6A X.K t c=some b)(h:∀tk,Q (.bool b) { s with toks:=tk }) :
  wpAny (model X.prog X.w) A (call (.builtin "isinstance") [u,c]) Q E s:=by
 cases ty with
 | non=>cases (show u=Value.none from rx);exact O5 PySem.W.kitx_none I.kIn True.intro e (fun z=>nomatch z) h
 | bl y=>cases (show u=Value.bool y from rx);exact O5 PySem.W.kitx_bool I.kIn True.intro e (fun z=>nomatch z) h
 | int i=>obtain⟨t,q⟩:=(show ∃t,u=Value.int i t from rx);cases q;exact O5 PySem.W.kitx_int I.kIn True.intro e (fun z=>nomatch z) h
 | str y=>obtain⟨t,q⟩:=(show ∃t,u=Value.str y t from rx);cases q;exact O5 PySem.W.kitx_str I.kIn True.intro e (fun z=>nomatch z) h
 | flt y=>obtain⟨t,q⟩:=(show ∃t,u=Value.float y t from rx);cases q;exact O5 PySem.W.kitx_float I.kIn True.intro e (fun z=>nomatch z) h
 | @lst a xs ea=>
  cases (show u=Value.ref a from rx)
  obtain⟨_,_,n,_,h1⟩:=(show a0e X.prog X.w H s.heap a (.lst xs)from I.hok a _ ea)
  exact O5 c1g I.kIn ⟨_,h1,rfl⟩ e (fun z=>nomatch z) h
 | @frz a ob xs ea=>
  cases (show u=Value.ref a from rx)
  obtain⟨_,_,_,n,_,h1⟩:=(show a0e X.prog X.w H s.heap a (.frz ob (.lst xs))from I.hok a _ ea)
  exact O5 c1g I.kIn ⟨_,h1,rfl⟩ e (fun z=>nomatch z) h
 | @tup a xs ea=>
  cases (show u=Value.ref a from rx)
  obtain⟨_,_,_,p⟩:=(show a0e X.prog X.w H s.heap a (.tup xs)from I.hok a _ ea)
  obtain⟨o,h1,h2,_⟩:=p
  exact O5 c0Z I.kIn ⟨o,h1,h2⟩ e (fun z=>nomatch z) h
 | @dK a kvs ea=>
  cases (show u=Value.ref a from rx)
  obtain⟨_,_,vs,_,p⟩:=(show a0e X.prog X.w H s.heap a (.dK kvs)from I.hok a _ ea)
  obtain⟨o,es,ep,h1,h2,_⟩:=p
  exact O5 c1h I.kIn ⟨o,h1,h2.1⟩ e (fun z=>nomatch z) h
 | @dT a kvs ea=>
  cases (show u=Value.ref a from rx)
  obtain⟨_,_,xs,_,o,es,ep,h1,h2,_⟩:=(show a0e X.prog X.w H s.heap a (.dT kvs)from I.hok a _ ea)
  exact O5 c1h I.kIn ⟨o,h1,h2.1⟩ e (fun z=>nomatch z) h
 | @ins a C dx fs ea cl ha hn htk hm=>
  cases (show u=Value.ref a from rx)
  obtain⟨mA,O,_⟩:=b0b I.hok ea
  obtain⟨od,J,_⟩:=O.look
  exact O5 (PySem.W.kitx_own (cl.get _) cl.hd ha hn htk hm) I.kIn J e (fun z=>nomatch z) h
end
structure V6(k:Nat)(A:O0):Prop where
 hd:A.handled=none
 dp:A.depth+3 * k+5<recursionLimit
 un:A.units+16 * k+200<cLine
theorem V6.mono{j k:Nat}{A:O0}(r:V6 k A)(h:j<=k):V6 j A:=⟨r.hd,by have:=r.dp;omega,by have:=r.un;omega⟩
theorem V6.deeper{k:Nat}{A:O0}(r:V6 (k+1) A)(env:Env):V6 k (A.deeper env):=
 ⟨r.hd,by have:=r.dp;show A.depth+1+3 * k+5<_;omega,by have:=r.un;show A.units+3+16 * k+200<_;omega⟩
theorem b7M{A:O0}{kw:List (Str×Value)}:(A.under (.builtin "type.__call__" ⟨.ref C::us,kw⟩)).depth=A.depth+1:=by
 first | rfl | simp[Around.under,Code.weight,Code.isCreation,Code.isGuard,Code.isCaller,Code.frames,Code.isFrame,guardIds]
theorem b7L{A:O0}{kw:List (Str×Value)}:(A.under (.builtin "type.__call__" ⟨.ref C::us,kw⟩)).units=A.units+1:=by
 first | rfl | simp[Around.under,Code.cUnits,Code.frames,Code.isFrame]
theorem V6.make{k:Nat}{A:O0}(r:V6 (k+1) A)(C:Addr)(us:List Value)(kw:List (Str×Value)):V6 k (A.under (.builtin "type.__call__" ⟨.ref C::us,kw⟩)):=
 ⟨r.hd,by have:=r.dp;rw[b7M];omega,by have:=r.un;rw[b7L];omega⟩
theorem V6.depth{k:Nat}{A:O0}(r:V6 k A):A.depth<recursionLimit:=by have:=r.dp;omega
theorem V6.units{k:Nat}{A:O0}(r:V6 k A):A.units+64<cLine:=by have:=r.un;omega
theorem V6.units0{k:Nat}{A:O0}(r:V6 k A):A.units<cLine:=by have:=r.un;omega
def j3:TA:=fun _ H Q=>Q [] H
def b9(ta:TE)(tr:TA):TA:=fun σ H Q=>ta σ H fun x H1=>tr σ H1 fun xs H2=>Q (x::xs) H2
section
variable {t:TA}
theorem c8q:PA X [] j3:=fun _ _ _ _ H Q I h=>Calls.spliced_nil ⟨[],H,I,.nil,h⟩
theorem c5s(ha:PE X e te)(hr:PA X es t)(hs:j9 (e::es) X.env=(false,eval e X.env)::j9 es X.env:=by rfl):PA X (e::es) (b9 te t):=by
 intro pos pins s σ H Q I h
 rw[hs]
 show wpAny _ _ (spliced ((false,eval e X.env)::a0u pos (j9 es X.env))) _ _ s
 refine Calls.spliced_cons (thn (ha pins s σ H _ I h) fun u s1 ⟨x,H1,I1,r1,q1⟩=>?_)
 exact thn (hr pos pins s1 σ H1 _ I1 q1) fun us s2 ⟨xs,H2,I2,r2,q2⟩=>⟨x::xs,H2,I2,.cons r1 r2,q2⟩
def a2E(t:TA):TE:=fun σ H Q=>t σ H fun xs H1=>xs.length<=u8/\∀p,H1 p=none->Q (.ref p) (upd H1 p (.tup xs))
def a0o(t:TA):TE:=fun σ H Q=>t σ H fun xs H1=>xs.length<=u8/\∀p,H1 p=none->Q (.ref p) (upd H1 p (.lst xs))
theorem c8d{x1}(h:PA X es t):PE X (.Tuple es x1 pos) (a2E t):=by
 intro pins s σ H Q I hq
 refine wpAny_Tuple_spliced (thn (h pos pins s σ H _ I hq) fun us s1 ⟨xs,H1,I1,r,z,q⟩=>⟨by rw[<-r.length];exact z,?_⟩)
 have hf:H1 s1.heap.objs.size=none:=I1.hok.fresh (j6 _)
 refine⟨.ref s1.heap.objs.size,upd H1 s1.heap.objs.size (.tup xs),I1.laid (t':=s1.toks) (fun b u e=>d5 _ e) (j6 _) ?_,rfl,q _ hf⟩
 exact⟨z,us,r,⟨_,l7 _ rfl,rfl,_,rfl⟩⟩
theorem c8k(h:PA X es t):PE X (.List es pos) (a0o t):=by
 intro pins s σ H Q I hq
 refine wpAny_List_spliced (thn (h pos pins s σ H _ I hq) fun us s1 ⟨xs,H1,I1,r,z,q⟩=>⟨by rw[<-r.length];exact z,?_⟩)
 have hf:H1 s1.heap.objs.size=none:=I1.hok.fresh (j6 _)
 refine⟨.ref s1.heap.objs.size,upd H1 s1.heap.objs.size (.lst xs),I1.laid (t':=s1.toks) (fun b u e=>d5 _ e) (j6 _) ?_,rfl,q _ hf⟩
 exact⟨z,us,0,r,l7 _ rfl⟩
end
abbrev Sp:=List V->Hp->VK->XK->Prop
abbrev CXT:=List Env->Hp->i8->XK->Value->i8->Prop
variable{CX:CXT}
structure b8k(P:C9)(w:World)(K:Fg)(mg:Str->Option Value)(base:Heap)(A:O0)(outer:List Env)(s:i8)(H:Hp):Prop where
 frames:A.frames=some outer
 mod:Mod K mg base
 bs:∀b o,base.get? b=some o->s.heap.get? b=some o/\H b=none
 bsz:base.objs.size<=s.heap.objs.size
 funs:s.heap.FunFrames base outer
 frf:∀b∈frs outer,H b=none
 hok:HOk P w H s.heap
 bare:b3v s.gens
def CE(outer:List Env)(P:C9)(w:World)(H:Hp)(s:i8)(Q:VK)(u:Value)(s':i8):Prop:=
 ∃v H',s'.os=s.os/\b3v s'.gens/\Un (frs outer) [] H H' s.heap s'.heap/\HOk P w H' s'.heap/\K5 v u/\Q v H'
def CR(CX:CXT)(outer:List Env)(P:C9)(w:World)(H:Hp)(s:i8)(Q:VK)(E:XK)(r:b4N)(s':i8):Prop:=
 match r with
 | .ok (.ret u)=>CE outer P w H s Q u s'
 | .ok _=>False
 | .error e=>CX outer H s E e s'
structure N4(P:C9)(w:World)(K:Fg)(mg:Str->Option Value)(base:Heap)(CX:CXT)(k:Nat)(f:Addr)(fd:a0G)(ps:List Str)(sp:Sp):Prop where
 len:∀vs H Q E,sp vs H Q E->vs.length=ps.length
 run:∀(A:O0) (outer:List Env) (s:i8) (H:Hp) (args:Args) (us:List Value) (vs:List V) (Q:VK) (E:XK),V6 k A->b8k P w K mg base A outer s H->c1s s fd args (ps.zip us)->L5 vs us->sp vs H Q E ->
  a2D (model P w) A (.call (.ref f) args) (CR CX outer P w H s Q E) s
theorem b8k.make{P:C9}{K:Fg}{mg:Str->Option Value}{base:Heap}{A:O0}{outer:List Env}(e:b8k P w K mg base A outer s H)(C:Addr)(us:List Value)(kw:List (Str×Value)) :
  b8k P w K mg base (A.under (.builtin "type.__call__" ⟨.ref C::us,kw⟩)) outer s H:=⟨by first | exact e.frames | (simpa[Around.under,Code.envs,Code.isFrame,pushEnvs]using e.frames),e.mod,e.bs,e.bsz,e.funs,e.frf,e.hok,e.bare⟩
section
variable {s':i8}
theorem Inv.env0(I:Inv X pins σ H s):b8k X.prog X.w X.K X.mg X.base X.A X.stack s H:=
 ⟨I.ok.frames,I.ok.mod,I.bs,J5 I.ok.bsz I.sz,I.stack,I.stkFree,I.hok,I.bare⟩
theorem Inv.after{Q:VK}(I:Inv X pins σ H s)(h:CE X.stack X.prog X.w H s Q u s'):EP X pins σ Q u s':=by
 obtain⟨v,H',os,bare,un,hok,r,q⟩:=h
 obtain⟨hh,g,d,t,os'⟩:=s'
 obtain rfl:os'=s.os:=os
 exact⟨v,H',I.call (h':=hh) (g':=g) (d':=d) (t':=t) (ch:=[]) un hok bare (fun b z=>absurd z (by simp)),r,q⟩
end
def C0(sp:Sp)(dvs:List V)(E:XK)(t:TA):TE:=fun σ H Q=>t σ H fun vs H1=>sp (vs++dvs) H1 Q E
def a1c(C:Addr)(m:Str)(sp:Sp)(dvs:List V)(E:XK)(ta:TE)(t:TA):TE:=fun σ H Q=>ta σ H fun x H1=>∃a dx fs,x=.ref a/\H1 a=some (.ins C dx fs)/\fs.lookup m=none /\
 t σ H1 fun vs H2=>sp (x::(vs++dvs)) H2 Q E
def b0D(C:Addr)(sp:Sp)(dvs:List V)(E:XK)(t:TA):TE:=fun σ H Q=>t σ H fun vs H1=>∀x dx,H1 x=none->H1 dx=none->dx≠x ->
 sp (.ref x::(vs++dvs)) (upd (upd H1 dx (.own x)) x (.ins C dx [])) (fun v H2=>v=.non/\Q (.ref x) H2) E
def a4A(K:Fg)(fd:a0G)(ps:List Str)(ds:List Value):Prop:=
 ∀(s:i8) (us:List Value),K.In s.heap->(us++ds).length=ps.length->c1s s fd ⟨us,[]⟩ (ps.zip (us++ds))
theorem a4A.all{K:Fg}{fd:a0G}(h:∀us:List Value,us.length=ps.length->bindArgs fd ⟨us,[]⟩=pure (ps.zip us)):a4A K fd ps []:=fun s us _ hl=>by
 rw[a1P]at hl ⊢
 exact .of_eq (h us hl)
def a7y(CX:CXT)(X:Cx)(E:XK):Prop:=∀(pins:List (Addr×Obj)) (σ:St) (H:Hp) (s:i8) (e:Value) (s':i8),Inv X pins σ H s->CX X.stack H s E e s'->X.xe e s'
section
variable {k:Nat}{fd:a0G}{sp:Sp}{dvs:List V}{ds:List Value}{E:XK}{x m:Str}{apos:Pos}{o:Expr}{t:TA}
theorem b7l{Q:VK}{vs:List V}(F:N4 X.prog X.w X.K X.mg X.base CX k f fd ps sp)(hr:V6 k X.A)(hb:a4A X.K fd ps ds)(hd:L5 dvs ds)(hx:a7y CX X E)
  (I:Inv X pins σ H s) (r:L5 vs us) (h:sp (vs++dvs) H Q E):wpAny (model X.prog X.w) X.A (call (.ref f) us) (EP X pins σ Q) X.xe s:=by
 have r2:L5 (vs++dvs) (us++ds):=r.append hd
 have hl:(us++ds).length=ps.length:=by rw[<-r2.length];exact F.len _ _ _ _ h
 refine wpAny_call (a4f (F.run X.A X.stack s H ⟨us,[]⟩ (us++ds) (vs++dvs) Q E hr I.env0 (hb s us I.kIn hl) r2 h) fun r s' hq=>?_)
 cases r with
 | error e=>exact hx pins σ H s e s' I hq
 | ok fl=>
  cases fl with
  | ret u=>exact I.after hq
  | next=>exact False.elim hq
  | brk=>exact False.elim hq
  | cont=>exact False.elim hq
theorem c5q(F:N4 X.prog X.w X.K X.mg X.base CX k f fd ps sp)(hr:V6 k X.A)(hg:Gl X x)(hm:X.mg x=some (.ref f))(hk:Z4 X.K (.ref f)=true)(hb:a4A X.K fd ps ds)(hd:L5 dvs ds)(hx:a7y CX X E)
  (ha:PA X (e::es) t) (hdb:(x == ("__debug__" : Str))=false:=by decide) (he:j9 (e::es) X.env=(false,eval e X.env)::j9 es X.env:=by rfl) (hpl:(a0u pos (j9 es X.env)).any (·.1)=false:=by rfl) :
  PE X (.Call (.Name x p) (e::es) [] pos) (C0 sp dvs E t):=by
 intro pins s σ H Q I h
 refine a1q (b4i I hg hm ?_ hdb)
 refine a8A (h₀:=X.base) I.ok.mod.kin hk (thn (ha pos pins s σ H _ I h) fun us s1 ⟨vs,H1,I1,r,q⟩=>⟨I1.kIn,?_⟩) he hpl
 exact b7l F hr hb hd hx I1 r q
theorem c5j{pl:Sem Bool}(he:PE X o ta)(c:Cls X.K C)(hm:c6w X.K C m f)(F:N4 X.prog X.w X.K X.mg X.base CX k f fd ps sp)(hr:V6 k X.A)(hb:a4A X.K fd ps ds)(hd:L5 dvs ds)(hx:a7y CX X E)(ha:PA X (e::es) t)
  (hst:j9 (e::es) X.env=(false,eval e X.env)::j9 es X.env:=by rfl) (hpl:(a0u pos (j9 es X.env)).any (·.1)=false:=by rfl)
  (ht:eval (.Call (.Attribute o m apos) (e::es) [] pos) X.env=(do
   let ov <-eval o X.env
   b0m apos.atName
   let(f,first) <-a1A [ov] (a7F ov m pl)
   c1f pos f first (a0u pos (j9 (e::es) X.env)) (a6J pos (a1z [] X.env))):=by rfl) :
  PE X (.Call (.Attribute o m apos) (e::es) [] pos) (a1c C m sp dvs E ta t):=by
 intro pins s σ H Q I h
 refine b6F (pl:=pl) (thn (he pins s σ H _ I h) fun u s1 ⟨x,H1,I1,rx,a,dx,fs,ex,ea,l,q⟩=>?_) ht
 subst ex
 obtain rfl:u=Value.ref a:=rx
 refine b1y I1 ea c hm l ?_
 refine a8A (first:=[.ref a]) (h₀:=X.base) I.ok.mod.kin hm.kp (thn (ha pos pins s1 σ H1 _ I1 q) fun us s2 ⟨vs,H2,I2,r,q2⟩=>⟨I2.kIn,?_⟩) hst hpl
 exact b7l (us:=.ref a::us) (vs:=.ref a::vs) F hr hb hd hx I2 (.cons rfl r) q2
theorem c2U{pl:Sem Bool}(he:PE X o ta)(c:Cls X.K C)(hm:c6w X.K C m f)(F:N4 X.prog X.w X.K X.mg X.base CX k f fd ps sp)(hr:V6 k X.A)(hb:a4A X.K fd ps ds)(hd:L5 dvs ds)(hx:a7y CX X E)
  (ht:eval (.Call (.Attribute o m apos) [] [] pos) X.env=(do
   let ov <-eval o X.env
   b0m apos.atName
   let(f,first) <-a1A [ov] (a7F ov m pl)
   c1f pos f first (a0u pos (j9 [] X.env)) (a6J pos (a1z [] X.env))):=by rfl) :
  PE X (.Call (.Attribute o m apos) [] [] pos) (a1c C m sp dvs E ta j3):=by
 intro pins s σ H Q I h
 refine b6F (pl:=pl) (thn (he pins s σ H _ I h) fun u s1 ⟨x,H1,I1,rx,a,dx,fs,ex,ea,l,q⟩=>?_) ht
 subst ex
 obtain rfl:u=Value.ref a:=rx
 refine b1y I1 ea c hm l ?_
 exact PySem.W.callWith_K0 (first:=[.ref a]) I1.kIn hm.kp (b7l (us:=[.ref a]) (vs:=[.ref a]) F hr hb hd hx I1 (.cons rfl .nil) q)
structure Mk(K:Fg)(C f:Addr):Prop where
 makes:a5v K C=true
 init:I0 K (.ref C) "__init__" = some (some (.ref f))
 fn:a9w K (.ref f)=true
 kp:Z4 K (.ref C)=true
theorem c2w{Q:VK}{vs:List V}(M:Mk X.K C f)(F:N4 X.prog X.w X.K X.mg X.base CX k f fd ps sp)(hr:V6 (k+1) X.A)(hb:a4A X.K fd ps ds)(hd:L5 dvs ds)
  (hx:a7y CX X E) (I:Inv X pins σ H s) (r:L5 vs us)
  (h:∀x dx,H x=none->H dx=none->dx≠x->sp (.ref x::(vs++dvs)) (upd (upd H dx (.own x)) x (.ins C dx [])) (fun v H2=>v=.non/\Q (.ref x) H2) E) :
  wpAny (model X.prog X.w) X.A (call (.ref C) us) (EP X pins σ Q) X.xe s:=by
 have hq:=h (s.heap.objs.size+1) s.heap.objs.size (I.hok.fresh (a3q _)) (I.hok.fresh (j6 _)) (u9 (a6f _))
 have I2:=Inv.made (C:=C) I
 have r2:L5 (V.ref (s.heap.objs.size+1)::(vs++dvs)) (Value.ref (s.heap.objs.size+1)::(us++ds)):=.cons rfl (r.append hd)
 have hl:(Value.ref (s.heap.objs.size+1)::us++ds).length=ps.length:=by
  have e:=r2.length
  rw[F.len _ _ _ _ hq]at e
  exact e.symm
 refine wpAny_call (c3v (f:=f) I.kIn M.makes M.init (beq_iff_eq.mp M.fn) (a4f (F.run _ X.stack _ _ ⟨Value.ref (s.heap.objs.size+1)::us,[]⟩ (Value.ref (s.heap.objs.size+1)::(us++ds)) _ _ E (hr.make C us [])
  (I2.env0.make C us []) (hb _ (Value.ref (s.heap.objs.size+1)::us) I2.kIn hl) r2 hq) fun r s' hq'=>?_))
 cases r with
 | error e=>exact hx pins σ _ _ e s' I2 hq'
 | ok fl=>
  cases fl with
  | ret u=>
   obtain⟨v,H',I3,rv,ev,q3⟩:=I2.after hq'
   subst ev
   exact⟨rv,⟨V.ref (s.heap.objs.size+1),H',I3,rfl,q3⟩⟩
  | next=>exact False.elim hq'
  | brk=>exact False.elim hq'
  | cont=>exact False.elim hq'
theorem c5k(M:Mk X.K C f)(F:N4 X.prog X.w X.K X.mg X.base CX k f fd ps sp)(hr:V6 (k+1) X.A)(hg:Gl X x)(hm:X.mg x=some (.ref C))(hb:a4A X.K fd ps ds)(hd:L5 dvs ds)(hx:a7y CX X E)
  (ha:PA X (e::es) t) (hdb:(x == ("__debug__" : Str))=false:=by decide) (he:j9 (e::es) X.env=(false,eval e X.env)::j9 es X.env:=by rfl) (hpl:(a0u pos (j9 es X.env)).any (·.1)=false:=by rfl) :
  PE X (.Call (.Name x p) (e::es) [] pos) (b0D C sp dvs E t):=by
 intro pins s σ H Q I h
 refine a1q (b4i I hg hm ?_ hdb)
 refine a8A (h₀:=X.base) I.ok.mod.kin M.kp (thn (ha pos pins s σ H _ I h) fun us s1 ⟨vs,H1,I1,r,q⟩=>⟨I1.kIn,?_⟩) he hpl
 exact c2w M F hr hb hd hx I1 r q
end
section
variable {k:Nat}{fd:a0G}{ks:List Str}{sp:Sp}{E:XK}{x m:Str}{apos kpos:Pos}{o:Expr}{kws:List b3u}{t tk:TA}{nm:Option Str}
structure d1v(K:Fg)(fd:a0G)(ps ks:List Str)(g:List Value->List Value->List Value)(gV:List V->List V->List V):Prop where
 to:∀(s:i8) (us ws:List Value),K.In s.heap->(g us ws).length=ps.length->c1s s fd ⟨us,ks.zip ws⟩ (ps.zip (g us ws))
 rel:∀ {vs:List V} {us:List Value} {zs:List V} {ws:List Value},L5 vs us->L5 zs ws->L5 (gV vs zs) (g us ws)
variable {g:List Value->List Value->List Value}{gV:List V->List V->List V}
end
structure C4(N P:List Str)(sc:Scope):Prop where
 kind:sc.kind=.function
 co:sc.isCoroutine=false
 gen:sc.isGenerator=false
 nd:N.Nodup
 pre:N.take P.length=P
 par:∀x∈P,sc.names.lookup x=some .local\/sc.names.lookup x=some .cell
 nofree:∀y∈sc.names,y.2≠.free
theorem b3k{kindOf:Str->Option a6K}{x:Str}:∀ {binds:List (Str×Value)} {m:Str->Option Value},(∀v,(x,v)∉binds)->bindL kindOf binds m x=m x
 | [],_,_=>rfl
 | (n,v)::r,m,h=>by
  unfold bindL
  rw[b3k fun w hw=>h w (F9 _ hw)]
  split
  ·have:x≠n:=by rintro rfl;exact h v F4
   simp[this]
  ·rfl
theorem b3m{kindOf:Str->Option a6K}{x:Str}:∀ {binds:List (Str×Value)} {m:Str->Option Value},(∀v,(x,v)∉binds)->bindC kindOf binds m x=m x
 | [],_,_=>rfl
 | (n,v)::r,m,h=>by
  unfold bindC
  rw[b3m fun w hw=>h w (F9 _ hw)]
  split
  ·rfl
  ·have:x≠n:=by rintro rfl;exact h v F4
   simp[this]
theorem b3l{kindOf:Str->Option a6K}{x:Str}{v:Value}:∀ {P:List Str} {vs:List Value} {i:Nat} {m:Str->Option Value},P.Nodup->P[i]? = some x->vs[i]? = some v->kindOf x=some .local ->
  bindL kindOf (P.zip vs) m x=some v
 | [],_,_,_,_,h,_,_=>by simp at h
 | _::_,[],_,_,_,_,h,_=>by simp at h
 | p::P,w::vs,0,m,nd,h1,h2,hk=>by
  simp at h1 h2;subst h1;subst h2
  show bindL kindOf ((p,w)::P.zip vs) m p=_
  unfold bindL
  rw[b3k fun v hv=>(Y2.mp nd).1 (b3r hv).1,if_pos hk]
  simp
 | p::P,w::vs,i+1,m,nd,h1,h2,hk=>by
  show bindL kindOf ((p,w)::P.zip vs) m x=_
  unfold bindL
  exact b3l (i:=i) (Y2.mp nd).2 (by simpa using h1) (by simpa using h2) hk
theorem b3n{kindOf:Str->Option a6K}{x:Str}{v:Value}:∀ {P:List Str} {vs:List Value} {i:Nat} {m:Str->Option Value},P.Nodup->P[i]? = some x->vs[i]? = some v->kindOf x≠some .local ->
  bindC kindOf (P.zip vs) m x=some v
 | [],_,_,_,_,h,_,_=>by simp at h
 | _::_,[],_,_,_,_,h,_=>by simp at h
 | p::P,w::vs,0,m,nd,h1,h2,hk=>by
  simp at h1 h2;subst h1;subst h2
  show bindC kindOf ((p,w)::P.zip vs) m p=_
  unfold bindC
  rw[b3m fun v hv=>(Y2.mp nd).1 (b3r hv).1,if_neg hk]
  simp
 | p::P,w::vs,i+1,m,nd,h1,h2,hk=>by
  show bindC kindOf ((p,w)::P.zip vs) m x=_
  unfold bindC
  exact b3n (i:=i) (Y2.mp nd).2 (by simpa using h1) (by simpa using h2) hk
def a7U(N:List Str)(vs:List V):St:=vs.map some++C6 (N.length - vs.length) none
def b6e(CX:CXT)(P:C9)(w:World)(K:Fg)(mg:Str->Option Value)(base:Heap)(N:List Str)(qual:Str)(scope:Scope)(f:Addr)(cd:Value)(A:O0)(outer:List Env)(s:i8)(H:Hp)(E:XK):Cx where
 prog:=P
 w:=w
 K:=K
 mg:=mg
 base:=base
 A:=A.deeper (b4M qual scope s.heap.objs.size f cd)
 N:=N
 s₀:=s
 H₀:=H
 env:=b4M qual scope s.heap.objs.size f cd
 outer:=outer
 stack:=b4M qual scope s.heap.objs.size f cd::outer
 ex:=[]
 calm:=true
 fn:=fun _=>true
 pn:=[]
 xe:=fun e s'=>wpAny (model P w) (A.deeper (b4M qual scope s.heap.objs.size f cd)) (leaving (b4M qual scope s.heap.objs.size f cd) e) (fun _ s''=>CX outer H s E e s'') (fun e' s''=>CX outer H s E e' s'') s'
theorem b6h{sc:Scope}{n:Nat}{x:Str}(h:sc.names.lookup x=some .cell):∃c,(cellsFrom n sc.names []).lookup x=some c:=by
 have q:=b6D sc.names n [] (.inl h)
 exact a0s.mp q
theorem c0C{P:C9}{K:Fg}{mg:Str->Option Value}{base:Heap}{N:List Str}{qual:Str}{scope:Scope}{cd:Value}{A:O0}{outer:List Env}{s1:i8}{E:XK}{vs:List V}
  (S:C4 N ps scope) (hd:A.handled=none) (e0:b8k P w K mg base A outer s H) (hl:vs.length=ps.length) (r:L5 vs us)
  (x:InCallC s s.heap.objs.size (bindL (b4M qual scope s.heap.objs.size f cd).kindOf (ps.zip us) fun _=>none) (cellsFrom (s.heap.objs.size+1) scope.names []) (bindC (b4M qual scope s.heap.objs.size f cd).kindOf (ps.zip us) fun _=>none) s1) :
  Inv (b6e CX P w K mg base N qual scope f cd A outer s H E) [] (a7U N vs) H s1:=by
 have hpl:ps.length<=N.length:=by have:=congrArg c1l S.pre;rw[L9]at this;omega
 obtain⟨h1,tk,rfl,hk⟩:=x.done
 have noA:∀b:Addr,b∉(b6e CX P w K mg base N qual scope f cd A outer s H E).ex:=fun b z=>absurd (show b∈([]:List Addr)from z) (by simp)
 refine⟨⟨e0.mod,S.kind,rfl,rfl,j6 _,fun y z c h1 h2=>?_,fun y hy=>?_,fun y c _ h=>?_,fun _=>hd,Around.frames_deeper e0.frames,.inr ⟨rfl,rfl⟩,fun b z=>absurd z (noA b),e0.bs,e0.bsz,fun b _ _=>noA b,fun b z=>absurd z (noA b),e0.funs,e0.frf⟩,
  rfl,e0.bare,Un.kept hk,⟨_,x.toInCall.ns,fun i y v h1 h2 h3=>?_⟩,fun y c h=>⟨_,x.cell y c h⟩,e0.hok.fresh (j6 _),fun y c h=>?_,fun p hp=>absurd (show p∈([]:List (Addr×Obj))from hp) (by simp),e0.hok.kept hk,?_⟩
 ·exact name_of_addr x.apart (E1 h1) (E1 h2)
 ·have hy:scope.names.lookup y=some .cell\/scope.names.lookup y=some .free:=hy
  rcases hy with hy | hy
  ·exact b6h hy
  ·exact absurd rfl (S.nofree _ (E1 hy))
 ·exact a4a (x.above y c (E1 h))
 ·have hi:i<vs.length:=by
   unfold a7U at h2
   by_cases hi:i<vs.length
   ·exact hi
   ·rw[V1 (by simpa using hi)]at h2
    rw[S0]at h2
    split at h2 <;> cases h2
  have ha:vs[i]? = some v:=by
   unfold a7U at h2
   rw[v9 (by simpa using hi),b8]at h2
   cases e:vs[i]? with
   | none=>rw[e]at h2;cases h2
   | some a=>rw[e]at h2;cases h2;rfl
  obtain⟨u,hu,rv⟩:=r.get ha
  have hp:ps[i]? = some y:=by
   rw[<-S.pre,a5s (by omega)];exact h1
  have ndP:ps.Nodup:=by rw[<-S.pre];exact S.nd.sublist (List.take_sublist _ _)
  refine⟨u,rv,?_⟩
  rcases S.par y (X3 hp)with k | k
  ·exact .inl ⟨k,b3l ndP hp hu k⟩
  ·obtain⟨c,e⟩:=b6h (n:=s.heap.objs.size+1) k
   refine .inr ⟨.inl k,c,e,?_⟩
   have q:=x.cell y c e
   rw[b3n ndP hp hu (by show scope.names.lookup y≠_;rw[k];decide)]at q
   exact q
 ·exact e0.hok.fresh (a4a (x.above y c (E1 h)))
 ·unfold a7U
  show _=N.length
  rw[g8,a9,F2]
  omega
theorem d0F{P:C9}{K:Fg}{mg:Str->Option Value}{base:Heap}{k:Nat}{name qual:Str}{params:Arguments}{body:List Stmt}{scope:Scope}{dV kV doc pm cdv ct oc:Value}{an od:Option Addr}
  {osl:Array (Option Value)} {N ps:List Str} {sp:Sp} (lk:K.lookup f=some ⟨oc,od,.func (a1a name qual params body scope dV kV doc pm an cdv ct),osl⟩) (hcd:a6F K cdv qual=true) (S:C4 N ps scope)
  (len:∀vs H Q E,sp vs H Q E->vs.length=ps.length)
  (hbody:∀(A:O0) (outer:List Env) (s:i8) (H:Hp) (vs:List V) (Q:VK) (E:XK),V6 k (A.deeper (b4M qual scope s.heap.objs.size f cdv))->sp vs H Q E ->
   ∃t,PSs (b6e CX P w K mg base N qual scope f cdv A outer s H E) body t/\t { nx:=fun _ H'=>Q .non H',rt:=Q } (a7U N vs) H) :
  N4 P w K mg base CX (k+1) f (a1a name qual params body scope dV kV doc pm an cdv ct) ps sp:=by
 refine⟨len,fun A outer s H args us vs Q E hr e0 hb r hsp=>?_⟩
 have hl:=len _ _ _ _ hsp
 have KX:K.In s.heap:=e0.mod.kin.keeps fun b o e=>(e0.bs b o e).1
 have lim:s.heap.NoLimit:=e0.mod.nolimit.keeps fun b o e=>(e0.bs b o e).1
 have hkind:∀y∈ps.zip us,scope.names.lookup y.1=some .local\/(scope.names.lookup y.1=some .cell/\((cellsFrom (s.heap.objs.size+1) scope.names []).lookup y.1).isSome=true):=fun⟨n,v⟩ hy=>by
  rcases S.par n (b3r hy).1 with q | q
  ·exact .inl q
  ·exact .inr ⟨q,b6D _ _ _ (.inl q)⟩
 refine codeAny_call_function hr.depth (KX _ _ lk) rfl S.co S.gen rfl (PySem.W.codeRec_of KX hcd) (hb _ _ _ _ ?_)
 refine wpAny_newFunctionEnv_cells S.kind hkind fun env he s1 x=>?_
 subst he
 refine⟨lim.keeps x.toInCall.keep,codeAny_func ?_⟩
 obtain⟨t,ht,hq⟩:=hbody A outer s H vs Q E (hr.deeper _) hsp
 have I:Inv (b6e CX P w K mg base N qual scope f cdv A outer s H E) [] (a7U N vs) H s1:=c0C S hr.hd e0 hl r x
 refine a0m (ht [] s1 (a7U N vs) H _ I hq) (fun fl s' hs=>?_) fun e s' hs=>hs
 have fin:∀ {σ':St} {H':Hp} {v:V} {u:Value},Inv (b6e CX P w K mg base N qual scope f cdv A outer s H E) [] σ' H' s'->K5 v u->Q v H'->CE outer P w H s Q u s':=
  fun {σ' H' v u} J rv q=>⟨v,H',J.os,J.bare,J.base,J.hok,rv,q⟩
 cases fl with
 | ret u=>
  obtain⟨v,σ',H',J,rv,q⟩:=hs
  exact fin J rv q
 | next=>
  obtain⟨σ',H',J,q⟩:=hs
  exact fin (v:=V.non) (u:=Value.none) J rfl q
 | brk=>
  obtain⟨_,_,_,q⟩:=hs
  exact False.elim q
 | cont=>
  obtain⟨_,_,_,q⟩:=hs
  exact False.elim q
section
variable {x:Str}{t:TA}{id T:String}{r:List V->Hp->VK->Prop}
def tCB(r:List V->Hp->VK->Prop)(t:TA):TE:=fun σ H Q=>t σ H fun vs H1=>r vs H1 Q
theorem c3a(hc:a0k X (.builtin id) r)(hg:Gl X x)(hm:X.mg x=none)(hv:Y5 x=some (.builtin id))(ha:PA X (e::es) t)(hn:x ≠ "__name__" := by decide)(hdb:(x == ("__debug__" : Str))=false:=by decide)
  (he:j9 (e::es) X.env=(false,eval e X.env)::j9 es X.env:=by rfl) (hpl:(a0u pos (j9 es X.env)).any (·.1)=false:=by rfl):PE X (.Call (.Name x p) (e::es) [] pos) (tCB r t):=by
 intro pins s σ H Q I h
 refine a1q (a5a I hg hm hv ?_ hn hdb)
 exact a7C (thn (ha pos pins s σ H _ I h) fun us s1 ⟨vs,H1,I1,r1,q1⟩=>hc pins s1 σ H1 vs us Q I1 r1 q1) he hpl
theorem c0b(hc:a0k X (.type T) r)(hg:Gl X x)(hm:X.mg x=none)(hv:Y5 x=some (.type T))(ha:PA X (e::es) t)(hn:x ≠ "__name__" := by decide)(hdb:(x == ("__debug__" : Str))=false:=by decide)
  (he:j9 (e::es) X.env=(false,eval e X.env)::j9 es X.env:=by rfl) (hpl:(a0u pos (j9 es X.env)).any (·.1)=false:=by rfl):PE X (.Call (.Name x p) (e::es) [] pos) (tCB r t):=by
 intro pins s σ H Q I h
 refine a1q (a5a I hg hm hv ?_ hn hdb)
 exact Q6 (thn (ha pos pins s σ H _ I h) fun us s1 ⟨vs,H1,I1,r1,q1⟩=>hc pins s1 σ H1 vs us Q I1 r1 q1) he hpl
end
section
variable {κ:Type}[DecidableEq κ]
def a3R(kvs:List (κ×V))(k:κ):Option V:=(kvs.find? fun kv=>decide (kv.1=k)).map (·.2)
def a1g(kvs:List (κ×V))(k:κ)(v:V):List (κ×V):=
 if(kvs.any fun kv=>decide (kv.1=k))=true then kvs.map (fun kv=>if kv.1=k then (kv.1,v)else kv)else kvs++[(k,v)]
theorem a7K{p:κ×V}{r:List (κ×V)}{k:κ}(e:p.1=k):a3R (p::r) k=some p.2:=by simp[a3R,a0r,e]
theorem a7L{p:κ×V}{r:List (κ×V)}{k:κ}(e:¬p.1=k):a3R (p::r) k=a3R r k:=by simp[a3R,a0r,e]
theorem a2s(k:κ):∀kvs:List (κ×V),(kvs.any fun kv=>decide (kv.1=k))=(a3R kvs k).isSome
 | []=>rfl
 | p::r=>by
  rw[a0S]
  by_cases e:p.1=k
  ·simp only[a7K e,d2G e,Bool.true_or,Option.isSome_some]
  ·rw[a7L e,d2F e,d0N];exact a2s k r
theorem a5Y(kvs:List (κ×V))(k:κ)(v:V):(a1g kvs k v).length<=kvs.length+1:=by
 unfold a1g
 split
 ·rw[a9];omega
 ·rw[g8,A2,a3r];omega
theorem a6C.isSome_eq{o:Option V}{u:Option Value}(r:a6C o u):o.isSome=u.isSome:=by
 cases o with
 | none=>cases u with
  | none=>rfl
  | some _=>exact(show False from r).elim
 | some _=>cases u with
  | none=>exact(show False from r).elim
  | some _=>rfl
theorem KV.val{kvs:List (κ×V)}{vs:List (κ×Value)}(r:KV kvs vs)(k:κ):a6C (a3R kvs k) (c1o vs k):=by
 unfold KV at r
 induction r with
 | nil=>exact True.intro
 | @cons p q ps qs h t ih=>
  obtain⟨h1,h2⟩:=h
  by_cases e:p.1=k
  ·have e':q.1=k:=h1.symm.trans e
   have b:c1o (q::qs) k=some q.2:=by simp[c1o,a0r,e']
   rw[a7K e,b];exact h2
  ·have e':¬q.1=k:=fun z=>e (h1.trans z)
   have b:c1o (q::qs) k=c1o qs k:=by simp[c1o,a0r,e']
   rw[a7L e,b];exact ih
theorem KV.any{kvs:List (κ×V)}{vs:List (κ×Value)}(r:KV kvs vs)(k:κ):(kvs.any fun kv=>decide (kv.1=k))=vs.any fun kv=>decide (kv.1=k):=by
 unfold KV at r
 induction r with
 | nil=>rfl
 | cons h t ih=>rw[a0S,a0S,ih,h.1]
theorem KV.repl{kvs:List (κ×V)}{vs:List (κ×Value)}(r:KV kvs vs)(k:κ)(ry:K5 y u) :
  KV (kvs.map fun kv=>if kv.1=k then (kv.1,y)else kv) (vs.map fun kv=>if kv.1=k then (kv.1,u)else kv):=by
 unfold KV at r ⊢
 induction r with
 | nil=>exact .nil
 | @cons p q ps qs h t ih=>
  rw[E2,E2]
  refine .cons ?_ ih
  obtain⟨h1,h2⟩:=h
  by_cases e:p.1=k
  ·rw[if_pos e,if_pos (h1.symm.trans e)];exact⟨h1,ry⟩
  ·rw[if_neg e,if_neg (fun z=>e (h1.trans z))];exact⟨h1,h2⟩
theorem KV.put{kvs:List (κ×V)}{vs:List (κ×Value)}(r:KV kvs vs)(k:κ)(ry:K5 y u):KV (a1g kvs k y) (c9x vs k u):=by
 unfold a1g c9x
 rw[r.any k]
 by_cases e:(vs.any fun kv=>decide (kv.1=k))=true
 ·rw[if_pos e,if_pos e];exact r.repl k ry
 ·rw[if_neg e,if_neg e];exact Paired.snoc r ⟨rfl,ry⟩
theorem KV.keys{kvs:List (κ×V)}{vs:List (κ×Value)}(r:KV kvs vs):kvs.map (·.1)=vs.map (·.1):=by
 unfold KV at r
 induction r with
 | nil=>rfl
 | cons h t ih=>rw[E2,E2,ih,h.1]
theorem KV.length{kvs:List (κ×V)}{vs:List (κ×Value)}(r:KV kvs vs):kvs.length=vs.length:=Paired.length r
end
theorem b1w{P:C9}{k:Key}(r:K5 (kV k) u):(X7 P w).is k u=true:=by
 cases k with
 | inl i=>obtain⟨t,e⟩:=(show ∃t,u=Value.int i t from r);subst e;exact b5R P w i t
 | inr x=>obtain⟨t,e⟩:=(show ∃t,u=Value.str x t from r);subst e;exact b5Q P w x t
theorem b3e{P:C9}:∀ {ks:List Key} {us:List Value},L5 (ks.map kV) us->ItemsAre (X7 P w) ks us
 | [],_,r=>by rw[b9e]at r;cases r;exact .nil
 | k::ks,_,r=>by
  rw[E2]at r
  cases r with
  | cons h t=>exact .cons (b1w h) (b3e t)
abbrev KT(H:Hp):List (List Key×V)->List (List Key×Addr×Value)->Prop:=Paired fun p q=>p.1=q.1/\H q.2.1=some (.tup (p.1.map kV))/\K5 p.2 q.2.2
theorem KT.val{kvs:List (List Key×V)}{xs:List (List Key×Addr×Value)}(r:KT H kvs xs)(k:List Key):a6C (a3R kvs k) ((atKey xs k).map (·.2)):=by
 induction r with
 | nil=>exact True.intro
 | @cons p q ps qs h t ih=>
  obtain⟨h1,_,h2⟩:=h
  by_cases e:p.1=k
  ·have e':q.1=k:=h1.symm.trans e
   have b:atKey (q::qs) k=some q.2:=by simp[atKey,a0r,e']
   rw[a7K e,b];exact h2
  ·have e':¬q.1=k:=fun z=>e (h1.trans z)
   have b:atKey (q::qs) k=atKey qs k:=by simp[atKey,a0r,e']
   rw[a7L e,b];exact ih
theorem KT.repl{kvs:List (List Key×V)}{xs:List (List Key×Addr×Value)}(r:KT H kvs xs)(k:List Key)(ry:K5 y u) :
  KT H (kvs.map fun kv=>if kv.1=k then (kv.1,y)else kv) (xs.map (putAt k u)):=by
 induction r with
 | nil=>exact .nil
 | @cons p q ps qs h t ih=>
  rw[E2,E2]
  refine .cons ?_ ih
  obtain⟨h1,h2,h3⟩:=h
  unfold putAt
  by_cases e:p.1=k
  ·rw[if_pos e,if_pos (h1.symm.trans e)];exact⟨h1,h2,ry⟩
  ·rw[if_neg e,if_neg (fun z=>e (h1.trans z))];exact⟨h1,h2,h3⟩
theorem KT.put{kvs:List (List Key×V)}{xs:List (List Key×Addr×Value)}(r:KT H kvs xs)(k:List Key)(hb:H b=some (.tup (k.map kV)))(ry:K5 y u) :
  KT H (a1g kvs k y) (storedH xs k b u):=by
 have e:(kvs.any fun kv=>decide (kv.1=k))=(atKey xs k).isSome:=by
  rw[a2s,(r.val k).isSome_eq,a9M]
 unfold a1g storedH
 rw[e]
 by_cases q:(atKey xs k).isSome=true
 ·rw[if_pos q,if_pos q];exact r.repl k ry
 ·rw[if_neg q,if_neg q];exact Paired.snoc r ⟨rfl,hb,ry⟩
theorem KT.keeps{kvs:List (List Key×V)}{xs:List (List Key×Addr×Value)}(r:KT H kvs xs)(ht:∀b ys,H b=some (.tup ys)->H' b=some (.tup ys)):KT H' kvs xs:=
 Paired.mapP r fun _ _ z=>⟨z.1,ht _ _ z.2.1,z.2.2⟩
section
variable {P:C9}
theorem c6P{u:HO}(ok:HOk P w H h)(e:Rd H a u):a0e P w H h a u:=e.ok ok
theorem b6b(ok:HOk P w H h)(e:Rd H a (.dK kvs)):kvs.length<=u8/\(a == a0J)=false/\∃vs,KV kvs vs/\h.DictOf (X7 P w) a vs:=
 show a0e P w H h a (.dK kvs)from c6P ok e
theorem c3O(ok:HOk P w H h)(e:H a=some (.dK kvs)):kvs.length<=u8/\(a == a0J)=false/\∃vs,KV kvs vs/\h.DictOf (X7 P w) a vs:=b6b ok (.inl e)
theorem b1u{ks:List Key}(ok:HOk P w H h)(e:H a=some (.tup (ks.map kV))):(c1p (X7 P w)).is h ks a:=by
 obtain⟨_,its,r,o,h1,h2,n,h3⟩:=(show a0e P w H h a (.tup (ks.map kV))from ok a _ e)
 exact⟨o,its.toArray,n,h1,h2,h3,by simpa using b3e r⟩
theorem b5Z{kvs:List (List Key×V)}(ok:HOk P w H h)(e:Rd H a (.dT kvs)):kvs.length<=u8/\(a == a0J)=false /\
  ∃xs,KT H kvs xs/\h.DictOfH (c1p (X7 P w)) a xs:=by
 obtain⟨z,y,xs,r,o,es,ep,h1,h2,h3,h4,h5⟩:=(show a0e P w H h a (.dT kvs)from c6P ok e)
 refine⟨z,y,xs,r,o,es,ep,h1,h2,h3,h4,fun x hx=>?_,h5⟩
 have all:∀ {l:List (List Key×V)} {m:List (List Key×Addr×Value)},KT H l m->∀x∈m,(c1p (X7 P w)).is h x.1 x.2.1:=by
  intro l m q
  induction q with
  | nil=>intro x hx;exact nomatch hx
  | @cons p q ps qs hq t ih=>
   intro x hx
   rcases j4.mp hx with e | hx
   ·subst e
    exact b1u ok (by rw[<-hq.1];exact hq.2.1)
   ·exact ih x hx
 exact all r x hx
theorem c3M{kvs:List (List Key×V)}(ok:HOk P w H h)(e:H a=some (.dT kvs)):kvs.length<=u8/\(a == a0J)=false /\
  ∃xs,KT H kvs xs/\h.DictOfH (c1p (X7 P w)) a xs:=b5Z ok (.inl e)
end
def a3u(H:Hp)(a:Addr)(y:V)(r:Option V):Prop:=
 (∃kvs k,Rd H a (.dK kvs)/\y=kV k/\r=a3R kvs k)\/∃kvs k b,Rd H a (.dT kvs)/\y=.ref b/\H b=some (.tup (k.map kV))/\r=a3R kvs k
def a9U(H:Hp)(a:Addr)(y v:V)(H':Hp):Prop:=
 (∃kvs k,H a=some (.dK kvs)/\y=kV k/\kvs.length<u8/\H'=upd H a (.dK (a1g kvs k v))) \/
 ∃kvs k b,H a=some (.dT kvs)/\y=.ref b/\H b=some (.tup (k.map kV))/\kvs.length<u8/\H'=upd H a (.dT (a1g kvs k v))
theorem a3u.k{k:Key}(e:H a=some (.dK kvs)):a3u H a (kV k) (a3R kvs k):=.inl ⟨kvs,k,.inl e,rfl,rfl⟩
theorem a9U.k{k:Key}(e:H a=some (.dK kvs))(hl:kvs.length<u8):a9U H a (kV k) v (upd H a (.dK (a1g kvs k v))):=.inl ⟨kvs,k,e,rfl,hl,rfl⟩
theorem a9U.t{kvs:List (List Key×V)}{k:List Key}(e:H a=some (.dT kvs))(eb:H b=some (.tup (k.map kV)))(hl:kvs.length<u8) :
  a9U H a (.ref b) v (upd H a (.dT (a1g kvs k v))):=.inr ⟨kvs,k,b,e,rfl,eb,hl,rfl⟩
section
variable {r:Value}{o:Option V}{A:O0}{E:Value->i8->Prop}
theorem Inv.big(I:Inv X pins σ H s):a0J<s.heap.objs.size:=by
 have h:A7<s.heap.objs.size:=(I.mod.glob.keeps I.bk).lt
 exact Nat.lt_trans (by decide) h
theorem c0H(hu:A.units+1<cLine)(I:Inv X pins σ H s)(g:a3u H a y (some v))(ry:K5 y u)(h:∀w' s',Inv X pins σ H s'->K5 v w'->Q w' s') :
  wpAny (model X.prog X.w) A (b3t (.ref a) u) Q E s:=by
 rcases g with ⟨kvs,k,e,ey,l⟩ | ⟨kvs,k,b,e,ey,eb,l⟩
 ·subst ey
  obtain⟨z,hd,vs,rel,dd⟩:=b6b I.hok e
  obtain⟨w',hw,rw'⟩:=a6C.some_of (v:=v) (o:=c1o vs k) (by rw[l];exact rel.val k)
  exact wpAny_getItem_of (b1w ry) dd.mapOf hw (h w' _ (I.tok _) rw')
 ·subst ey
  cases (show u=Value.ref b from ry)
  obtain⟨z,hd,xs,rel,dd⟩:=b5Z I.hok e
  obtain⟨w',hw,rw'⟩:=a6C.some_of (v:=v) (o:=(atKey xs k).map (·.2)) (by rw[l];exact rel.val k)
  obtain⟨p,hp,hp2⟩:=l9.mp hw
  refine wpAny_getItem_heap (a6I hu) (b1u I.hok eb) dd hp ?_
  rw[hp2]
  exact h w' _ (I.tok _) rw'
theorem d1s(hu:A.units+1<cLine)(I:Inv X pins σ H s)(g:a3u H a y o)(ry:K5 y u)(h:∀s',Inv X pins σ H s'->Q (.bool o.isSome) s') :
  wpAny (model X.prog X.w) A (A3 .In u (.ref a)) Q E s:=by
 rcases g with ⟨kvs,k,e,ey,l⟩ | ⟨kvs,k,b,e,ey,eb,l⟩
 ·subst ey
  obtain⟨z,hd,vs,rel,dd⟩:=b6b I.hok e
  refine wpAny_in_of (b1w ry) hd dd.mapOf ?_
  rw[<-(rel.val k).isSome_eq,<-l]
  exact h _ (I.tok _)
 ·subst ey
  cases (show u=Value.ref b from ry)
  obtain⟨z,hd,xs,rel,dd⟩:=b5Z I.hok e
  refine wpAny_in_heap (a6I hu) (b1u I.hok eb) hd dd ?_
  have q:=(rel.val k).isSome_eq
  rw[a9M]at q
  rw[<-q,<-l]
  exact h _ (I.tok _)
theorem c6m(hu:A.units+1<cLine)(I:Inv X pins σ H s)(g:a3u H a y o)(ry:K5 y u)(h:∀s',Inv X pins σ H s'->Q (.bool (!o.isSome)) s') :
  wpAny (model X.prog X.w) A (A3 .NotIn u (.ref a)) Q E s:=by
 rcases g with ⟨kvs,k,e,ey,l⟩ | ⟨kvs,k,b,e,ey,eb,l⟩
 ·subst ey
  obtain⟨z,hd,vs,rel,dd⟩:=b6b I.hok e
  refine wpAny_notIn_of (b1w ry) hd dd.mapOf ?_
  rw[<-(rel.val k).isSome_eq,<-l]
  exact h _ (I.tok _)
 ·subst ey
  cases (show u=Value.ref b from ry)
  obtain⟨z,hd,xs,rel,dd⟩:=b5Z I.hok e
  refine wpAny_notIn_heap (a6I hu) (b1u I.hok eb) hd dd ?_
  have q:=(rel.val k).isSome_eq
  rw[a9M]at q
  rw[<-q,<-l]
  exact h _ (I.tok _)
theorem b4q{ob:HO}(I:Inv X pins σ H s)(mu:Mut (H a))(hs:Heap.SameBut a s.heap h')(he:∃q,h'.get? a=some q)(new:a0e X.prog X.w (upd H a ob) h' a ob) :
  Inv X pins σ (upd H a ob) { s with heap:=h',toks:=t' }:=
 I.write (x:=a) (e:=a) mu (.inl rfl) (fun b q hb z=>(hs.2 b hb).trans z) he new
theorem b7Z{P:C9}{vs:List (Key×Value)}(z:kvs.length<=u8)(hd:(a == a0J)=false)(rel:KV kvs vs)(dd:h'.DictOf (X7 P w) a vs) :
  a0e P w H' h' a (.dK kvs):=⟨z,hd,vs,rel,dd⟩
theorem c0G{Q:Unit->i8->Prop}(hu:A.units+1<cLine)(I:Inv X pins σ H s)(g:a9U H a y v H')(ry:K5 y u)(rv:K5 v r)(h:∀s',Inv X pins σ H' s'->Q () s') :
  wpAny (model X.prog X.w) A (c7b (.ref a) u r) Q E s:=by
 rcases g with ⟨kvs,k,e,ey,l,eH⟩ | ⟨kvs,k,b,e,ey,eb,l,eH⟩
 ·subst ey eH
  obtain⟨z,hd,vs,rel,dd⟩:=c3O I.hok e
  have hz:vs.length<=u8:=by rw[<-rel.length];exact z
  have hl:(a1g kvs k v).length<=u8:=by have:=a5Y kvs k v;omega
  refine wpAny_setItem_pairs (hsz:=hz) (b1w ry) dd fun h' dd' hs=>h _ ?_
  have he:∃q,h'.get? a=some q:=let⟨q,_,_,hq,_⟩:=dd'; ⟨q,hq⟩
  exact b4q I (by rw[e];exact True.intro) hs he (b7Z hl hd (rel.put k rv) dd')
 ·subst ey eH
  cases (show u=Value.ref b from ry)
  obtain⟨z,hd,xs,rel,dd⟩:=c3M I.hok e
  have hz:xs.length<=u8:=by rw[<-Paired.length rel];exact z
  have hl:(a1g kvs k v).length<=u8:=by have:=a5Y kvs k v;omega
  refine wpAny_setItem_heap (hsz:=hz) (a6I hu) (b1u I.hok eb) dd fun h' dd' hs=>h _ ?_
  obtain⟨q,es,ep,hq,h2,h3,h4,_,h5⟩:=dd'
  refine b4q I (by rw[e];exact True.intro) hs ⟨q,hq⟩ ⟨hl,hd,_,(rel.put k eb rv).keeps fun c ys ec=>?_,q,es,ep,hq,h2,h3,h4,h5⟩
  rw[j7 (S8 ec e (fun z=>nomatch z))]
  exact ec
end
section
variable {k:Key}{A:O0}{E:Value->i8->Prop}
end
def c9e(i:Expr):Prop:=∀ov iv,c1q i false ov iv=operate [ov,iv] (b3t ov iv)
theorem c4y{prog:C9}{A:O0}{E:Value->i8->Prop}{env:Env}{value slice:Expr}{T id:String}
  (hl:c6F (.type T) "__getitem__" = pure (some (.builtin id))) (hs:c9e slice)
  (h:wpAny (model prog w) A (eval value env) (fun o s₁=>wpAny (model prog w) A (eval slice env) (fun i s₂=>s₂.TypeIs o T/\wpAny (model prog w) A (b3t o i) Q E s₂) E s₁) E s) :
  wpAny (model prog w) A (eval (.Subscript value slice pos) env) Q E s:=by
 refine Subscript_ (a0m h (fun o s₁ h₁=>a0m h₁ (fun i s₂ h₂=>?_) fun _ _ x=>x) fun _ _ x=>x)
 obtain⟨hT,h₂⟩:=h₂
 unfold c7a
 refine b6 ?_
 rw[getitemInPython_of_ne hT.not_modules]
 refine b6 (wpAny_specialOf hT hl ?_)
 have fin:wpAny (model prog w) A (c1q slice false o i) (fun r s₃=>wpAny (model prog w) A (letTemporaryGo value o r >>= fun _=>pure r) Q E s₃) E s₂:=by
  rw[hs o i]
  exact wpAny_operating (a0m h₂ (fun r s₃ h₃=>b6 (wpAny_letTemporaryGo (d7 h₃))) fun _ _ x=>x)
 first
  | exact d7 (b6 fin)
  | exact b6 (d7 (b6 fin))
  | exact b6 fin
theorem b6d{o:Option V}(I:Inv X pins σ H s)(g:a3u H a y o):s.TypeIs (.ref a) "dict" := by
 rcases g with ⟨kvs,k,e,_,_⟩ | ⟨kvs,k,b,e,_,_,_⟩
 ·obtain⟨_,_,vs,_,dd⟩:=b6b I.hok e
  exact dd.typeIs
 ·obtain⟨_,_,xs,_,dd⟩:=b5Z I.hok e
  exact dd.typeIs
def b0F(td ty:TE):TE:=fun σ H Q=>td σ H fun x H1=>ty σ H1 fun y H2=>∃a v,x=.ref a/\a3u H2 a y (some v)/\Q v H2
def b3A(ty td:TE):TE:=fun σ H Q=>ty σ H fun y H1=>td σ H1 fun x H2=>∃a o,x=.ref a/\a3u H2 a y o/\Q (.bl o.isSome) H2
def a1C(ty td:TE):TE:=fun σ H Q=>ty σ H fun y H1=>td σ H1 fun x H2=>∃a o,x=.ref a/\a3u H2 a y o/\Q (.bl (!o.isSome)) H2
def a3G(td ty tv:TE):TS:=fun D σ H=>tv σ H fun v H1=>td σ H1 fun x H2=>ty σ H2 fun y H3=>∃a H4,x=.ref a/\a9U H3 a y v H4/\D.nx σ H4
section
variable {o i value:Expr}{tpos:Pos}{td ty tv:TE}
theorem c5n(hu:X.A.units+1<cLine)(ho:PE X o td)(hi:PE X i ty)(hs:c9e i):PE X (.Subscript o i pos) (b0F td ty):=by
 intro pins s σ H Q I h
 refine c4y PySem.F.slot_dict_getitem.lookup hs (thn (ho pins s σ H _ I h) fun u s1 ⟨x,H1,I1,rx,q1⟩=>thn (hi pins s1 σ H1 _ I1 q1) fun iv s2 ⟨y,H2,I2,ry,a,v,ex,g,q2⟩=>?_)
 subst ex
 obtain rfl:u=Value.ref a:=rx
 exact⟨b6d I2 g,c0H hu I2 g ry fun w' s3 I3 rw'=>⟨v,H2,I3,rw',q2⟩⟩
theorem c3b(hu:X.A.units+1<cLine)(hi:PE X i ty)(ho:PE X o td):PC X .In i o (b3A ty td):=by
 intro pins s σ H Q I h
 refine thn (hi pins s σ H _ I h) fun iv s1 ⟨y,H1,I1,ry,q1⟩=>thn (ho pins s1 σ H1 _ I1 q1) fun u s2 ⟨x,H2,I2,rx,a,ov,ex,g,q2⟩=>?_
 subst ex
 obtain rfl:u=Value.ref a:=rx
 exact d1s hu I2 g ry fun s3 I3=>⟨.bl ov.isSome,H2,I3,rfl,q2⟩
theorem c0c(hu:X.A.units+1<cLine)(hi:PE X i ty)(ho:PE X o td):PC X .NotIn i o (a1C ty td):=by
 intro pins s σ H Q I h
 refine thn (hi pins s σ H _ I h) fun iv s1 ⟨y,H1,I1,ry,q1⟩=>thn (ho pins s1 σ H1 _ I1 q1) fun u s2 ⟨x,H2,I2,rx,a,ov,ex,g,q2⟩=>?_
 subst ex
 obtain rfl:u=Value.ref a:=rx
 exact c6m hu I2 g ry fun s3 I3=>⟨.bl (!ov.isSome),H2,I3,rfl,q2⟩
theorem c5b(hu:X.A.units+1<cLine)(ho:PE X o td)(hi:PE X i ty)(hv:PE X value tv)(hs:a3a value (some (.Subscript o i pos')) pos.line X.env=pure false) :
  PS X (.Assign [.Subscript o i pos'] value pos) (a3G td ty tv):=by
 intro pins s σ H D I h
 refine wpAny_Assign_Subscript (thn (hv pins s σ H _ I h) fun r s1 ⟨v,H1,I1,rv,q1⟩=>thn (ho pins s1 σ H1 _ I1 q1) fun u s2 ⟨x,H2,I2,rx,q2⟩=>thn (hi pins s2 σ H2 _ I2 q2) fun iv s3 ⟨y,H3,I3,ry,a,H4,ex,g,q3⟩=>?_) hs
 subst ex
 obtain rfl:u=Value.ref a:=rx
 exact c0G hu I3 g ry rv fun s4 I4=>⟨σ,H4,I4,q3⟩
end
theorem b6c{P:C9}(h:Heap)(hb:a0J<h.objs.size):a0e P w H (h.push { cls:=.type "dict",data:=.dict #[] }) h.objs.size (.dK []):=
 ⟨L6 _,beq_eq_false_iff_ne.mpr (Ne.symm (u9 hb)),[],.nil,b9h h⟩
theorem c3N{P:C9}(h:Heap)(hb:a0J<h.objs.size):a0e P w H (h.push { cls:=.type "dict",data:=.dict #[] }) h.objs.size (.dT []):=
 ⟨L6 _,beq_eq_false_iff_ne.mpr (Ne.symm (u9 hb)),[],.nil,_,#[],0,l7 _ rfl,⟨rfl,rfl,rfl⟩,rfl,rfl,c9s⟩
def b0E:TE:=fun _ H Q=>∀p,H p=none->Q (.ref p) (upd H p (.dK []))
def b6T:TE:=fun _ H Q=>∀p,H p=none->Q (.ref p) (upd H p (.dT []))
section
theorem c2X:PE X (.Dict [] [] pos) b0E:=fun pins s σ H Q I h=>
 wpAny_Dict_empty ⟨.ref s.heap.objs.size,_,I.laid (a:=s.heap.objs.size) (o:=.dK []) (t':=s.toks) (fun _ _ q=>d5 _ q) (j6 _) (b6c s.heap I.big),rfl,h _ (I.hok.fresh (j6 _))⟩
theorem c2W:PE X (.Dict [] [] pos) b6T:=fun pins s σ H Q I h=>
 wpAny_Dict_empty ⟨.ref s.heap.objs.size,_,I.laid (a:=s.heap.objs.size) (o:=.dT []) (t':=s.toks) (fun _ _ q=>d5 _ q) (j6 _) (c3N s.heap I.big),rfl,h _ (I.hok.fresh (j6 _))⟩
end
def b6S:List (TE×TE)->St->Hp->(List (V×V)->Hp->Prop)->Prop
 | [],_,H,Q=>Q [] H
 | (tk,tv)::r,σ,H,Q=>tk σ H fun x H1=>tv σ H1 fun y H2=>b6S r σ H2 fun ps H3=>Q ((x,y)::ps) H3
abbrev VV:List (V×V)->List (Value×Value)->Prop:=Paired fun p q=>K5 p.1 q.1/\K5 p.2 q.2
def PPs(X:Cx)(pos:Pos)(keys:List (Option Expr))(values:List Expr)(trs:List (TE×TE)):Prop:=
 ∀(pins:List (Addr×Obj)) (s:i8) (σ:St) (H:Hp) (Q:List (V×V)->Hp->Prop),Inv X pins σ H s->b6S trs σ H Q ->
  wpAny (model X.prog X.w) X.A (evalPairs (pairTrees keys values X.env pos)) (fun vs s'=>∃ps H',Inv X pins σ H' s'/\VV ps vs/\Q ps H') X.xe s
theorem c5d:PPs X pos [] [] []:=fun pins s σ H Q I h=>pairTrees_nil_walk ⟨[],H,I,.nil,h⟩
theorem c2Q{k v:Expr}{ks:List (Option Expr)}{vs:List Expr}{tk tv:TE}{trs:List (TE×TE)}(hk:PE X k tk)(hv:PE X v tv)(hr:PPs X pos ks vs trs) :
  PPs X pos (some k::ks) (v::vs) ((tk,tv)::trs):=fun pins s σ H Q I h=>
 pairTrees_cons_walk (thn (hk pins s σ H _ I h) fun u s1 ⟨x,H1,I1,rx,q1⟩=>thn (hv pins s1 σ H1 _ I1 q1) fun w2 s2 ⟨y,H2,I2,ry,q2⟩=>
  thn (hr pins s2 σ H2 _ I2 q2) fun ws s3 ⟨ps,H3,I3,rel,q3⟩=>⟨(x,y)::ps,H3,I3,.cons ⟨rx,ry⟩ rel,q3⟩)
def a7r(kvs more:List (Key×V)):List (Key×V):=more.foldl (fun acc kv=>a1g acc kv.1 kv.2) kvs
theorem KV.merge:∀ {more:List (Key×V)} {rs:List (Key×Value)} {kvs:List (Key×V)} {vs:List (Key×Value)},KV more rs->KV kvs vs->KV (a7r kvs more) (merged vs rs):=by
 intro more rs kvs vs r
 unfold KV at r
 induction r generalizing kvs vs with
 | nil=>intro q;exact q
 | @cons p q ps qs h t ih=>
  intro r0
  have e:KV (a1g kvs p.1 p.2) (c9x vs q.1 q.2):=by
   have:=r0.put p.1 h.2
   rw[<-h.1];exact this
  exact ih e
theorem a6P:∀(more kvs:List (Key×V)),(a7r kvs more).length<=kvs.length+more.length
 | [],kvs=>by show kvs.length<=kvs.length+0;omega
 | p::r,kvs=>by
  have h1:=a6P r (a1g kvs p.1 p.2)
  have h2:=a5Y kvs p.1 p.2
  show(a7r (a1g kvs p.1 p.2) r).length<=_
  rw[A2];omega
theorem b1H{P:C9}{w:World}:∀ {kvs:List (Key×V)} {ws:List (Value×Value)},VV (kvs.map fun kv=>(kV kv.1,kv.2)) ws->∃rs,Carries (X7 P w) ws rs/\KV kvs rs
 | [],_,r=>by rw[b9e]at r;cases r;exact⟨[],True.intro,.nil⟩
 | p::kvs,_,r=>by
  rw[E2]at r
  cases r with
  | @cons a b as bs h t=>
   obtain⟨rs,c,q⟩:=b1H (P:=P) (w:=w) t
   obtain⟨b1,b2⟩:=b
   exact⟨(p.1,b2)::rs,⟨b1w h.1,rfl,c⟩,.cons ⟨rfl,h.2⟩ q⟩
def b5h(trs:List (TE×TE)):TE:=fun σ H Q=>∀p,H p=none->b6S trs σ (upd H p (.dK [])) fun ps H2=>H2 p=some (.dK [])/\∃kvs:List (Key×V),ps=kvs.map (fun kv=>(kV kv.1,kv.2))/\kvs.length<=15/\Q (.ref p) (upd H2 p (.dK (a7r [] kvs)))
theorem c5m{keys:List (Option Expr)}{values:List Expr}{trs:List (TE×TE)}(h:PPs X pos keys values trs)(hall:keys.all (·.isSome)=true)(hl:keys.length=values.length)(h0:keys≠[])
  (h15:keys.length<=15):PE X (.Dict keys values pos) (b5h trs):=by
 intro pins s σ H Q I q
 have hn:=I.hok.fresh (j6 s.heap.objs.size)
 have I1:=I.laid (a:=s.heap.objs.size) (o:=.dK []) (h':=s.heap.push { cls:=.type "dict",data:=.dict #[] }) (t':=s.toks) (fun _ _ q=>d5 _ q) (j6 _) (b6c s.heap I.big)
 refine wpAny_Dict_walk (knd:=X7 X.prog X.w) hall hl h0 h15 (thn (h pins _ σ _ _ I1 (q _ hn)) fun ws s2 ⟨ps,H2,I2,rel,e,kvs,ep,lk,q2⟩=>?_)
 subst ep
 obtain⟨rs,c,rk⟩:=b1H (P:=X.prog) (w:=X.w) rel
 obtain⟨z,hd,vs0,r0,dd⟩:=c3O I2.hok e
 cases r0
 refine⟨rs,c,dd,fun h' dd' hs=>⟨.ref s.heap.objs.size,_,?_,rfl,q2⟩⟩
 have hz:(a7r [] kvs).length<=u8:=by
  have h1:=a6P kvs []
  rw[a3r]at h1
  rw[sizeLine_eq];omega
 have he:∃q,h'.get? s.heap.objs.size=some q:=let⟨q,_,_,hq,_⟩:=dd'; ⟨q,hq⟩
 exact b4q I2 (by rw[e];exact True.intro) hs he (b7Z hz hd (rk.merge .nil) dd')
structure M1(X:Cx)(o:Expr)(m:Str)(apos:Pos)(e:Expr)(cpos:Pos):Prop where
 base:a0Z o m X.env (eval o X.env)=eval o X.env
 few:((a0u cpos (j9 [e] X.env)).all (fun x => !x.1)&&(a6J cpos (a1z [] X.env)).all (fun x=>x.1.isSome)
  && decide (([e]:List Expr).length+([]:List b3u).length+(if([]:List b3u).isEmpty then 0 else 1)<30))=true
 line:(apos.endLine == cpos.line)=true
 trees:a0u cpos (j9 [e] X.env)=[(false,eval e X.env)]
structure M2(X:Cx)(o:Expr)(m:Str)(apos:Pos)(e f:Expr)(cpos:Pos):Prop where
 base:a0Z o m X.env (eval o X.env)=eval o X.env
 few:((a0u cpos (j9 [e,f] X.env)).all (fun x => !x.1)&&(a6J cpos (a1z [] X.env)).all (fun x=>x.1.isSome)
  && decide (([e,f]:List Expr).length+([]:List b3u).length+(if([]:List b3u).isEmpty then 0 else 1)<30))=true
 line:(apos.endLine == cpos.line)=true
 trees:a0u cpos (j9 [e,f] X.env)=[(false,eval e X.env),(false,eval f X.env)]
section
variable {d:V}{r:Value}{o:Option V}{A:O0}{E:Value->i8->Prop}
end
section
variable {o f:Expr}{apos cpos:Pos}{td ty tx:TE}
end
section
variable {A:O0}{E:Value->i8->Prop}
end
section
variable {A:O0}{E:Value->i8->Prop}
end
end L2
namespace HT
open PySem PyProof.Rows
section
open PySem.SeqAt
open PySem.AutoSeq1 (wpAny_loadPart')
open PySem.MeetsSeq PySem.MeetsSeq2 PySem.MeetsSeq3
end
section
variable {prog:C9}{w:World}{A:O0}{E:Value->i8->Prop}{s:i8}
def sIx(n d:Nat):Option Int->Nat
 | none=>d
 | some v=>if v<0 then (v+(n:Int)).toNat else min v.toNat n
theorem b3S(n d k:Nat):sIx n d (some (k:Int))=min k n:=by
 show(if(k:Int)<0 then ((k:Int)+(n:Int)).toNat else min (k:Int).toNat n)=min k n
 rw[if_neg (by omega),o4]
theorem c7y(n d:Nat)(hd:d<=n)(o:Option Int):sIx n d o<=n:=by
 cases o with
 | none=>exact hd
 | some v=>
  show(if v<0 then (v+(n:Int)).toNat else min v.toNat n)<=n
  by_cases hv:v<0
  ·rw[if_pos hv];omega
  ·rw[if_neg hv];exact Nat.min_le_right _ _
theorem b8W(v:Int)(n d:Nat):(if v<0 then max (v+(n:Int)) 0 else min v (n:Int))=((sIx n d (some v):Nat):Int):=by
 show(if v<0 then max (v+(n:Int)) 0 else min v (n:Int))=(((if v<0 then (v+(n:Int)).toNat else min v.toNat n):Nat):Int)
 by_cases hv:v<0
 ·simp only[if_pos hv];omega
 ·simp only[if_neg hv];omega
theorem b8g(lo hi:Option Int)(n:Nat):Builtin.Slice.sliceAdjust lo hi 1 (n:Int)=(((sIx n 0 lo:Nat):Int),((sIx n n hi:Nat):Int)):=by
 have h1:¬((1:Int)<0):=by omega
 unfold Builtin.Slice.sliceAdjust
 simp only[h1,if_false]
 refine Prod.ext ?_ ?_
 ·cases lo with
  | none=>rfl
  | some v=>exact b8W v n 0
 ·cases hi with
  | none=>rfl
  | some v=>exact b8W v n n
theorem b7u(i j:Nat):Builtin.Slice.slicePlaces (i:Int) (j:Int) 1=j - i:=by
 unfold Builtin.Slice.slicePlaces
 have h1:(1:Int) > 0:=by omega
 simp only[h1,if_true,Int.ediv_one]
 split <;> omega
theorem b0K{v:Value}{o:Option Int}{Q:Option Int->i8->Prop}(p:c6H v o)(h:Q o s):wpAny (model prog w) A (Builtin.Slice.slicePartIndex v) Q E s:=by
 cases p with
 | none=>exact slicePart_none h
 | int i t=>exact slicePart_int h
theorem a8L{sl:Addr}{vl vu:Value}{lo hi:Option Int}{n:Nat}{Q:Int×Int×Nat->i8->Prop}(hs:s.heap.IsSliceOf sl vl vu .none)(pl:c6H vl lo)(pu:c6H vu hi)
  (h:Q (((sIx n 0 lo:Nat):Int),1,sIx n n hi - sIx n 0 lo) s):wpAny (model prog w) A (Builtin.Slice.sliceApplied (.ref sl) (pure (n:Int))) Q E s:=by
 obtain⟨os,hos,hcs,hds⟩:=id hs
 unfold Builtin.Slice.sliceApplied Builtin.Slice.sliceFields
 refine b6 (b6 (d0Z hos hds (x:=vl) rfl (b6 (d0Z hos hds (x:=vu) rfl (b6 (d0Z hos hds (x:=.none) rfl (d7 ?_)))))))
 refine b6 (slicePart_none ?_)
 show wpAny _ _ (if((1:Int) == 0)=true then _ else _) _ _ s
 rw[if_neg (by decide)]
 refine b6 (b0K pl (b6 (b0K pu (b6 (d7 ?_)))))
 show wpAny _ _ (match Builtin.Slice.sliceAdjust lo hi 1 (n:Int)with | (lo,hi)=>pure (lo,(1:Int),Builtin.Slice.slicePlaces lo hi 1)) _ _ s
 rw[b8g lo hi n]
 show wpAny _ _ (pure (((sIx n 0 lo:Nat):Int),(1:Int),Builtin.Slice.slicePlaces ((sIx n 0 lo:Nat):Int) ((sIx n n hi:Nat):Int) 1)) _ _ s
 rw[b7u]
 exact d7 h
theorem c2R(xs:Array Value)(i k:Nat):((J2 k).filterMap fun(m:Nat)=>xs[((i:Int)+(m:Int) * 1).toNat]?).toArray=((xs.toList.drop i).take k).toArray:=by
 have e:(fun(m:Nat)=>xs[((i:Int)+(m:Int) * 1).toNat]?)=fun m=>xs[i+m]?:=by
  funext m
  have:((i:Int)+(m:Int) * 1).toNat=i+m:=by omega
  rw[this]
 rw[e]
 have:=pick_run xs i k
 rw[List.filterMap_map]at this
 have e2:((fun x=>xs[x]?) ∘ fun x=>i+x)=fun m=>xs[i+m]?:=rfl
 rw[e2]at this
 rw[this]
theorem a8l{t sl:Addr}{items:Array Value}{vl vu:Value}{lo hi:Option Int}{Q:Value->i8->Prop}(ht:IsTup s.heap t items)(hs:s.heap.IsSliceOf sl vl vu .none)(pl:c6H vl lo)(pu:c6H vu hi)
  (hw:¬(sIx items.size 0 lo=0/\sIx items.size items.size hi=items.size))
  (h:Q (.ref s.heap.objs.size) { s with heap:=s.heap.push { cls:=.type "tuple",data:=.seq ((items.toList.drop (sIx items.size 0 lo)).take (sIx items.size items.size hi - sIx items.size 0 lo)).toArray } })
  (hsz:items.size<=u8):wpAny (model prog w) A (b3t (.ref t) (.ref sl)) Q E s:=by
 have htake:sizeOk (.seq ((items.toList.drop (sIx items.size 0 lo)).take (sIx items.size items.size hi - sIx items.size 0 lo)).toArray):=by
  show((items.toList.drop (sIx items.size 0 lo)).take (sIx items.size items.size hi - sIx items.size 0 lo)).toArray.size<=u8
  rw[l5,L9,b1R,E5]
  omega
 have hj:sIx items.size items.size hi<=items.size:=c7y _ _ (j6 _) hi
 obtain⟨os,hos,hcs,hds⟩:=id hs
 have hTs:s.TypeIs (.ref sl) "slice" := ⟨os,hos,hcs⟩
 unfold b3t
 try with_reducible refine Y3 ?_
 first | refine b6 (d7 ?_) | skip
 refine b6 (wpAny_sequenceKey ht.typeIs (by decide) ?_)
 refine b6 (W2 (name:=Str.ofString "__getitem__") ht.typeIs a1x
  (U0 a1x ht.typeIs entry_tuple_getitem ?_ (args_tuple_getitem _ _)))
 show wpAny _ _ (Builtin.Tuple.tupleItemsOf (.ref t) >>= _) _ _ s
 refine b6 (tupleItemsOf_ ht ?_)
 refine b6 (b0k hTs ?_)
 rw[if_pos (by decide)]
 refine b6 (a8L hs pl pu ?_)
 have hno:¬((((sIx items.size 0 lo:Nat):Int) == 0&&(1:Int) == 1&&(sIx items.size items.size hi - sIx items.size 0 lo) == items.size)=true):=by
  intro q
  rw[Z7,Z7]at q
  have q1:((sIx items.size 0 lo:Nat):Int)=0:=eq_of_beq q.1.1
  have q2:sIx items.size items.size hi - sIx items.size 0 lo=items.size:=eq_of_beq q.2
  exact hw ⟨by omega,by omega⟩
 show wpAny _ _ (if(((sIx items.size 0 lo:Nat):Int) == 0&&(1:Int) == 1&&(sIx items.size items.size hi - sIx items.size 0 lo) == items.size)=true then _ else _) _ _ s
 rw[if_neg hno,c2R]
 first
  | exact b6 (m:=Builtin.Tuple.tupleExact _) (F7 (d7 ⟨_,rfl,d7 h⟩) htake)
  | exact b6 (m:=Builtin.Tuple.tupleExact _) (F7 (b6 (d7 (d7 ⟨_,rfl,d7 h⟩))) htake)
  | exact b6 (b6 (m:=Builtin.Tuple.tupleExact _) (F7 (d7 (d7 ⟨_,rfl,d7 h⟩)) htake))
  | exact b6 (b6 (m:=Builtin.Tuple.tupleExact _) (F7 (d7 ⟨_,rfl,d7 h⟩) htake))
end
end HT
namespace L2
open PySem PySem.Spec PyProof.Rows
variable{X:Cx}{n:Nat}{pins:List (Addr×Obj)}{σ:St}{H:Hp}{s:i8}{xs:List V}{us:List Value}
abbrev TO:=St->Hp->(Option Int->Hp->Prop)->Prop
def PO(X:Cx)(e:Option Expr)(t:TO):Prop:=
 ∀(pins:List (Addr×Obj)) (s:i8) (σ:St) (H:Hp) (Q:Option Int->Hp->Prop),Inv X pins σ H s->t σ H Q ->
  wpAny (model X.prog X.w) X.A (evalPart e X.env) (fun u s'=>∃o H',Inv X pins σ H' s'/\c6H u o/\Q o H') X.xe s
def a6k:TO:=fun _ H Q=>Q none H
def b2M(t:TE):TO:=fun σ H Q=>t σ H fun x H1=>∃i,x=.int i/\Q (some i) H1
section
variable {e:Expr}{te:TE}{lo hi:Option Expr}{tl th:TO}{pos p2:Pos}
theorem c5f:PO X none a6k:=by
 intro pins s σ H Q I h
 rw[evalPart_none]
 exact d7 ⟨none,H,I,.none,h⟩
theorem c5e(h:PE X e te):PO X (some e) (b2M te):=by
 intro pins s σ H Q I hw
 rw[evalPart_some]
 refine thn (h pins s σ H _ I hw) fun u s1 ⟨x,H1,I1,r1,q1⟩=>?_
 obtain⟨i,rfl,q⟩:=q1
 obtain⟨t,rfl⟩:=r1
 exact⟨some i,H1,I1,.int i t,q⟩
def SlR(X:Cx)(r:V->Option Int->Option Int->Hp->VK->Prop):Prop:=
 ∀(pins:List (Addr×Obj)) (s:i8) (σ:St) (H:Hp) (x:V) (v vl vu:Value) (lo hi:Option Int) (sl:Addr) (Q:VK),Inv X pins σ H s->K5 x v->s.heap.IsSliceOf sl vl vu .none->c6H vl lo->c6H vu hi->r x lo hi H Q ->
  ∃T id,c6F (.type T) "__getitem__" = pure (some (.builtin id))/\s.TypeIs v T/\wpAny (model X.prog X.w) X.A (b3t v (.ref sl)) (EP X pins σ Q) X.xe s
theorem SlR.or{r r':V->Option Int->Option Int->Hp->VK->Prop}(h:SlR X r)(h':SlR X r'):SlR X (fun x lo hi H Q=>r x lo hi H Q\/r' x lo hi H Q):=by
 intro pins s σ H x v vl vu lo hi sl Q I rx hs pl pu q
 rcases q with q | q
 ·exact h pins s σ H x v vl vu lo hi sl Q I rx hs pl pu q
 ·exact h' pins s σ H x v vl vu lo hi sl Q I rx hs pl pu q
def tSl(r:V->Option Int->Option Int->Hp->VK->Prop)(te:TE)(tl th:TO):TE:=fun σ H Q=>te σ H fun x H1=>tl σ H1 fun l H2=>th σ H2 fun u H3=>r x l u H3 Q
theorem c2T{r:V->Option Int->Option Int->Hp->VK->Prop}(hr:SlR X r)(he:PE X e te)(hl:PO X lo tl)(hu:PO X hi th):PE X (.Subscript e (.Slice lo hi none p2) pos) (tSl r te tl th):=by
 intro pins s σ H Q I h
 refine Subscript_ (thn (he pins s σ H _ I h) fun v s1 ⟨x,H1,I1,r1,q1⟩=>?_)
 refine wpAny_Slice (thn (hl pins s1 σ H1 _ I1 q1) fun vl s2 ⟨l,H2,I2,pl,q2⟩=>thn (hu pins s2 σ H2 _ I2 q2) fun vu s3 ⟨u,H3,I3,pu,q3⟩=>?_)
 rw[evalPart_none]
 refine d7 ?_
 have I4:Inv X pins σ H3 { s3 with heap:=s3.heap.push { cls:=.type "slice",data:=.fields #[vl,vu,.none] } }:=I3.kept (t':=s3.toks) fun b ob q=>d5 _ q
 obtain⟨T,id,hT,ht,hg⟩:=hr pins { s3 with heap:=s3.heap.push { cls:=.type "slice",data:=.fields #[vl,vu,.none] } } σ H3 x v vl vu l u s3.heap.objs.size Q I4 r1 (Heap.IsSliceOf.new ..) pl pu q3
 show wpAny (model X.prog X.w) X.A (c7a e (.Slice lo hi none p2) v (.ref s3.heap.objs.size)) (EP X pins σ Q) X.xe { s3 with heap:=s3.heap.push { cls:=.type "slice",data:=.fields #[vl,vu,.none] } }
 exact tail_any (ops:=[.ref s3.heap.objs.size,v]) ht hT hg (by with_unfolding_all rfl)
def a7v(xs:List V)(lo hi:Option Int):List V:=(xs.drop (HT.sIx xs.length 0 lo)).take (HT.sIx xs.length xs.length hi - HT.sIx xs.length 0 lo)
theorem a9J(xs:List V)(lo hi:Option Int):(a7v xs lo hi).length<=xs.length:=by
 unfold a7v
 rw[L9,b1R]
 omega
def d1g(K:Fg):V->Option Int->Option Int->Hp->VK->Prop:=fun x lo hi H Q=>∃a xs,x=.ref a/\SqT K H a xs /\
 ¬(HT.sIx xs.length 0 lo=0/\HT.sIx xs.length xs.length hi=xs.length)/\∀p,H p=none->Q (.ref p) (upd H p (.tup (a7v xs lo hi)))
theorem c7i:SlR X (d1g X.K):=by
 intro pins s σ H x v vl vu lo hi sl Q I rx hs pl pu h
 obtain⟨a,xs,rfl,hx,hw,q⟩:=h
 cases rx
 obtain⟨its,r,ht,hz⟩:=I.tuple hx
 have hlen:its.toArray.size=xs.length:=by rw[l5];exact r.length.symm
 refine⟨"tuple",_,a1x.lookup,ht.typeIs,?_⟩
 refine HT.a8l ht hs pl pu (by rw[hlen];exact hw) ?_ (by rw[hlen];exact hz)
 rw[hlen]
 refine⟨.ref s.heap.objs.size,_,I.laid (t':=s.toks) (o:=.tup (a7v xs lo hi)) (fun b ob q=>d5 _ q) (j6 _) ?_,rfl,q _ (I.hok.fresh (j6 _))⟩
 exact⟨J5 (a9J xs lo hi) hz,_,(r.drop (HT.sIx xs.length 0 lo)).take (HT.sIx xs.length xs.length hi - HT.sIx xs.length 0 lo),IsTup.new _ _⟩
end
def ixN(n:Nat)(i:Int):Option Nat:=if 0<=i then (if i<n then some i.toNat else none)else if -(n:Int)<=i then some (i+n).toNat else none
def atI{α:Type}(xs:List α)(i:Int):Option α:=(ixN xs.length i).bind fun j=>xs[j]?
theorem b8K{i:Int}{j:Nat}(h:ixN n i=some j):seqIndex? i n=some j/\j<n /\ -(n:Int)<=i/\i<n:=by
 unfold ixN at h
 by_cases h0:0<=i
 ·rw[if_pos h0]at h
  by_cases h1:i<n
  ·rw[if_pos h1]at h
   have e:i.toNat=j:=Option.some.inj h
   exact⟨by rw[d1a h0 h1,e],by omega,by omega,h1⟩
  ·rw[if_neg h1]at h;cases h
 ·rw[if_neg h0]at h
  by_cases h1 : -(n:Int)<=i
  ·rw[if_pos h1]at h
   have e:(i+n).toNat=j:=Option.some.inj h
   exact⟨by rw[c9y (by omega) h1,e],by omega,h1,by omega⟩
  ·rw[if_neg h1]at h;cases h
theorem b4A{α:Type}{xs:List α}{i:Int}{v:α}(h:atI xs i=some v):∃j,seqIndex? i xs.length=some j/\xs[j]? = some v/\j<xs.length /\ -(xs.length:Int)<=i/\i<xs.length:=by
 unfold atI at h
 cases e:ixN xs.length i with
 | none=>rw[e]at h;cases h
 | some j=>
  rw[e]at h
  obtain⟨h1,h2,h3,h4⟩:=b8K e
  exact⟨j,h1,h,h2,h3,h4⟩
theorem R5{α:Type}{xs:List α}{j:Nat}{v:α}(h:xs[j]? = some v):atI xs (j:Int)=some v:=by
 have hj:j<xs.length:=(u6.mp h).1
 have e:ixN xs.length (j:Int)=some j:=by
  unfold ixN
  rw[if_pos (by omega),if_pos (by omega)];simp
 unfold atI;rw[e];exact h
def b4E(b:Expr):Prop:=∀o i,c1q b false o i=operate [o,i] (b3t o i)
def IxR(X:Cx)(r:R2):Prop:=
 ∀(value slice:Expr) (pins:List (Addr×Obj)) (s:i8) (σ:St) (H:Hp) (x y:V) (v u:Value) (Q:VK),Inv X pins σ H s->K5 x v->K5 y u->r x y H Q ->
  c1q slice false v u=operate [v,u] (b3t v u)->wpAny (model X.prog X.w) X.A (c7a value slice v u) (EP X pins σ Q) X.xe s
def MtR(X:Cx)(id:String)(r:V->List V->Hp->VK->Prop):Prop:=
 ∀(pins:List (Addr×Obj)) (s:i8) (σ:St) (H:Hp) (x:V) (xs:List V) (v:Value) (us:List Value) (Q:VK),Inv X pins σ H s->K5 x v->L5 xs us->r x xs H Q ->
  wpAny (model X.prog X.w) X.A (call (.builtin id) (v::us)) (EP X pins σ Q) X.xe s
section
variable {a b:Expr}{ta tb:TE}{pos:Pos}
theorem IxR.or{r r':R2}(h:IxR X r)(h':IxR X r'):IxR X (fun x y H Q=>r x y H Q\/r' x y H Q):=by
 intro value slice pins s σ H x y v u Q I rx ry q hs
 rcases q with q | q
 ·exact h value slice pins s σ H x y v u Q I rx ry q hs
 ·exact h' value slice pins s σ H x y v u Q I rx ry q hs
theorem d0m{r:R2}(hr:IxR X r)(ha:PE X a ta)(hb:PE X b tb)(hs:b4E b):PE X (.Subscript a b pos) (tOp r ta tb):=by
 intro pins s σ H Q I h
 exact Subscript_ (c8Y ha hb I h fun v u s2 x y H2 I2 rx ry q=>hr a b pins s2 σ H2 x y v u Q I2 rx ry q (hs _ _))
def c9V(K:Fg):R2:=fun x y H Q=>∃p xs i v,x=.ref p/\y=.int i/\SqL K H p xs/\atI xs i=some v/\Q v H
def c9T(K:Fg):R2:=fun x y H Q=>∃p xs i v,x=.ref p/\y=.int i/\SqT K H p xs/\atI xs i=some v/\Q v H
def c9U:R2:=fun x y H Q=>∃z i c,x=.str z/\y=.int i/\z.length<=u8/\atI z.cps.toList i=some c/\Q (.str ⟨#[c]⟩) H
theorem c5Z:IxR X (c9V X.K):=by
 intro value slice pins s σ H x y v u Q I rx ry h hs
 obtain⟨p,xs,i,z,rfl,rfl,hq,he,q⟩:=h
 cases rx
 obtain⟨t,rfl⟩:=ry
 obtain⟨its,r,pl,hz⟩:=I.list hq
 obtain⟨j,h1,h2,h3,h4,h5⟩:=b4A he
 obtain⟨w,ew,rw'⟩:=r.get h2
 have hl:=r.length
 have hn:=a7s
 have fin:EP X pins σ Q w s:=⟨z,H,I,rw',q⟩
 by_cases h0:0<=i
 ·have hj:i.toNat=j:=by
   rw[d1a h0 h5]at h1
   exact Option.some.inj h1
  exact item_listR pl.isList h0 (by omega) (by rw[hj];simpa using ew) fin hs
 ·have hj:(i+(its.toArray.size:Int)).toNat=j:=by
   rw[c9y (by omega) h4]at h1
   rw[l5,<-hl]
   exact Option.some.inj h1
  exact c9q (x:=w) pl.isList.typeIs slot_list_getitem.lookup
   (wpAny_getItem_list_neg (Q:=fun r s'=>r=w/\EP X pins σ Q r s') pl.isList (by omega) (by rw[l5] <;> omega) (by omega) (by rw[hj];simpa using ew) ⟨rfl,fin⟩) hs
theorem c8S:IxR X (c9T X.K):=by
 intro value slice pins s σ H x y v u Q I rx ry h hs
 obtain⟨p,xs,i,z,rfl,rfl,hq,he,q⟩:=h
 cases rx
 obtain⟨t,rfl⟩:=ry
 obtain⟨its,r,pl,hz⟩:=I.tuple hq
 obtain⟨j,h1,h2,h3,h4,h5⟩:=b4A he
 obtain⟨w,ew,rw'⟩:=r.get h2
 have hl:=r.length
 have hn:=a7s
 have fin:EP X pins σ Q w s:=⟨z,H,I,rw',q⟩
 exact c9q (x:=w) pl.typeIs slot_tuple_getitem.lookup
  (getItem_tuple (j:=j) (Q:=fun r s'=>r=w/\EP X pins σ Q r s') pl (by omega) (by omega) (by rw[l5,<-hl];exact h1) (by simpa using ew) ⟨rfl,fin⟩) hs
theorem c8T:IxR X c9U:=by
 intro value slice pins s σ H x y v u Q I rx ry h hs
 obtain⟨z,i,c,rfl,rfl,hz,he,q⟩:=h
 obtain⟨t,rfl⟩:=rx
 obtain⟨t',rfl⟩:=ry
 obtain⟨j,h1,h2,h3,h4,h5⟩:=b4A he
 have hl:z.cps.toList.length=z.length:=by simp[Str.length]
 rw[hl]at h1 h4 h5
 have hn:=a7s
 exact tail_any (typeIs_str s z t) slot_str_getitem.lookup (getItem_str (c:=c) (by
  have e1:decide (i < -(2 ^ 63:Int))=false:=d2F (by omega)
  have e2:decide (i ≥ 2 ^ 63)=false:=d2F (by omega)
  rw[e1,e2,d0M]) (by rw[h1];simpa using h2) ⟨.str ⟨#[c]⟩,H,I.tok _,⟨_,rfl⟩,q⟩) hs
def rIx(K:Fg):R2:=fun x y H Q=>c9V K x y H Q\/c9T K x y H Q\/c9U x y H Q
theorem c3D:IxR X (rIx X.K):=c5Z.or (c8S.or c8T)
theorem b7K(its:List Value)(n j:Nat)(u:Value):Obj.mapSeq (·.setIfInBounds j u) { cls:=.type "list",data:=.seq its.toArray n }={ cls:=.type "list",data:=.seq (its.set j u).toArray n }:=by
 simp[Obj.mapSeq]
theorem Inv.lst{pins:List (Addr×Obj)}{σ:St}{H:Hp}{s:i8}{p:Addr}{xs:List V}(I:Inv X pins σ H s)(h:H p=some (.lst xs)) :
  ∃(its:List Value) (n:Nat),L5 xs its/\s.heap.get? p=some { cls:=.type "list",data:=.seq its.toArray n }/\xs.length<=u8:=by
 obtain⟨z,its,n,r,e⟩:=I.hok p _ h
 exact⟨its,n,r,e,z⟩
theorem Inv.lstUpd{p:Addr}{ys:List V}{its its':List Value}{n':Nat}{f:Obj->Obj}(I:Inv X pins σ H s)(h:H p=some (.lst xs))
  (ho:s.heap.get? p=some { cls:=.type "list",data:=.seq its.toArray n }) (hf:f { cls:=.type "list",data:=.seq its.toArray n }={ cls:=.type "list",data:=.seq its'.toArray n' }) (r:L5 ys its') (hz:ys.length<=u8) (t:Nat) :
  Inv X pins σ (upd H p (.lst ys)) { s with heap:=s.heap.update p f,toks:=t }:=by
 have e:(s.heap.update p f).get? p=some { cls:=.type "list",data:=.seq its'.toArray n' }:=by
  rw[W1 f ho (by rw[hf] <;> rfl),hf]
 refine I.write (x:=p) (e:=p) (by rw[h];trivial) (.inl rfl) (fun b u hb q=>(a2r _ _ (Ne.symm hb)).trans q) ⟨_,e⟩ ?_
 exact⟨hz,its',n',r,e⟩
def c9S:V->V->V->Hp->(Hp->Prop)->Prop:=fun o i v H Q=>∃p xs k j,o=.ref p/\i=.int k/\H p=some (.lst xs)/\ixN xs.length k=some j/\Q (upd H p (.lst (xs.set j v)))
theorem c2e:c4b X c9S:=by
 intro pins s σ H o i v ov iv u Q I ro ri rv h
 obtain⟨p,xs,k,j,rfl,rfl,hp,hj,q⟩:=h
 cases ro
 obtain⟨t,rfl⟩:=ri
 obtain⟨its,n,r,ho,hz⟩:=I.lst hp
 obtain⟨h1,h2,h3,h4⟩:=b8K hj
 have hl:=r.length
 have hn:=a7s
 have I':Inv X pins σ (upd H p (.lst (xs.set j v))) { s with heap:=s.heap.update p (Obj.mapSeq (·.setIfInBounds j u)) }:=
  I.lstUpd hp ho (b7K its n j u) (r.set rv j) (by rw[a0I];exact hz) s.toks
 by_cases h0:0<=k
 ·have hk:k.toNat=j:=by
   rw[d1a h0 h4]at h1
   exact Option.some.inj h1
  exact PySem.W.ki_setAt ho h0 (by omega) (by rw[l5,<-hl];exact h4) (by rw[hk];exact⟨_,I',q⟩)
 ·have hk:(k+(its.toArray.size:Int)).toNat=j:=by
   rw[c9y (by omega) h3]at h1
   rw[l5,<-hl]
   exact Option.some.inj h1
  exact PySem.W.ki_setBack ho (by omega) (by rw[l5,<-hl];exact h3) (by omega) (by rw[hk];exact⟨_,I',q⟩)
theorem b3F(lo hi:Option Int)(n:Nat):(a5z lo hi none n).1=((HT.sIx n 0 lo:Nat):Int)/\(a5z lo hi none n).2.1=((HT.sIx n n hi:Nat):Int)/\(a5z lo hi none n).2.2=1:=by
 refine⟨?_,?_,rfl⟩
 ·cases lo with
  | none=>simp[a5z,HT.sIx]
  | some i=>
   simp only[a5z,HT.sIx,c4m,show(1:Int) > 0 by decide,if_true]
   by_cases h:i<0
   ·simp only[h,if_true] <;> omega
   ·simp only[h,if_false] <;> omega
 ·cases hi with
  | none=>simp[a5z,HT.sIx]
  | some i=>
   simp only[a5z,HT.sIx,c4m,show(1:Int) > 0 by decide,if_true]
   by_cases h:i<0
   ·simp only[h,if_true] <;> omega
   ·simp only[h,if_false] <;> omega
theorem b1X(its:List Value)(lo hi:Option Int):slicePick its.toArray lo hi none=((its.drop (HT.sIx its.length 0 lo)).take (HT.sIx its.length its.length hi - HT.sIx its.length 0 lo)).toArray:=by
 obtain⟨h1,h2,h3⟩:=b3F lo hi its.toArray.size
 unfold slicePick
 rw[h1,h2,h3]
 simp only[sliceRange_one,pick_run,l5] <;> rfl
def c7D(K:Fg):V->Option Int->Option Int->Hp->VK->Prop:=fun x lo hi H Q=>∃a xs,x=.ref a/\SqL K H a xs/\∀p,H p=none->Q (.ref p) (upd H p (.lst (a7v xs lo hi)))
theorem b8y:SlR X (c7D X.K):=by
 intro pins s σ H x v vl vu lo hi sl Q I rx hs pl pu h
 obtain⟨a,xs,rfl,hx,q⟩:=h
 cases rx
 obtain⟨its,r,ht,hz⟩:=I.list hx
 have hlen:=r.length
 refine⟨"list",_,slot_list_getitem.lookup,ht.isList.typeIs,?_⟩
 refine wpAny_getItem_list_slice ht.isList hs pl pu .none (by simp) ?_ (by rw[l5] <;> omega)
 rw[b1X,<-hlen]
 refine⟨.ref s.heap.objs.size,_,I.laid (t':=s.toks) (o:=.lst (a7v xs lo hi)) (fun b ob q=>d5 _ q) (j6 _) ?_,rfl,q _ (I.hok.fresh (j6 _))⟩
 exact⟨J5 (a9J xs lo hi) hz,_,0,(r.drop (HT.sIx xs.length 0 lo)).take (HT.sIx xs.length xs.length hi - HT.sIx xs.length 0 lo),l7 _ rfl⟩
def V4:V->Bool
 | .non=>true
 | .bl _=>true
 | .int _=>true
 | .str _=>true
 | _=>false
def eqV:V->V->Bool
 | .non,.non=>true
 | .bl a,.bl b=>a == b
 | .bl a,.int b=>(if a then 1 else 0) == b
 | .int a,.bl b=>a == (if b then 1 else 0)
 | .int a,.int b=>a == b
 | .str a,.str b=>a == b
 | _,_=>false
theorem b7Y{A:O0}{y x:V}{u v:Value}(ry:K5 y u)(rx:K5 x v)(fy:V4 y=true)(fx:V4 x=true):SeqAt.EqAt A s u v (eqV y x):=by
 cases y with
 | non=>
  cases ry
  cases x with
  | non=>cases rx;exact SeqAt.EqAt.same _
  | bl b=>cases rx;exact SeqAt.EqAt.none_bool b
  | int b=>obtain⟨t,rfl⟩:=rx;exact SeqAt.EqAt.none_int b t
  | str b=>obtain⟨t,rfl⟩:=rx;exact SeqAt.EqAt.none_str b t
  | _=>exact absurd (show false=true from fx) w6
 | bl a=>
  cases ry
  cases x with
  | non=>cases rx;exact SeqAt.EqAt.bool_none a
  | bl b=>cases rx;exact SeqAt.EqAt.bool_bool a b
  | int b=>obtain⟨t,rfl⟩:=rx;exact SeqAt.EqAt.bool_int a b t
  | str b=>obtain⟨t,rfl⟩:=rx;exact SeqAt.EqAt.bool_str a b t
  | _=>exact absurd (show false=true from fx) w6
 | int a=>
  obtain⟨t',rfl⟩:=ry
  cases x with
  | non=>cases rx;exact SeqAt.EqAt.int_none a t'
  | bl b=>cases rx;exact SeqAt.EqAt.int_bool a t' b
  | int b=>obtain⟨t,rfl⟩:=rx;exact SeqAt.EqAt.int_int a t' b t
  | str b=>obtain⟨t,rfl⟩:=rx;exact SeqAt.EqAt.int_str a t' b t
  | _=>exact absurd (show false=true from fx) w6
 | str a=>
  obtain⟨t',rfl⟩:=ry
  cases x with
  | non=>cases rx;exact SeqAt.EqAt.str_none a t'
  | bl b=>cases rx;exact SeqAt.EqAt.str_bool a t' b
  | int b=>obtain⟨t,rfl⟩:=rx;exact SeqAt.EqAt.str_int a t' b t
  | str b=>obtain⟨t,rfl⟩:=rx;exact SeqAt.EqAt.str_str a t' b t
  | _=>exact absurd (show false=true from fx) w6
 | _=>exact absurd (show false=true from fy) w6
def eqU(x:V)(u:Value):Bool:=match u with
 | .none=>eqV .non x
 | .bool b=>eqV (.bl b) x
 | .int i _=>eqV (.int i) x
 | .str z _=>eqV (.str z) x
 | _=>false
theorem c3L{x y:V}{u:Value}(r:K5 y u)(f:V4 y=true):eqU x u=eqV y x:=by
 cases y with
 | non=>cases r;rfl
 | bl b=>cases r;rfl
 | int i=>obtain⟨t,rfl⟩:=r;rfl
 | str z=>obtain⟨t,rfl⟩:=r;rfl
 | _=>exact absurd (show false=true from f) w6
theorem a8w{x:V}:∀ {xs:List V} {us:List Value},L5 xs us->xs.all V4=true->us.any (eqU x)=xs.any fun y=>eqV y x
 | _,_,.nil,_=>rfl
 | y::xs,u::us,.cons r t,f=>by
  rw[a9x,Z7]at f
  rw[a0S,a0S,c3L r f.1,a8w t f.2]
theorem a5X{A:O0}{x:V}{v:Value}(rx:K5 x v)(fx:V4 x=true):∀ {xs:List V} {us:List Value},L5 xs us->xs.all V4=true->∀u∈us,SeqAt.EqAt A s u v (eqU x u)
 | _,_,.nil,_=>fun u hu=>by cases hu
 | y::xs,u::us,.cons r t,f=>fun u' hu=>by
  rw[a9x,Z7]at f
  rcases j4.mp hu with rfl | hu
  ·rw[c3L r f.1];exact b7Y r rx f.1 fx
  ·exact a5X rx fx t f.2 u' hu
def inV(x:V)(xs:List V):Bool:=xs.any fun y=>eqV y x
def rIn(K:Fg)(neg:Bool):R2:=fun x y H Q=>∃p xs,y=.ref p/\(SqL K H p xs\/SqT K H p xs)/\V4 x=true/\xs.all V4=true/\Q (.bl (if neg then !inV x xs else inV x xs)) H
theorem b3a:OpR X (A3 .In) (rIn X.K false):=by
 intro pins s σ H x y v u Q I rx ry h
 obtain⟨p,xs,rfl,hq,fx,fs,q⟩:=h
 cases ry
 rcases hq with hq | hq
 ·obtain⟨its,r,pl,hz⟩:=I.list hq
  refine SeqAt.in_listAt (eqU x) pl.isList (fun w hw=>a5X rx fx r fs w (by simpa using hw)) ⟨.bl _,H,I,rfl,?_⟩
  rw[show its.toArray.any (eqU x)=its.any (eqU x) by simp,a8w r fs]
  exact q
 ·obtain⟨its,r,pl,hz⟩:=I.tuple hq
  refine SeqAt.in_tupleAt (eqU x) pl (fun w hw=>a5X rx fx r fs w (by simpa using hw)) ⟨.bl _,H,I,rfl,?_⟩
  rw[show its.toArray.any (eqU x)=its.any (eqU x) by simp,a8w r fs]
  exact q
theorem b4d:OpR X (A3 .NotIn) (rIn X.K true):=by
 intro pins s σ H x y v u Q I rx ry h
 obtain⟨p,xs,rfl,hq,fx,fs,q⟩:=h
 cases ry
 rcases hq with hq | hq
 ·obtain⟨its,r,pl,hz⟩:=I.list hq
  refine SeqAt.notIn_listAt (eqU x) pl.isList (fun w hw=>a5X rx fx r fs w (by simpa using hw)) ⟨.bl _,H,I,rfl,?_⟩
  rw[show its.toArray.any (eqU x)=its.any (eqU x) by simp,a8w r fs]
  exact q
 ·obtain⟨its,r,pl,hz⟩:=I.tuple hq
  refine SeqAt.notIn_tupleAt (eqU x) pl (fun w hw=>a5X rx fx r fs w (by simpa using hw)) ⟨.bl _,H,I,rfl,?_⟩
  rw[show its.toArray.any (eqU x)=its.any (eqU x) by simp,a8w r fs]
  exact q
theorem b4c:OpR X (A3 .NotIn) (fun x y H Q=>∃i j,x=.str i/\y=.str j/\Q (.bl (!(!(Builtin.Str.occurrences j i 0 j.length 1).isEmpty))) H):=by
 intro pins s σ H x y v u Q I rx ry h
 obtain⟨i,j,rfl,rfl,q⟩:=h
 obtain⟨t,rfl⟩:=rx
 obtain⟨t',rfl⟩:=ry
 exact notIn_str ⟨.bl _,H,I,rfl,q⟩
theorem a8n:a0k X (.builtin "len") (fun xs H Q=>∃p ys,xs=[.ref p]/\(SqL X.K H p ys\/SqT X.K H p ys)/\Q (.int ys.length) H):=by
 intro pins s σ H xs us Q I r h
 obtain⟨p,ys,rfl,hq,q⟩:=h
 obtain⟨u,rfl,rx⟩:=a6L r
 cases rx
 have hn:=a7s
 rcases hq with hq | hq
 ·obtain⟨its,r',pl,hz⟩:=I.list hq
  have hlen:=r'.length
  exact Calls.call_len_list pl.isList (by simp only[l5] <;> omega) ⟨.int ys.length,H,I.tok _,⟨s.toks+1,by rw[l5,hlen]⟩,q⟩
 ·obtain⟨its,r',pl,hz⟩:=I.tuple hq
  have hlen:=r'.length
  exact len_tuple pl (by simp only[l5] <;> omega) ⟨.int ys.length,H,I.tok _,⟨s.toks+1,by rw[l5,hlen]⟩,q⟩
theorem b4v:a0k X (.builtin "len") (fun xs H Q=>∃z,xs=[.str z]/\z.length<=u8/\Q (.int z.length) H):=by
 intro pins s σ H xs us Q I r h
 obtain⟨z,rfl,hz,q⟩:=h
 obtain⟨u,rfl,t,rfl⟩:=a6L r
 have hn:=a7s
 exact len_str (by omega) ⟨.int z.length,H,I.tok _,⟨_,rfl⟩,q⟩
theorem a0k.or{f:Value}{r r':List V->Hp->VK->Prop}(h:a0k X f r)(h':a0k X f r'):a0k X f (fun xs H Q=>r xs H Q\/r' xs H Q):=by
 intro pins s σ H xs us Q I rs q
 rcases q with q | q
 ·exact h pins s σ H xs us Q I rs q
 ·exact h' pins s σ H xs us Q I rs q
theorem b4u:a0k X (.type "list") (fun xs H Q=>∃p ys,xs=[.ref p]/\(SqL X.K H p ys\/SqT X.K H p ys)/\∀l,H l=none->Q (.ref l) (upd H l (.lst ys))):=by
 intro pins s σ H xs us Q I r h
 obtain⟨p,ys,rfl,hq,q⟩:=h
 obtain⟨u,rfl,rx⟩:=a6L r
 cases rx
 have fin:∀(its:List Value),L5 ys its->ys.length<=u8->∀(h':Heap) (c':Nat),(∀b o',s.heap.get? b=some o'->h'.get? b=some o') ->
   h'.get? s.heap.objs.size=some { cls:=.type "list",dict:=none,data:=.seq its.toArray c',slots := #[] }->EP X pins σ Q (.ref s.heap.objs.size) { s with heap:=h' }:=fun its r' hz h' c' kp e=>
  ⟨.ref s.heap.objs.size,_,I.laid (t':=s.toks) kp (j6 _) (show a0e X.prog X.w _ h' _ (.lst ys)from⟨hz,its,c',r',e⟩),rfl,q _ (I.hok.fresh (j6 _))⟩
 rcases hq with hq | hq
 ·obtain⟨its,r',pl,hz⟩:=I.list hq
  have hlen:=r'.length
  obtain⟨o,ho,hc,n,hd⟩:=pl.isList
  exact call_list_seq p (.inl rfl) ho hc hd (fun h' c' kp e=>fin its r' hz h' c' kp e) (by simp only[l5] <;> omega)
 ·obtain⟨its,r',pl,hz⟩:=I.tuple hq
  have hlen:=r'.length
  obtain⟨o,ho,hc,n,hd⟩:=pl
  exact call_list_seq p (.inr rfl) ho hc hd (fun h' c' kp e=>fin its r' hz h' c' kp e) (by simp only[l5] <;> omega)
def tyV(K:Fg)(T:String)(x:V)(H:Hp):Prop:=match x with
 | .str _=>T = "str"
 | .int _=>T = "int"
 | .ref p=>(T = "list" /\ ∃xs,SqL K H p xs)\/(T = "tuple" /\ ∃o,K.lookup p=some o/\o.cls=.type "tuple" /\ o.dict=none) \/
   (T = "dict" /\ ((∃kvs,H p=some (.dK kvs))\/∃kvs,H p=some (.dT kvs)))\/(T = "set" /\ ∃S n,H p=some (.set S n))
 | _=>False
theorem c1M{T:String}{x:V}{v:Value}(I:Inv X pins σ H s)(r:K5 x v)(ty:tyV X.K T x H) :
  s.TypeIs v T/\∀a,v=.ref a->∃ob,s.heap.get? a=some ob/\ob.dict=none:=by
 cases x with
 | str z=>
  obtain⟨t,rfl⟩:=r
  cases (show T = "str" from ty)
  exact⟨typeIs_str s z t,fun _ e=>nomatch e⟩
 | int i=>
  obtain⟨t,rfl⟩:=r
  cases (show T = "int" from ty)
  exact⟨typeIs_int s i t,fun _ e=>nomatch e⟩
 | ref p=>
  cases r
  rcases ty with ⟨rfl,xs,hq⟩ | ⟨rfl,o,hk,hc,hd⟩ | ⟨rfl,hk⟩ | ⟨rfl,S,n,hk⟩
  ·obtain⟨its,_,pl,_⟩:=I.list hq
   refine⟨pl.isList.typeIs,fun a e=>?_⟩
   cases e
   obtain⟨o,n,e,c,hd,_⟩:=pl
   exact⟨o,e,hd⟩
  ·refine⟨⟨o,I.kIn p o hk,hc⟩,fun a e=>?_⟩
   cases e
   exact⟨o,I.kIn _ o hk,hd⟩
  ·have z:∃o,s.heap.get? p=some o/\o.ExactDict:=by
    rcases hk with ⟨kvs,hk⟩ | ⟨kvs,hk⟩
    ·obtain⟨_,_,_,_,o,_,_,e,ex,_⟩:=I.hok p _ hk
     exact⟨o,e,ex⟩
    ·obtain⟨_,_,_,_,o,_,_,e,ex,_⟩:=I.hok p _ hk
     exact⟨o,e,ex⟩
   obtain⟨o,e,ex⟩:=z
   refine⟨⟨o,e,ex.1⟩,fun a e2=>?_⟩
   cases e2
   exact⟨o,e,ex.2.1⟩
  ·obtain⟨o,_,_,_,e,ex,_⟩:=I.hok p _ hk
   refine⟨⟨o,e,ex.1⟩,fun a e2=>?_⟩
   cases e2
   exact⟨o,e,ex.2.1⟩
 | _=>exact False.elim ty
def b9A(K:Fg)(T:String)(r:V->List V->Hp->VK->Prop)(to:TE):TE:=fun σ H Q=>to σ H fun x H1=>tyV K T x H1/\r x [] H1 Q
def tBM(K:Fg)(T:String)(r:V->List V->Hp->VK->Prop)(to:TE)(t:TA):TE:=fun σ H Q=>to σ H fun x H1=>tyV K T x H1/\t σ H1 fun xs H2=>r x xs H2 Q
variable {o e:Expr}{es:List Expr}{to:TE}{t:TA}{name:Str}{apos cpos:Pos}{T id:String}{r:V->List V->Hp->VK->Prop}
theorem c8o(pa:c6G T)(slot:Slot T name id)(hty:typeOf (.builtin id)=pure (.type "method_descriptor"))(hm:MtR X id r)(ho:PE X o to)
  (hbase:a0Z o name X.env (eval o X.env)=eval o X.env:=by rfl) (hline:(apos.endLine == cpos.line)=true:=by rfl):PE X (.Call (.Attribute o name apos) [] [] cpos) (b9A X.K T r to):=by
 intro pins s σ H Q I h
 refine wpAny_Call_method0_late hbase hline (thn (ho pins s σ H _ I h) fun v s1 ⟨x,H1,I1,r1,ty,q1⟩=>?_)
 obtain⟨h1,h2⟩:=c1M I1 r1 ty
 exact⟨T,id,pa,slot,hty,h1,h2,Calls.callWith_builtin rfl (PySem.evalArgs_none (hm pins s1 σ H1 x [] v [] Q I1 r1 .nil q1))⟩
theorem d0n(pa:c6G T)(slot:Slot T name id)(hty:typeOf (.builtin id)=pure (.type "method_descriptor"))(hm:MtR X id r)(ho:PE X o to)(ha:PA X (e::es) t)
  (hbase:a0Z o name X.env (eval o X.env)=eval o X.env:=by rfl)
  (hfew:((a0u cpos (j9 (e::es) X.env)).all (fun x => !x.1)&&(a6J cpos (a1z [] X.env)).all (fun x=>x.1.isSome)
   && decide ((e::es).length+([]:List b3u).length+(if([]:List b3u).isEmpty then 0 else 1)<30))=true:=by rfl)
  (hline:(apos.endLine == cpos.line)=true:=by rfl) (hs:j9 (e::es) X.env=(false,eval e X.env)::j9 es X.env:=by rfl) (hplain:(a0u cpos (j9 es X.env)).any (·.1)=false:=by rfl) :
  PE X (.Call (.Attribute o name apos) (e::es) [] cpos) (tBM X.K T r to t):=by
 intro pins s σ H Q I h
 refine wpAny_Call_method_late hbase hfew hline rfl (thn (ho pins s σ H _ I h) fun v s1 ⟨x,H1,I1,r1,ty,q1⟩=>?_)
 obtain⟨h1,h2⟩:=c1M I1 r1 ty
 refine⟨T,id,pa,slot,hty,h1,h2,?_⟩
 have hA:=ha cpos pins s1 σ H1 _ I1 q1
 rw[hs]at hA ⊢
 refine Calls.callWith_builtin (by show(false||(a0u cpos (j9 es X.env)).any (·.1))=false;rw[hplain] <;> rfl) (Calls.evalArgs_plain ?_)
 exact thn hA fun us s2 ⟨vs,H2,I2,r2,q2⟩=>hm pins s2 σ H2 x vs v us Q I2 r1 r2 q2
end
def MtM(X:Cx)(id:String)(r:V->List V->Hp->VK->Prop):Prop:=
 ∀(pins:List (Addr×Obj)) (s:i8) (σ:St) (H:Hp) (x:V) (xs:List V) (v:Value) (us:List Value) (Q:VK),Inv X pins σ H s->K5 x v->L5 xs us->r x xs H Q ->
  wpAny (model X.prog X.w) X.A (call (.builtin id) (v::us)) (EP X pins σ Q) X.xe s
theorem L5.one:∀ {x:V} {us:List Value},L5 [x] us->∃u,us=[u]/\K5 x u
 | _,_,.cons r .nil=>⟨_,rfl,r⟩
theorem L5.zero:∀ {us:List Value},L5 [] us->us=[]
 | _,.nil=>rfl
theorem L5.dropLast(h:L5 xs us):L5 xs.dropLast us.dropLast:=by
 induction h with
 | nil=>exact .nil
 | cons r t ih=>
  cases t with
  | nil=>exact .nil
  | cons q t'=>exact .cons r ih
theorem L5.reverse(h:L5 xs us):L5 xs.reverse us.reverse:=by
 induction h with
 | nil=>exact .nil
 | cons r t ih=>rw[a5j,a5j];exact L5.append ih (.cons r .nil)
theorem b7X{α:Type}(l:List α):l.eraseIdx (l.length - 1)=l.dropLast:=by
 induction l with
 | nil=>rfl
 | cons a r ih=>
  cases r with
  | nil=>rfl
  | cons b r=>
   have e:(a::b::r).length - 1=((b::r).length - 1)+1:=by
    have h1:(a::b::r).length=r.length+2:=rfl
    have h2:(b::r).length=r.length+1:=rfl
    omega
   rw[e,List.eraseIdx_cons_succ,ih]
   all_goals rfl
section
variable {l b:Addr}{ys zs:List V}
theorem Inv.lset{its its':List Value}{f:Array Value->Array Value}{t':Nat}(I:Inv X pins σ H s)(hH:H l=some (.lst xs))
  (e:s.heap.get? l=some { cls:=.type "list",data:=.seq its.toArray n }) (hf:f its.toArray=its'.toArray) (hv:L5 ys its') (hz:ys.length<=u8) :
  Inv X pins σ (upd H l (.lst ys)) { s with heap:=s.heap.update l (Obj.mapSeq f),toks:=t' }:=by
 have q:=PySem.IsL.update e f
 rw[hf]at q
 refine I.write (x:=l) (e:=l) (by rw[hH];exact trivial) (.inl rfl) (fun b' u hb hu=>(a2r s.heap (Obj.mapSeq f) (Ne.symm hb)).trans hu) ⟨_,q⟩ ?_
 exact⟨hz,its',_,hv,q⟩
theorem Inv.lnew{its:List Value}{t':Nat}(I:Inv X pins σ H s)(hv:L5 ys its)(hz:ys.length<=u8) :
  Inv X pins σ (upd H s.heap.objs.size (.lst ys)) { s with heap:=s.heap.push { cls:=.type "list",data:=.seq its.toArray },toks:=t' }:=
 I.laid (fun _ _ q=>d5 _ q) (j6 _) ⟨hz,its,0,hv,l7 _ rfl⟩
theorem Inv.fresh(I:Inv X pins σ H s):H s.heap.objs.size=none:=I.hok.fresh (j6 _)
theorem Inv.lstM(I:Inv X pins σ H s)(hH:H l=some (.lst xs)):xs.length<=u8/\∃(its:List Value) (n:Nat),L5 xs its/\xs.length=its.length/\s.heap.get? l=some { cls:=.type "list",data:=.seq its.toArray n }:=by
 obtain⟨z,its,n,r,e⟩:=I.hok l _ hH
 exact⟨z,its,n,r,r.length,e⟩
theorem c3n(h:n<=u8):Builtin.List.listTooLong n=false:=by
 unfold Builtin.List.listTooLong
 exact d2F (by omega)
end
section
def c4M:V->List V->Hp->VK->Prop:=fun x vs H Q=>∃l xs y,x=.ref l/\vs=[y]/\H l=some (.lst xs)/\xs.length<u8/\Q .non (upd H l (.lst (xs++[y])))
theorem a9f:MtM X "list.append" c4M:=by
 intro pins s σ H x vs v us Q I rx rv h
 obtain⟨l,xs,y,rfl,rfl,hH,hz,q⟩:=h
 cases rx
 obtain⟨u,rfl,ru⟩:=rv.one
 obtain⟨z,its,n,r,hl,e⟩:=I.lstM hH
 refine b1O F.slot_list_append ⟨_,e,rfl⟩ F.entry_list_append (F.args_list_append_2 _ _) (PySem.list_append l its.toArray n u (by rw[l5];omega)) ⟨e,?_⟩
 refine⟨.non,_,I.lset (its':=its++[u]) hH e (by simp) (r.append (.cons ru .nil)) ?_,rfl,q⟩
 rw[g8,J3]
 omega
def c4L:V->List V->Hp->VK->Prop:=fun x vs H Q=>∃l b xs zs,x=.ref l/\vs=[.ref b]/\H l=some (.lst xs)/\H b=some (.lst zs)/\xs.length+zs.length<=u8/\Q .non (upd H l (.lst (xs++zs)))
theorem c0s:MtM X "list.extend" c4L:=by
 intro pins s σ H x vs v us Q I rx rv h
 obtain⟨l,b,xs,zs,rfl,rfl,hH,hB,hz,q⟩:=h
 cases rx
 obtain⟨u,rfl,ru⟩:=rv.one
 cases ru
 obtain⟨z,its,n,r,hl,e⟩:=I.lstM hH
 obtain⟨z2,its2,n2,r2,hl2,e2⟩:=I.lstM hB
 have hsz:its.toArray.size+its2.toArray.size<=u8:=by rw[l5,l5];omega
 have hlong:¬(!its.toArray.isEmpty&&Builtin.List.listTooLong (its.toArray.size+its2.toArray.size))=true:=by
  rw[c3n hsz,Bool.and_false]
  exact w6
 refine b1O F.slot_list_extend ⟨_,e,rfl⟩ F.entry_list_extend (F.args_list_extend_2 _ _)
  (AutoSeq1.list_extend_list_list_0 l its.toArray n b its2.toArray n2 hlong (by rw[l5];omega) (by omega)) ⟨e,e2,?_⟩
 refine⟨.non,_,I.lset (its':=its++its2) hH e (by simp) (r.append r2) ?_,rfl,q⟩
 rw[g8]
 omega
def d1h:V->List V->Hp->VK->Prop:=fun x vs H Q=>∃l xs y,x=.ref l/\vs=[]/\H l=some (.lst xs)/\xs[xs.length - 1]? = some y/\Q y (upd H l (.lst xs.dropLast))
theorem c8J:MtM X "list.pop" d1h:=by
 intro pins s σ H x vs v us Q I rx rv h
 obtain⟨l,xs,y,rfl,rfl,hH,hy,q⟩:=h
 cases rx
 have hus:=rv.zero
 subst hus
 obtain⟨z,its,n,r,hl,e⟩:=I.lstM hH
 obtain⟨u,hu,ru⟩:=r.get hy
 have hy':its.toArray[its.toArray.size - 1]? = some u:=by
  show its.toArray[its.length - 1]? = some u
  rw[<-L4,<-hl]
  exact hu
 refine b1O F.slot_list_pop ⟨_,e,rfl⟩ F.entry_list_pop (F.args_list_pop_1 _) (MeetsSeq.list_pop_last l its.toArray n u hy' (by rw[l5];omega)) ⟨e,?_⟩
 refine⟨y,_,I.lset (its':=its.dropLast) hH e ?_ r.dropLast ?_,ru,q⟩
 ·show its.toArray.eraseIdxIfInBounds (its.toArray.size - 1)=its.dropLast.toArray
  rw[l5,List.eraseIdxIfInBounds_toArray,b7X]
 ·rw[List.length_dropLast]
  omega
def c2A:V->List V->Hp->VK->Prop:=fun x vs H Q=>∃l xs,x=.ref l/\vs=[]/\H l=some (.lst xs)/\Q .non (upd H l (.lst xs.reverse))
theorem b7H:MtM X "list.reverse" c2A:=by
 intro pins s σ H x vs v us Q I rx rv h
 obtain⟨l,xs,rfl,rfl,hH,q⟩:=h
 cases rx
 have hus:=rv.zero
 subst hus
 obtain⟨z,its,n,r,hl,e⟩:=I.lstM hH
 refine b1O F.slot_list_reverse ⟨_,e,rfl⟩ F.entry_list_reverse (F.args_list_reverse_1 _) (AutoSeq1.list_reverse_list_0 l its.toArray n (by rw[l5];omega)) ⟨e,?_⟩
 refine⟨.non,_,I.lset (its':=its.reverse) hH e (by simp) r.reverse ?_,rfl,q⟩
 rw[a8B]
 omega
def c7E:V->List V->Hp->VK->Prop:=fun x vs H Q=>∃l xs,x=.ref l/\vs=[]/\H l=some (.lst xs)/\Q .non (upd H l (.lst []))
theorem c3u:MtM X "list.clear" c7E:=by
 intro pins s σ H x vs v us Q I rx rv h
 obtain⟨l,xs,rfl,rfl,hH,q⟩:=h
 cases rx
 have hus:=rv.zero
 subst hus
 obtain⟨z,its,n,r,hl,e⟩:=I.lstM hH
 refine b1O F.slot_list_clear ⟨_,e,rfl⟩ F.entry_list_clear (F.args_list_clear_1 _) (AutoSeq1.list_clear_list_0 l its.toArray n (by rw[l5];omega)) ⟨e,?_⟩
 exact⟨.non,_,I.lset (its':=[]) (ys:=[]) hH e rfl .nil (L6 _),rfl,q⟩
def d1i:R2:=fun x y H Q=>∃l b xs zs,x=.ref l/\y=.ref b/\H l=some (.lst xs)/\H b=some (.lst zs)/\xs.length+zs.length<=u8/\∀p,H p=none->Q (.ref p) (upd H p (.lst (xs++zs)))
theorem c8C:OpR X (a0i .Add) d1i:=by
 intro pins s σ H x y v u Q I rx ry h
 obtain⟨l,b,xs,zs,rfl,rfl,hH,hB,hz,q⟩:=h
 cases rx
 cases ry
 obtain⟨z,its,n,r,hl,e⟩:=I.lstM hH
 obtain⟨z2,its2,n2,r2,hl2,e2⟩:=I.lstM hB
 refine PySem.P.add_list e e2 ?_ (by rw[l5,l5];omega)
 have ea:its.toArray++its2.toArray=(its++its2).toArray:=by simp
 rw[ea]
 exact⟨.ref _,_,I.lnew (t':=s.toks) (r.append r2) (by rw[g8];omega),rfl,q _ I.fresh⟩
end
section
variable {prog:C9}{w:World}{A:O0}{E:Value->i8->Prop}
set_option maxRecDepth 100000 in
end
section
end
end L2
namespace Att
open PySem PySem.W PySem.Calls PyProof.Rows
theorem a9R{P:Params}{h:Heap}:∀(ns:List Int) (vs:List Value),WellAll P h vs (ns.map WData.int)->c7c vs ns:=by
 intro ns
 induction ns with
 | nil=>
  intro vs w
  rw[b9e]at w
  cases w
  exact .nil
 | cons n ns ih=>
  intro vs w
  rw[E2]at w
  cases w with
  | cons a b=>
   cases a
   exact .cons _ _ (ih _ b)
theorem b9H{l:OpenLaw}{n:Nat}(hn:l.most=some n){P:Params}{h:Heap}{args:List WData}{vals:List Value}
  (hpre:l.row.toRowW.claim.pre args=true) (hwl:WellAll P h vals args) :
  ∃a vs ns,vals=[Value.ref a]/\args=[WData.list (ns.map WData.int)]/\h.get? a=some { cls:=.type "list",data:=.seq vs.toArray }/\c7c vs ns/\ns.length<=n:=by
 have hsh:WShape.hasAll [] args [.list .int]=true:=(pre_splitW hpre).1
 have hc:l.pre.holds [] { args:=args }=true:=(pre_splitW hpre).2
 obtain⟨d,r,rfl,h1,h2⟩:=hasAllW_cons hsh
 obtain rfl:=hasAllW_nil h2
 obtain⟨xs,rfl,h3⟩:=hasW_list h1
 obtain⟨ns,rfl⟩:=items_int h3
 have hlen:ns.length<=n:=by
  unfold OpenLaw.pre at hc
  have h4:(WTm.not (.lt (.lit (.int (n:Int))) (.len (.arg 0)))).holds [] { args:=[.list (ns.map .int)] }=true:=by
   have h4:=(holds_andW hc).1
   rw[hn]at h4
   exact h4
  have h5:=condW_of h4 (w_not (w_lt w_lit (w_len_list (w_arg rfl))))
  rw[a9]at h5
  refine Nat.le_of_not_lt fun q=>?_
  have q':(n:Int)<((ns.length:Nat):Int):=by omega
  first
   | (rw[d2G q']at h5;exact absurd h5 (by decide))
   | (simp at h5;omega)
 cases hwl with
 | cons w1 w2=>
  cases w2
  cases w1 with
  | list ho hall=>exact⟨_,_,ns,rfl,rfl,ho,a9R ns _ hall,hlen⟩
theorem b9W(l:OpenLaw)(args:List WData):l.row.toRowW.claim.post args (.bool true) args=true:=
 postW_of (r:=l.row.toRowW) (X:=(true == true))
  (show WShape.has [] (.bool true) .bool=true by first | rfl | decide | simp[WShape.has,WShape.arms,WShape.armsAll])
  (show(WTm.eq .res (.lit (.bool true))).value [] { args:=args,res:=some (.bool true),after:=args }=some (.bool (true == true))from w_eq_bool (w_res rfl) w_lit) rfl
theorem b6v{l:OpenLaw}{n:Nat}{q:C9}{loose:List Str}{XP:(Str->Option Value)->Heap->Prop}{YP:World->Heap->Prop}{d:DefRec}
  (hn:l.most=some n) (hdf:d.params.defaults=[])
  (call:∀(w:World) (s₀ s₁:i8) (mg mb:Str->Option Value) (fa:Addr) (o:Obj) (pm cd doc:Value) (a:Addr) (vs:List Value) (ns:List Int),
   Ground q loose [] XP w s₀ mg mb s₁.heap->YP w s₁.heap ->
   s₁.heap.get? fa=some o->o.data=.func (docDef d.name d.params d.body d.scope pm cd doc)->s₁.heap.CodeRec cd d.name->mg d.name=some (.ref fa) ->
   s₁.heap.get? a=some { cls:=.type "list",data:=.seq vs.toArray }->c7c vs ns->ns.length<=n->s₁.gens = #[] ->
   a2D (model l.prog w) c1r (.call (.ref fa) ⟨[.ref a],[]⟩) (fun r s'=>r=.ok (.ret (.bool true))/\OldK s₁.heap s'.heap/\s'.os=s₁.os/\b3v s'.gens) s₁) :
  WalkO q loose XP YP l.row.toRowW d [] (fun f vs=>b4G f vs):=by
 intro w s₀ s₁ mg mb G Y fa o pm cd doc dV kV ho hd hcd hD hmg hg args vals as hpre hlay hrd hwl hlo
 obtain rfl:dV=.none:=Dflts.none hD hdf
 obtain rfl:kV=.none:=Dflts.noKw hD
 obtain⟨a,vs,ns,rfl,rfl,hobj,hints,hlen⟩:=b9H hn hpre hwl
 refine enter_call (a4f (call w s₀ s₁ mg mb fa o pm cd doc a vs ns G Y ho (fd_plain hd) hcd hmg hobj hints hlen hg) fun r s' hq=>?_)
 obtain⟨rfl,h2,h3,h4⟩:=hq
 exact⟨.inl ⟨.bool true,.bool true,[],rfl,fun _=>rfl,.bool true,b9W l _,fun _=>⟨b4L,fun _ hm=>(nomatch hm)⟩⟩,h2,h3,h4⟩
section
variable {prog:C9}{w:World}{A:O0}{E:Value->i8->Prop}{s:i8}{K:Frag}
end
end Att
namespace L2
open PySem PySem.Spec PyProof.Rows
theorem a8I:∀ {vs:List Value} {ns:List Int},c7c vs ns->L5 (ns.map V.int) vs
 | _,_,.nil=>.nil
 | _,_,.cons n t h=>.cons ⟨t,rfl⟩ (a8I h)
def c6v(H:Hp):Prop:=∀b,H b=none\/∃o xs,H b=some (.frz o (.lst xs))
theorem c3y{P:C9}{w:World}{K:Fg}{mg mb:Str->Option Value}{CX:CXT}{k:Nat}{fa a:Addr}{fd:a0G}{x:Str}{sp:Sp}{s₁:i8}{vs:List Value}{ns:List Int}
  (KX:K.In s₁.heap) (hns:s₁.heap.Ns A7 mg) (hb:s₁.heap.Ns builtinsNs mb) (hbb:∀x:Str,x ≠ "__name__" -> mb x=Y5 x) (hlim:s₁.heap.NoLimit) (hg:s₁.gens = #[])
  (ha:s₁.heap.get? a=some { cls:=.type "list",data:=.seq vs.toArray }) (hi:c7c vs ns) (hl:ns.length<=u8) (hr:V6 k c1r)
  (F:∀base:Heap,K.In base->base.Ns A7 mg->N4 P w K mg base CX k fa fd [x] sp) (hbind:∀(s:i8) (u:Value),c1s s fd ⟨[u],[]⟩ [(x,u)])
  (hsp:∀H:Hp,c6v H->SqL K H a (ns.map V.int)->sp [.ref a] H (fun v _=>v=.bl true) fun _ _ _=>False)
  (hCX:∀H e s',CX [] H s₁ (fun _ _ _=>False) e s'->False) :
  a2D (model P w) c1r (.call (.ref fa) ⟨[.ref a],[]⟩) (fun r s'=>r=.ok (.ret (.bool true))/\OldK s₁.heap s'.heap/\s'.os=s₁.os/\b3v s'.gens) s₁:=by
 have rv:=a8I hi
 have lenV:=hi.length
 have core:∀H:Hp,c6v H->SqL K H a (ns.map V.int)->HOk P w H s₁.heap->(∀b,H b≠none->b=a)->(H a≠none->K.lookup a=none) ->
   a2D (model P w) c1r (.call (.ref fa) ⟨[.ref a],[]⟩) (fun r s'=>r=.ok (.ret (.bool true))/\OldK s₁.heap s'.heap/\s'.os=s₁.os/\b3v s'.gens) s₁:=by
  intro H hO hS hok hA hK
  have base_of:∀ {b:Addr} {o:Obj},s₁.heap.get? b=some o->H b=none->(b4k s₁.heap H).get? b=some o:=fun e n=>c3H e n
  have noA:∀ {b:Addr} {o:Obj} {es:Array a3d} {ep:Nat},s₁.heap.get? b=some o->o.data=.dict es ep->H b=none:=fun {b o es ep} e d=>by
   cases q:H b with
   | none=>rfl
   | some u=>
    have e':b=a:=hA b (by rw[q];simp)
    subst e'
    rw[ha]at e;cases e
    have d':Data.seq vs.toArray _=Data.dict es ep:=d
    cases d'
  have nsK:∀ {b:Addr} {m:Str->Option Value},s₁.heap.Ns b m->(b4k s₁.heap H).Ns b m:=fun {b m} ⟨o,es,ep,e,d,r⟩=>⟨o,es,ep,base_of e (noA e d),d,r⟩
  have hKb:K.In (b4k s₁.heap H):=fun b o e=>base_of (KX b o e) (by
   cases q:H b with
   | none=>rfl
   | some u=>
    have e':b=a:=hA b (by rw[q];simp)
    subst e'
    rw[hK (by rw[q];simp)]at e;cases e)
  have hM:Mod K mg (b4k s₁.heap H):=⟨hKb,nsK hns,⟨mb,nsK hb,hbb⟩,let⟨mc,h1,h2⟩:=hlim; ⟨mc,nsK h1,h2⟩⟩
  have e0:b8k P w K mg (b4k s₁.heap H) c1r [] s₁ H:=⟨rfl,hM,fun b o e=>c5M e,c1b (c0D _ _),trivial,fun b hb=>absurd (show b∈([]:List Addr)from hb) (by simp),hok,.of_eq hg⟩
  refine a4f ((F _ hKb (nsK hns)).run c1r [] s₁ H ⟨[.ref a],[]⟩ [.ref a] [.ref a] _ _ hr e0 (hbind s₁ (.ref a)) (.cons rfl .nil) (hsp H hO hS)) fun r s' h=>?_
  cases r with
  | error e=>exact(hCX H e s' h).elim
  | ok fl=>
   cases fl with
   | next=>exact False.elim h
   | brk=>exact False.elim h
   | cont=>exact False.elim h
   | ret u=>
    obtain⟨v,H',os,bare,un,hok',r',q⟩:=h
    have q':v=.bl true:=q
    subst q'
    obtain rfl:u=Value.bool true:=r'
    refine⟨rfl,OldK.of_keep fun b o e=>?_,os,bare⟩
    cases q:H b with
    | none=>exact un.keep b o e q (by intro z;exact absurd (show b∈([]:List Addr)from z) (by simp)) (by simp)
    | some u=>
     rcases hO b with z | ⟨ob,xs,z⟩
     ·rw[q]at z;cases z
     ·have z2:=un.frzs b ob _ z
      obtain⟨e1,_⟩:=hok b _ z
      obtain⟨e2,_⟩:=hok' b _ z2
      rw[e]at e1;cases e1
      exact e2
 cases hk:K.lookup a with
 | some o=>
  have e:=KX a o hk
  rw[ha]at e
  cases e
  refine core (fun _=>none) (fun _=>.inl rfl) (.inr ⟨_,vs.toArray,_,hk,rfl,rfl,rfl,by rw[l5,lenV];exact hl,by simpa using rv⟩) (fun b u z=>by have z':(none:Option HO)=some u:=z;cases z') (fun b z=>absurd rfl z) fun z=>absurd rfl z
 | none=>
  refine core (fun b=>if b=a then some (.frz { cls:=.type "list",data:=.seq vs.toArray } (.lst (ns.map V.int)))else none) (fun b=>?_) (.inl (.inr ⟨{ cls:=.type "list",data:=.seq vs.toArray },if_pos rfl⟩)) (fun b u z=>?_) (fun b z=>?_) fun _=>hk
  ·by_cases hb:b=a
   ·exact .inr ⟨_,_,if_pos hb⟩
   ·exact .inl (if_neg hb)
  ·by_cases hb:b=a
   ·have z':=(if_pos hb).symm.trans z
    cases z'
    subst hb
    exact⟨ha,by rw[a9];exact hl,vs,_,rv,ha⟩
   ·have z':=(if_neg hb).symm.trans z
    cases z'
  ·by_cases hb:b=a
   ·exact hb
   ·exact absurd (if_neg hb) z
theorem c4w{l:PySem.W.OpenLaw}{n k:Nat}{q:C9}{loose:List Str}{XP:(Str->Option Value)->Heap->Prop}{YP:World->Heap->Prop}{d:DefRec}{K:Params->Fg}{CX:World->CXT}{sp:World->Sp}{x:Str}
  (hn:l.most=some n) (hn2:n<=u8) (hdf:d.params.defaults=[]) (hr:V6 k c1r)
  (hY:∀(w:World) (h:Heap),YP w h->(K w.params).In h)
  (F:∀(w:World) (mg:Str->Option Value) (fa:Addr) (h:Heap),(K w.params).In h->h.Ns A7 mg->mg d.name=some (.ref fa) ->
   ∃fd:a0G,(∀(s:i8) (u:Value),c1s s fd ⟨[u],[]⟩ [(x,u)]) /\
    ∀base:Heap,(K w.params).In base->base.Ns A7 mg->N4 l.prog w (K w.params) mg base (CX w) k fa fd [x] (sp w))
  (hsp:∀(w:World) (H:Hp) (a:Addr) (ns:List Int),ns.length<=n->c6v H->SqL (K w.params) H a (ns.map V.int)->sp w [.ref a] H (fun v _=>v=.bl true) fun _ _ _=>False)
  (hCX:∀(w:World) (H:Hp) (s:i8) (e:Value) (s':i8),CX w [] H s (fun _ _ _=>False) e s'->False) :
  PySem.W.WalkO q loose XP YP l.row.toRowW d [] (fun f vs=>b4G f vs):=by
 refine Att.b6v hn hdf fun w s₀ s₁ mg mb fa o pm cd doc a vs ns G Y ho hd hcd hmg hobj hints hlen hg=>?_
 have KX:=hY w _ Y
 obtain⟨fd,hb,hF⟩:=F w mg fa _ KX G.T.g hmg
 exact c3y KX G.T.g G.T.b G.T.builtins G.T.nolimit hg hobj hints (J5 hlen hn2) hr hF hb (fun H hO hS=>hsp w H a ns hlen hO hS) fun H e s'=>hCX w H s₁ e s'
abbrev CX0:CXT:=fun _ _ _ _ _ _=>False
abbrev E0:XK:=fun _ _ _=>False
theorem b8F{X:Cx}:a7y CX0 X E0:=fun _ _ _ _ _ _ _ h=>h.elim
structure Fun(K:Fg)(x qual:Str)(st:Stmt)(f:Addr)(fd:a0G):Prop where
 ex:∃(oc:Value) (od:Option Addr) (kV doc pm:Value) (an:Option Addr) (cdv ct:Value) (osl:Array (Option Value)),
  fd=a1a x qual (a3L st) (a1K st) (j8 st) .none kV doc pm an cdv ct/\K.lookup f=some ⟨oc,od,.func fd,osl⟩/\a6F K cdv qual=true
 kp:Z4 K (.ref f)=true
section
variable {P:C9}{w:World}{K:Fg}{mg:Str->Option Value}{base:Heap}
theorem Fun.ok{x qual:Str}{st:Stmt}{f:Addr}{fd:a0G}{N ps:List Str}{k:Nat}{sp:Sp}(F:Fun K x qual st f fd)(S:C4 N ps (j8 st))(len:∀vs H Q E,sp vs H Q E->vs.length=ps.length)
  (hbody:∀(cdv:Value) (A:O0) (outer:List Env) (s:i8) (H:Hp) (vs:List V) (Q:VK) (E:XK),V6 k (A.deeper (b4M qual (j8 st) s.heap.objs.size f cdv))->sp vs H Q E ->
   ∃t,PSs (b6e CX0 P w K mg base N qual (j8 st) f cdv A outer s H E).nox (a1K st) t/\t { nx:=fun _ H'=>Q .non H',rt:=Q } (a7U N vs) H):N4 P w K mg base CX0 (k+1) f fd ps sp:=by
 obtain⟨oc,od,kV,doc,pm,an,cdv,ct,osl,rfl,lk,hcd⟩:=F.ex
 refine d0F lk hcd S len fun A outer s H vs Q E hr hsp=>?_
 obtain⟨t,h,q⟩:=hbody cdv A outer s H vs Q E hr hsp
 exact⟨t,h.nox,q⟩
theorem Fun.binds{x qual:Str}{st:Stmt}{f:Addr}{fd:a0G}{ps:List Str}(F:Fun K x qual st f fd)
  (h:∀(kV doc pm:Value) (an:Option Addr) (cdv ct:Value) (us:List Value),us.length=ps.length->bindArgs (a1a x qual (a3L st) (a1K st) (j8 st) .none kV doc pm an cdv ct) ⟨us,[]⟩=pure (ps.zip us)):a4A K fd ps []:=by
 obtain⟨oc,od,kV,doc,pm,an,cdv,ct,osl,rfl,lk,hcd⟩:=F.ex
 exact .all (h kV doc pm an cdv ct)
theorem c8X{x qual:Str}{st:Stmt}{f:Addr}{oc:Value}{od an:Option Addr}{osl:Array (Option Value)}{kV doc pm cdv ct:Value}(l:K.lookup f=some ⟨oc,od,.func (a1a x qual (a3L st) (a1K st) (j8 st) .none kV doc pm an cdv ct),osl⟩)
  (c:a6F K cdv qual=true) (k:Z4 K (.ref f)=true):Fun K x qual st f (a1a x qual (a3L st) (a1K st) (j8 st) .none kV doc pm an cdv ct):=⟨⟨oc,od,kV,doc,pm,an,cdv,ct,osl,rfl,l,c⟩,k⟩
end
theorem b5W{A:O0}{k:Nat}(hr:V6 k A):A.units+1<cLine:=Nat.lt_of_le_of_lt (Nat.add_le_add_left (by decide:1<=64) _) hr.units
section
variable {X:Cx}
end
theorem c8U{A B:Prop}(h:B):if false=true then A else B:=by
 rw[if_neg w6]
 exact h
theorem b5T{A B:Prop}(h:A):if true=true then A else B:=by
 rw[if_pos rfl]
 exact h
theorem a2e{c A B:Prop}[Decidable c](h1:c->A)(h2:¬c->B):if c then A else B:=by
 by_cases h:c
 ·rw[if_pos h]
  exact h1 h
 ·rw[if_neg h]
  exact h2 h
def A0(H H':Hp):Prop:=∀b o,H b=some o->H' b=some o
theorem A0.refl(H:Hp):A0 H H:=fun _ _ h=>h
theorem A0.trans{H H1 H2:Hp}(a:A0 H H1)(b:A0 H1 H2):A0 H H2:=fun c o h=>b c o (a c o h)
theorem A0.free{H H':Hp}(e:A0 H H'){l:Addr}(h:H' l=Option.none):H l=Option.none:=by
 cases q:H l with
 | none=>rfl
 | some o=>
  rw[e l o q]at h
  cases h
section
variable {κ:Type}[DecidableEq κ]
theorem b8o{kvs:List (κ×V)}{k:κ}{v:V}(h:a3R kvs k=some v):k∈kvs.map (·.1):=by
 have q:(kvs.any fun kv=>decide (kv.1=k))=true:=by
  rw[a2s,h]
  all_goals rfl
 obtain⟨p,hp,e⟩:=a5y.mp q
 exact C8.mpr ⟨p,hp,of_decide_eq_true e⟩
end
end L2
set_option maxHeartbeats 4000000
namespace L2
open PySem PySem.Spec PyProof.Rows
variable{env:Env}{scope:Scope}{X:Cx}{w:World}{s:i8}{elt iter:Expr}{elts ifs:List Expr}{p pos tp:Pos}{pins:List (Addr×Obj)}{σ:St}{H:Hp}{cl:List (Str×Addr)}{fp:List Addr}{tt:TT}{te:TE}{xs:List V}{us:List Value}{u:Value}{j:Nat}{ps:List Str}{sp:Sp}
theorem b4r:∀(names:List (Str×a6K)) (cs:List (Str×Addr)),(∀y∈names,y.2=.free->∃c,env.cells.lookup y.1=some c) ->
  (∀y c,cs.lookup y=some c->env.cells.lookup y=some c) ->
  ∃cl,(forIn names cs (fun(x:Str×a6K) (r:List (Str×Addr))=>(if(x.2 == NameKind.free)=true then (do let c <-cellOf env x.1;pure (ForInStep.yield ((x.1,c)::r)))else pure (ForInStep.yield r):Sem (ForInStep (List (Str×Addr)))))=(pure cl:Sem (List (Str×Addr)))) /\
   (∀y c,cl.lookup y=some c->env.cells.lookup y=some c)/\(∀y,(y,NameKind.free)∈names\/(cs.lookup y).isSome=true->(cl.lookup y).isSome=true)
 | [],cs,_,h=>⟨cs,rfl,h,fun y q=>q.elim (fun z=>absurd z (by simp)) id⟩
 | (n,k)::r,cs,hc,h=>by
  by_cases e:(k == NameKind.free)=true
  ·have ek:k=.free:=by simpa using e
   obtain⟨c,hcc⟩:=hc (n,k) F4 ek
   have h':∀y d,((n,c)::cs).lookup y=some d->env.cells.lookup y=some d:=by
    intro y d q
    rw[L8]at q
    cases eq:y == n with
    | true=>
     rw[eq]at q
     have e2:y=n:=by simpa using eq
     cases q;rw[e2];exact hcc
    | false=>rw[eq]at q;exact h y d q
   obtain⟨cl,h1,h2,h3⟩:=b4r r ((n,c)::cs) (fun y hy=>hc y (F9 _ hy)) h'
   refine⟨cl,?_,h2,fun y q=>h3 y ?_⟩
   ·rw[c9m]
    show((if(k == NameKind.free)=true then (do let c <-cellOf env n;pure (ForInStep.yield ((n,c)::cs)))else pure (ForInStep.yield cs):Sem (ForInStep (List (Str×Addr)))) >>= _)=_
    rw[if_pos e]
    have ec:cellOf env n=pure c:=by unfold cellOf;rw[hcc]
    rw[ec]
    exact h1
   ·rcases q with q | q
    ·rcases j4.mp q with q | q
     ·cases q
      right
      simp[L8]
     ·exact .inl q
    ·right
     rw[L8]
     cases y == n
     ·exact q
     ·rfl
  ·obtain⟨cl,h1,h2,h3⟩:=b4r r cs (fun y hy=>hc y (F9 _ hy)) h
   refine⟨cl,?_,h2,fun y q=>h3 y ?_⟩
   ·rw[c9m]
    show((if(k == NameKind.free)=true then (do let c <-cellOf env n;pure (ForInStep.yield ((n,c)::cs)))else pure (ForInStep.yield cs):Sem (ForInStep (List (Str×Addr)))) >>= _)=_
    rw[if_neg e]
    exact h1
   ·rcases q with q | q
    ·rcases j4.mp q with q | q
     ·cases q
      exact absurd rfl e
     ·exact .inl q
    ·exact .inr q
theorem a7w(hc:∀y∈scope.names,y.2=.free->∃c,env.cells.lookup y.1=some c) :
  ∃cl,closureFor scope env=pure cl/\(∀y c,cl.lookup y=some c->env.cells.lookup y=some c)/\∀y,(y,NameKind.free)∈scope.names->(cl.lookup y).isSome=true:=by
 obtain⟨cl,h1,h2,h3⟩:=b4r scope.names [] hc (fun y c q=>by cases q)
 refine⟨cl,?_,h2,fun y q=>h3 y (.inl q)⟩
 unfold closureFor
 first
  | exact h1
  | (show(forIn scope.names [] _ >>= fun r=>pure r)=_;rw[h1];rfl)
theorem S9{env:Env}:∀ {names:List (Str×a6K)} {y:Str} {k:a6K},
  (names.map fun(n,k)=>if(k == NameKind.free&&env.scope.kind == .function&&env.kindOf n == some .cell)then (n,NameKind.cell)else (n,k)).lookup y=some k ->
  names.lookup y=some k\/(names.lookup y=some .free/\k=.cell)
 | [],_,_,h=>by cases h
 | (n,k0)::r,y,k,h=>by
  have ih := @S9 env r y k
  rw[E2]at h
  rw[L8]
  cases hx:y == n with
  | true=>
   by_cases hc:(k0 == NameKind.free&&env.scope.kind == .function&&env.kindOf n == some .cell)=true
   ·have e2:k0=.free:=by simp at hc;exact hc.1.1
    dsimp only at h
    rw[if_pos hc,L8,hx]at h
    cases h
    exact .inr ⟨by rw[e2],rfl⟩
   ·dsimp only at h
    rw[if_neg hc,L8,hx]at h
    exact .inl h
  | false=>
   by_cases hc:(k0 == NameKind.free&&env.scope.kind == .function&&env.kindOf n == some .cell)=true
   ·dsimp only at h
    rw[if_pos hc,L8,hx]at h
    exact ih h
   ·dsimp only at h
    rw[if_neg hc,L8,hx]at h
    exact ih h
def hid(x:Str)(N:List Str):List Str:=N.map fun y=>if y=x then ("." : Str)++x else y
def a0a(X:Cx)(scope:Scope)(cl:List (Str×Addr))(C:Addr)(x:Str)(fp:List Addr)(s3:i8)(H3:Hp):Cx:=
 { X with N:=x::hid x X.N,s₀:=s3,H₀:=H3,env:=c1e scope cl C X.env,outer:=X.stack,stack:=X.stack,ex:=fp,fn:=fun _=>false,pn:=[],xe:=fun _ _=>False }
structure Q5(N:List Str)(osc sc:Scope)(x:Str):Prop where
 kind:sc.kind=.function
 cell:∀y∈sc.names,y.2≠.cell
 names:∀y∈sc.names,y.2=.local->sc.names.lookup y.1=some .local
 own:sc.names.lookup x=some .local
 fr:∀y∈sc.names,y.2=.free->osc.names.lookup y.1=some .cell\/osc.names.lookup y.1=some .free
 see:∀y∈hid x N,sc.names.lookup y≠some .local
 dot:sc.names.lookup (("." : Str)++x)=none
 nd:(x::hid x N).Nodup
def Y0(wi:TI)(tt:TT)(te:TE):TE:=fun σ H Q=>wi σ H fun J H1=>∀D,H1 D=none->∃W:Nat->Nat->List V->Hp->Prop,
 (∃m,W 0 m [] (upd H1 D (.lst [])))/\∀i m ys H2,W i m ys H2->H2 D=some (.lst ys) /\
  ((J.stop i H2 /\ Q (.ref D) H2) \/ (J.go i H2 /\ ∀ x H3,J.yld i H2 x H3 -> tt (some x :: σ) H3 fun ok H4 => if ok = true then
    te (some x::σ) H4 (fun y H5=>H5 D=some (.lst ys)/\ys.length<u8/\∃m',m'<m/\W (i+1) m' (ys++[y]) (upd H5 D (.lst (ys++[y]))))
    else ∃m',m'<m/\W (i+1) m' ys H4))
def PTs(X:Cx)(ifs:List Expr)(t:TT):Prop:=
 ∀(pins:List (Addr×Obj)) (s:i8) (σ:St) (H:Hp) (Q:Bool->Hp->Prop),Inv X pins σ H s->t σ H Q ->
  wpAny (model X.prog X.w) X.A (forIn ifs true fun c r=>if r=true then do let ok <-isTrue c X.env (eval c X.env);pure (ForInStep.yield ok)else pure (ForInStep.yield r)) (TP X pins σ Q) X.xe s
def X4:TT:=fun _ H Q=>Q true H
theorem c4W:PTs X [] X4:=fun _ _ _ H _ I h=>wpAny_tests_nil ⟨H,I,h⟩
theorem c4V{c:Expr}{t:TT}(h:PT X c t):PTs X [c] t:=fun pins s σ H Q I hq=>wpAny_tests_one (h pins s σ H Q I hq)
theorem b3j{prog:C9}{A:O0}{R:b4N->i8->Prop}{target:Expr}{it acc:Value}(I:Nat->i8->Prop)
  (turn:∀n s,I n s->wpAny (model prog w) A (a4e it) (fun r s₁=>match r with
   | none=>R (.ok .next) s₁
   | some v=>wpAny (model prog w) A (a5A target it v) (fun _ s₂=>wpAny (model prog w) A (b2z target env v) (fun _ s₃=>
     wpAny (model prog w) A (forIn ifs true fun c r=>if r=true then do let ok <-isTrue c env (eval c env);pure (ForInStep.yield ok)else pure (ForInStep.yield r)) (fun ok s₄=>
      if ok=true then wpAny (model prog w) A (eval elt env) (fun x s₅=>
       wpAny (model prog w) A (call (.builtin "list.append") [acc,x]) (fun _ s₆=>∃m,m<n/\I m s₆) (fun _ _=>False) s₅) (fun _ _=>False) s₄
      else ∃m,m<n/\I m s₄) (fun _ _=>False) s₃) (fun _ _=>False) s₂) (fun _ _=>False) s₁) (fun _ _=>False) s)
  (n:Nat) (h:I n s) :
  a2D (model prog w) A (.compLoop (.ListComp elt [⟨target,iter,ifs,0⟩] scope pos) 0 it acc env) R s:=by
 have up:∀ {α:Type} {m:Sem α} {Q:α->i8->Prop} {E:Value->i8->Prop} {s:i8},wpAny (model prog w) A m Q (fun _ _=>False) s->wpAny (model prog w) A m Q E s:=
  fun h=>a0m h (fun _ _ q=>q) fun _ _ f=>f.elim
 refine codeAny_loop rfl I (fun n s hI=>?_) n h
 refine wpAny_noted ?_
 rw[compTurn_list]
 refine b6 (c6Z (b6 (up (thn (turn n s hI) fun r s₁ h₁=>?_))))
 cases r with
 | none=>exact d7 h₁
 | some v=>
  refine b6 (up (thn h₁ fun _ s₂ h₂=>b6 (up (thn h₂ fun _ s₃ h₃=>b6 (up (thn h₃ fun ok s₄ h₄=>?_))))))
  cases ok with
  | false=>exact d7 ⟨rfl,by simpa using h₄⟩
  | true=>
   rw[if_pos rfl]at h₄
   exact b6 (b6 (up (thn h₄ fun x s₅ h₅=>b6 (up (thn h₅ fun _ s₆ h₆=>d7 (d7 ⟨rfl,h₆⟩))))))
section
variable {x:Str}{px:Pos}
theorem c3T{s3:i8}{h4:Heap}{tk:Nat}(hc:Q5 X.N X.env.scope scope x)(I:Inv X pins σ H s3)
  (hcl:∀y c,cl.lookup y=some c->X.env.cells.lookup y=some c) (hcl2:∀y,(y,NameKind.free)∈scope.names->(cl.lookup y).isSome=true)
  (fpo:∀b∈fp,a6D X pins H b) (fpl:∀b∈fp,b<s3.heap.objs.size)
  (hn:h4.Ns s3.heap.objs.size (fun _=>none)) (k:∀b o,s3.heap.get? b=some o->h4.get? b=some o) :
  Inv (a0a X scope cl s3.heap.objs.size x fp s3 H) [] (none::σ) H { s3 with heap:=h4,toks:=tk }:=by
 have low:∀x y,(a0a X scope cl s3.heap.objs.size x fp s3 H).env.cells.lookup y=cl.lookup y:=fun _ _=>rfl
 have below:∀y c,cl.lookup y=some c->c<s3.heap.objs.size:=fun y c e=>by
  obtain⟨v,q⟩:=I.cell y c (hcl y c e)
  exact q.lt
 have kinds:∀y,((a0a X scope cl s3.heap.objs.size x fp s3 H).env.kindOf y=some .cell\/(a0a X scope cl s3.heap.objs.size x fp s3 H).env.kindOf y=some .free)->scope.names.lookup y=some .free:=by
  intro y hy
  rcases hy with hy | hy
  ·rcases S9 hy with q | ⟨q,_⟩
   ·exact absurd rfl (hc.cell _ (E1 q))
   ·exact q
  ·rcases S9 hy with q | ⟨q,z⟩
   ·exact q
   ·cases z
 refine⟨⟨I.ok.mod,?_,I.ok.glob,I.ok.blt,j6 _,fun y z c h1 h2=>?_,fun y hy=>?_,fun y c h=>?_,I.ok.hd,I.ok.frames,.inl rfl,fun b hb=>⟨?_,fun y c e z=>?_⟩,fun b o e=>I.bs b o e,J5 I.ok.bsz I.sz,fun b o e hb=>?_,fun b hb hf=>?_,I.stack,I.stkFree⟩,
  rfl,I.bare,Un.kept k,⟨_,hn,fun i y v h1 h2 h3=>?_⟩,fun y c e=>?_,I.fresh,fun y c e=>?_,fun p hp=>absurd (show p∈([]:List (Addr×Obj))from hp) (by simp),I.hok.kept k,?_⟩
 ·exact hc.kind
 ·exact I.ok.inj y z c (hcl _ _ h1) (hcl _ _ h2)
 ·have:=hcl2 y (E1 (kinds y hy))
  exact a0s.mp this
 ·cases h
 ·exact u9 (fpl b hb)
 ·exact(fpo b hb).2.2.2.2.1 y c (hcl y c e) z
 ·rcases(fpo b hb).2.2.2.1 with q | q
  ·exact I.ok.noex b o e q
  ·exact absurd (D7 (j5 (I.ok.bs b o e).1) q) (N9 _)
 ·rcases j4.mp (I.stkSub b hf)with e | e
  ·exact(fpo b hb).2.1 e
  ·exact(fpo b hb).2.2.1 e
 ·-- the names
  have h1:(x::hid x X.N)[i]? = some y:=h1
  cases i with
  | zero=>cases h2
  | succ i=>
   have h1:(hid x X.N)[i]? = some y:=h1
   have h2:σ[i]? = some (some v):=h2
   have my:y∈hid x X.N:=X3 h1
   have h3:(a8F scope X.env).names.lookup y=some .local\/(a8F scope X.env).names.lookup y=some .cell\/(a8F scope X.env).names.lookup y=some .free:=h3
   have hf:scope.names.lookup y=some .free:=by
    rcases h3 with q | q
    ·rcases S9 q with q | ⟨_,z⟩
     ·exact absurd q (hc.see y my)
     ·cases z
    ·exact kinds y q
   have hy:X.N[i]? = some y:=by
    unfold hid at h1
    rw[b8]at h1
    cases e:X.N[i]? with
    | none=>rw[e]at h1;cases h1
    | some z=>
     rw[e]at h1
     by_cases ez:z=x
     ·rw[a2Y,if_pos ez]at h1
      have h1:=Option.some.inj h1
      subst h1
      rw[hc.dot]at hf
      cases hf
     ·rw[a2Y,if_neg ez]at h1
      exact h1
   obtain⟨m,_,hl⟩:=I.loc
   obtain⟨c,hcc⟩:=a0s.mp (hcl2 y (E1 hf))
   have vis:Vis X.env.scope y:=by
    rcases hc.fr _ (E1 hf) rfl with q | q
    ·exact .inr (.inl q)
    ·exact .inr (.inr q)
   obtain⟨u,ru,lk⟩:=hl i y v hy h2 vis
   refine⟨u,ru,.inr ⟨?_,c,hcc,?_⟩⟩
   ·rcases h3 with q | q
    ·rcases S9 q with q | ⟨_,z⟩
     ·exact absurd q (hc.see y my)
     ·cases z
    ·exact q
   ·have hce:=hcl y c hcc
    rcases lk with ⟨q,_⟩ | ⟨_,c',e',z⟩
    ·rcases hc.fr _ (E1 hf) rfl with q' | q'
     ·have q:X.env.scope.names.lookup y=some .local:=q
      rw[show X.env.scope.names.lookup y=some NameKind.cell from q']at q
      cases q
     ·have q:X.env.scope.names.lookup y=some .local:=q
      rw[show X.env.scope.names.lookup y=some NameKind.free from q']at q
      cases q
    ·rw[e']at hce
     cases hce
     obtain⟨o,ho,hd⟩:=z
     exact⟨o,k _ _ ho,hd⟩
 ·obtain⟨v,o,ho,hd⟩:=I.cell y c (hcl y c e)
  exact⟨v,o,k _ _ ho,hd⟩
 ·exact I.freeC y c (hcl y c e)
 ·show(none::σ).length=(x::hid x X.N).length
  have:=I.len
  simp[hid,this]
theorem b1A{H1:Hp}{s2:i8}{it:Addr}{tn:Nat->Heap->Prop}{J:It}{Q:VK}{E:Value->i8->Prop}
  {RR:Value->Addr->b4N->i8->Prop} (hc:Q5 X.N X.env.scope scope x) (hcalm:X.calm=true)
  (hcl:∀y c,cl.lookup y=some c->X.env.cells.lookup y=some c) (hcl2:∀y,(y,NameKind.free)∈scope.names->(cl.lookup y).isSome=true)
  (ht:∀C fp s3 H3,PTs (a0a X scope cl C x fp s3 H3) ifs tt) (he:∀C fp s3 H3,PE (a0a X scope cl C x fp s3 H3) elt te)
  (I:Inv X pins σ H1 s2) (T:b4C X.prog X.w X.K (.Name x px) J fp it tn) (st:tn 0 s2.heap) (fpo:∀b∈fp,a6D X pins H1 b)
  (h:∀D,H1 D=none->∃W:Nat->Nat->List V->Hp->Prop,
   (∃m,W 0 m [] (upd H1 D (.lst [])))/\∀i m ys H2,W i m ys H2->H2 D=some (.lst ys) /\
   ((J.stop i H2 /\ Q (.ref D) H2) \/ (J.go i H2 /\ ∀ x H3,J.yld i H2 x H3 -> tt (some x :: σ) H3 fun ok H4 => if ok = true then
     te (some x::σ) H4 (fun y H5=>H5 D=some (.lst ys)/\ys.length<u8/\∃m',m'<m/\W (i+1) m' (ys++[y]) (upd H5 D (.lst (ys++[y]))))
     else ∃m',m'<m/\W (i+1) m' ys H4)))
  (hRR:∀D C s' H' m,Inv X pins σ H' s'->s'.heap.Ns C m->H' C=none->C≠X.env.locals->X.s₀.heap.objs.size<=C->(∀y c,X.env.cells.lookup y=some c->c≠C)->(∀p∈X.pn++pins,p.1≠C)->Q (.ref D) H'->RR (.ref D) C (.ok .next) s') :
  wpAny (model X.prog X.w) X.A (newList []) (fun acc s₃=>wpAny (model X.prog X.w) X.A (newFunctionEnv scope X.env.globals cl [] X.env.qual none .none (some X.env)) (fun cenv s₄=>
   a2D (model X.prog X.w) X.A (.compStart (.ListComp elt [⟨.Name x px,iter,ifs,0⟩] scope pos) 0 (.ref it) acc { cenv with scope:=a8F scope X.env }) (RR acc cenv.locals) s₄) E s₃) E s2:=by
 refine F7 (hd:=by size_fits) ?_
 have I3:=I.lnew (ys:=[]) (its:=[]) (t':=s2.toks) .nil (by show 0<=u8;exact L6 _)
 obtain⟨W,⟨m0,w0⟩,turn⟩:=h _ I.fresh
 generalize hD:s2.heap.objs.size=D at I3 w0 turn ⊢
 generalize hs3:({ s2 with heap:=s2.heap.push { cls:=.type "list",data:=.seq ([]:List Value).toArray } }:i8)=s3
 have hs3':({ s2 with heap:=s2.heap.push { cls:=.type "list",data:=.seq ([]:List Value).toArray },toks:=s2.toks }:i8)=s3:=hs3
 rw[hs3']at I3
 have keep3:∀b o,s2.heap.get? b=some o->s3.heap.get? b=some o:=fun b o e=>by rw[<-hs3];exact d5 _ e
 have fpl:∀b∈fp,b<s3.heap.objs.size:=fun b hb=>by
  obtain⟨o,e,_⟩:=T.obj _ _ st b hb
  exact j5 (keep3 b o e)
 have fpD:∀b∈fp,b≠D:=fun b hb z=>by
  obtain⟨o,e,_⟩:=T.obj _ _ st b hb
  exact absurd (j5 e) (by rw[z,hD];exact N9 _)
 have fpo3:∀b∈fp,a6D X pins (upd H1 D (.lst [])) b:=fun b hb=>⟨by rw[j7 (fpD b hb)];exact(fpo b hb).1,(fpo b hb).2⟩
 show wpAny _ _ _ _ _ s3
 refine d0U hc.cell (by intro y hy;simp at hy) (fun h₁ hns₁ hsb₁=>?_) hc.kind
 dsimp only[newEnv]at hns₁ hsb₁ ⊢
 have keep4:∀b o,s3.heap.get? b=some o->h₁.get? b=some o:=fun b o e=>hsb₁.extBut b o (u9 (j5 e)) (d5 _ e)
 have I4:=c3T (tk:=s3.toks+([]:List (Str×Value)).length) hc I3 hcl hcl2 fpo3 fpl hns₁ keep4
 have st4:tn 0 h₁:=T.keep _ _ _ st fun b hb o e=>keep4 b o (keep3 b o e)
 have loop:∀s₄:i8,s₄={ s3 with heap:=h₁,toks:=s3.toks+([]:List (Str×Value)).length } ->
   a2D (model X.prog X.w) X.A (.compLoop (.ListComp elt [⟨.Name x px,iter,ifs,0⟩] scope pos) 0 (.ref it) (.ref D) (c1e scope cl s3.heap.objs.size X.env)) (RR (.ref D) s3.heap.objs.size) s₄:=by
  rintro s₄ rfl
  have stat:∀ {H':Hp},(∀b∈fp,H' b=none)->∀b∈fp,a6D (a0a X scope cl s3.heap.objs.size x fp s3 (upd H1 D (.lst []))) [] H' b:=fun hn b hb=>
   ⟨hn b hb,u9 (fpl b hb),fun hf=>by
    rcases j4.mp (I3.stkSub b hf)with e | e
    ·exact(fpo b hb).2.1 e
    ·exact(fpo b hb).2.2.1 e,.inl hb,fun y c e=>(fpo b hb).2.2.2.2.1 y c (hcl y c e),fun p hp=>absurd (show p∈([]:List (Addr×Obj))from hp) (by simp)⟩
  refine b3j (env:=c1e scope cl s3.heap.objs.size X.env) (fun n s'=>∃i ys H',Inv (a0a X scope cl s3.heap.objs.size x fp s3 (upd H1 D (.lst []))) [] (none::σ) H' s'/\tn i s'.heap/\(∀b∈fp,H' b=none)/\W i n ys H') ?_ m0
   ⟨0,[],_,I4,st4,fun b hb=>(fpo3 b hb).1,w0⟩
  rintro n s5 ⟨i,ys,H5,I5,st5,fr5,w5⟩
  obtain⟨hDy,alt⟩:=turn i n ys H5 w5
  rcases alt with ⟨stop,q⟩ | ⟨go,step⟩
  ·refine a0m (T.done (a0a X scope cl s3.heap.objs.size x fp s3 (upd H1 D (.lst []))) rfl rfl rfl hcalm i [] s5 _ H5 (fun _ _=>False) I5 (stat fr5) st5 stop) (fun r s6 ⟨hr,I6⟩=>?_) fun _ _ f=>f
   subst hr
   obtain⟨m6,n6,_⟩:=I6.loc
   have J6:Inv X pins σ H5 s6:=by
    refine I3.call' (ch:=fp) I6.os I6.base I6.hok I6.bare fun b hb=>?_
    obtain⟨_,f1,f2,f3,f4,f5⟩:=fpo3 b hb
    exact⟨f3,f1,f4,f5⟩
   refine hRR D _ s6 H5 m6 J6 n6 I6.free (b1M I3.lt) I3.sz (fun y c e z=>?_) (fun p hp z=>?_) q
   ·obtain⟨v,q⟩:=I3.cell y c e
    exact absurd q.lt (by rw[z];exact N9 _)
   ·exact absurd (j5 (I3.pin p hp).1) (by rw[z];exact N9 _)
  ·refine a0m (T.item (a0a X scope cl s3.heap.objs.size x fp s3 (upd H1 D (.lst []))) rfl rfl rfl hcalm i [] s5 _ H5 (fun _ _=>False) I5 (stat fr5) st5 go) (fun r s6 ⟨u,hr,h6⟩=>?_) fun _ _ f=>f
   subst hr
   refine thn h6 fun _ s6 ⟨xv,H6,I6,r6,y6,st6,fr6⟩=>?_
   have I6':=I6.pinned (stat fr6) (T.obj _ _ st6)
   refine b6K (a7T (i:=0) I6' ?nd rfl (.inl ?loc) r6 (fun s7 I7=>?_) (.inr ?loc))
   case nd=>exact hc.nd
   case loc=>exact a1Y hc.own
   have I7:Inv (a0a X scope cl s3.heap.objs.size x fp s3 (upd H1 D (.lst []))) ([]++a7i fp s6.heap) (some xv::σ) H6 s7:=I7
   have again:∀ {s8:i8} {H8:Hp} {ys8:List V},Inv (a0a X scope cl s3.heap.objs.size x fp s3 (upd H1 D (.lst []))) ([]++a7i fp s6.heap) (some xv::σ) H8 s8->(∃m',m'<n/\W (i+1) m' ys8 H8) ->
     ∃m,m<n/\∃i ys H',Inv (a0a X scope cl s3.heap.objs.size x fp s3 (upd H1 D (.lst []))) [] (none::σ) H' s8/\tn i s8.heap/\(∀b∈fp,H' b=none)/\W i m ys H':=by
    rintro s8 H8 ys8 I8 ⟨m',hm,w8⟩
    refine⟨m',hm,i+1,ys8,H8,(I8.unpinned (pins:=[])).weak rfl (fun j v e=>?_),T.keep _ _ _ st6 fun b hb o e=>(I8.pin (b,o) (A6 _ (A6 _ (a2d hb e)))).1,fun b hb=>?_,w8⟩
    ·cases j with
     | zero=>cases e
     | succ j=>exact e
    ·obtain⟨o,e,d⟩:=T.obj _ _ st6 b hb
     exact(I8.pin (b,o) (A6 _ (A6 _ (a2d hb e)))).2.1
   refine thn (ht _ fp s3 _ _ s7 _ H6 _ I7 (step xv H6 y6)) (fun ok s8 ⟨H8,I8,q8⟩=>?_)
   cases ok with
   | false=>exact again I8 (by simpa using q8)
   | true=>
    rw[if_pos rfl]at q8
    rw[if_pos rfl]
    refine thn (he _ fp s3 _ _ s8 _ H8 _ I8 q8) (fun v s9 ⟨y,H9,I9,r9,hD9,hz9,w9⟩=>?_)
    refine a0m (a9f (X:=a0a X scope cl s3.heap.objs.size x fp s3 (upd H1 D (.lst []))) _ s9 _ H9 (.ref D) [y] (.ref D) [v] (fun _ H'=>H'=upd H9 D (.lst (ys++[y]))) I9 rfl (.cons r9 .nil) ⟨D,ys,y,rfl,rfl,hD9,hz9,rfl⟩) (fun _ s10 ⟨_,H10,I10,_,e10⟩=>?_) fun _ _ f=>f
    subst e10
    exact again I10 w9
 exact c9r (loop _ rfl) (T.self X.A 0 _ _ _ st4 (loop _ rfl))
theorem b1z(hc:Q5 X.N X.env.scope scope x)(I:Inv X pins σ H s):∀y∈scope.names,y.2=.free->∃c,X.env.cells.lookup y.1=some c:=by
 intro y hy e
 rcases hc.fr y hy e with q | q
 ·exact I.ok.has y.1 (.inl q)
 ·exact I.ok.has y.1 (.inr q)
theorem c5o{wi:TI}(hc:Q5 X.N X.env.scope scope x)(hcalm:X.calm=true)(hi:PI X (.Name x px) iter wi)
  (ht:∀cl C fp s3 H3,PTs (a0a X scope cl C x fp s3 H3) ifs tt) (he:∀cl C fp s3 H3,PE (a0a X scope cl C x fp s3 H3) elt te)
  (hs:∀x,a0n iter X.env x=pure x:=by intro _;rfl) :
  PE X (.ListComp elt [⟨.Name x px,iter,ifs,0⟩] scope pos) (Y0 wi tt te):=by
 intro pins s σ H Q I h
 obtain⟨cl,hclos,hcl,hcl2⟩:=a7w (b1z hc I)
 rw[eval_ListComp]
 refine a7E (use:=none) rfl hs hclos hc.kind hc.names (thn (hi pins s σ H _ I h) fun v s1 h1=>thn h1 fun itv s2 ⟨it,fp,tn,J,H2,e,I2,T,st,fpo,R⟩=>?_)
 subst e
 refine b1A (RR:=fun acc C=>compPost (model X.prog X.w) X.A X.xe none (EP X pins σ Q) acc C) (Q:=Q) hc hcalm hcl hcl2 (ht cl) (he cl) I2 T st fpo R ?_
 intro D C s' H' m I' n f1 f2 f3 f4 f5 q
 exact⟨m,n,fun h' sb=>⟨.ref D,H',I'.turned (t':=s'.toks) (fun b o hb e=>(sb.2 b hb).trans e) f1 f2 (.inr f3) f4 f5,rfl,q⟩⟩
theorem b7t{wi:TI}{i:Nat}{y:Str}{py spos:Pos}(hN:X.N.Nodup)(hiy:X.N[i]? = some y)(hy:X.env.scope.names.lookup y=some .local)(hc:Q5 X.N X.env.scope scope x)(hcalm:X.calm=true)(hi:PI X (.Name x px) iter wi)
  (ht:∀cl C fp s3 H3,PTs (a0a X scope cl C x fp s3 H3) ifs tt) (he:∀cl C fp s3 H3,PE (a0a X scope cl C x fp s3 H3) elt te)
  (hsw:a3a (.ListComp elt [⟨.Name x px,iter,ifs,0⟩] scope pos) (some (.Name y py)) spos.line X.env=pure true:=by rfl)
  (hs:∀x,a0n iter X.env x=pure x:=by intro _;rfl) :
  PS X (.Assign [.Name y py] (.ListComp elt [⟨.Name x px,iter,ifs,0⟩] scope pos) spos) (fun D σ H=>Y0 wi tt te σ H fun v H1=>D.nx (σ.set i (some v)) H1):=by
 intro pins s σ H D I h
 obtain⟨cl,hclos,hcl,hcl2⟩:=a7w (b1z hc I)
 rw[exec_Assign_Name_used _ _ _ _ hsw]
 refine b6 (c6Z (b6 ?_))
 show wpAny _ X.A (do let _ <-comprehension (.ListComp elt [⟨.Name x px,iter,ifs,0⟩] scope pos) scope X.env _ (newList []) false (eval iter X.env) (some (b2z (.Name y py) X.env))) _ _ s
 refine b6 (a0m (a7E (use:=some (b2z (.Name y py) X.env)) (Q:=fun _ s'=>SP X pins D .next s') rfl hs hclos hc.kind hc.names
  (thn (hi pins s σ H _ I h) fun v s1 h1=>thn h1 fun itv s2 ⟨it,fp,tn,J,H2,e,I2,T,st,fpo,R⟩=>?_)) (fun _ s' hq=>d7 (d7 hq)) fun _ _ e=>e)
 subst e
 refine b1A (RR:=fun acc C=>compPost (model X.prog X.w) X.A X.xe (some (b2z (.Name y py) X.env)) (fun _ s'=>SP X pins D .next s') acc C) (Q:=fun v H1=>D.nx (σ.set i (some v)) H1) hc hcalm hcl hcl2 (ht cl) (he cl) I2 T st fpo R ?_
 intro E C s' H' m I' n f1 f2 f3 f4 f5 q
 show wpAny _ _ (b2z (.Name y py) X.env (.ref E)) _ _ _
 refine b6K (b2O (v:=.ref E) I' hN hiy (.inl hy) rfl (fun s'' I'' ch=>?_) (.inr hy))
 obtain⟨a,sb,ha⟩:=ch
 have hCa:C≠a:=by
  rcases ha with e | e
  ·rw[e];exact f2
  ·exact fun z=>f4 y a e z.symm
 exact⟨m,n.sameBut sb hCa,fun h' sb'=>⟨_,_,I''.turned (t':=s''.toks) (fun b o hb e=>(sb'.2 b hb).trans e) f1 f2 (.inr f3) f4 f5,q⟩⟩
end
section
theorem OpR.imp{f:Value->Value->Sem Value}{r r':R2}(h:OpR X f r)(i:∀x y H Q,r' x y H Q->r x y H Q):OpR X f r':=fun pins s σ H x y u v Q I rx ry q=>h pins s σ H x y u v Q I rx ry (i _ _ _ _ q)
theorem a0k.imp{f:Value}{r r':List V->Hp->VK->Prop}(h:a0k X f r)(i:∀xs H Q,r' xs H Q->r xs H Q):a0k X f r':=fun pins s σ H xs us Q I rx q=>h pins s σ H xs us Q I rx (i _ _ _ q)
theorem IxR.imp{r r':R2}(h:IxR X r)(i:∀x y H Q,r' x y H Q->r x y H Q):IxR X r':=by
 intro value slice pins s σ H x y v u Q I rx ry q hs
 exact h value slice pins s σ H x y v u Q I rx ry (i _ _ _ _ q) hs
theorem SlR.imp{r r':V->Option Int->Option Int->Hp->VK->Prop}(h:SlR X r)(i:∀x lo hi H Q,r' x lo hi H Q->r x lo hi H Q):SlR X r':=fun pins s σ H x v vl vu lo hi sl Q I rx hs pl pu q=>h pins s σ H x v vl vu lo hi sl Q I rx hs pl pu (i _ _ _ _ _ q)
def a3m:R2:=fun x y H Q=>match x,y with
 | .int i,.int j=>Q (.int (i+j)) H
 | .str i,.str j=>i.length+j.length<=u8/\Q (.str (i++j)) H
 | .ref a,.ref b=>match H a,H b with
  | some (.lst xs),some (.lst ys)=>xs.length+ys.length<=u8/\∀p,H p=none->Q (.ref p) (upd H p (.lst (xs++ys)))
  | _,_=>False
 | _,_=>False
theorem c5E:OpR X (a0i .Add) a3m:=by
 refine(c8D.or (b7A.or c8C)).imp fun x y H Q h=>?_
 unfold a3m at h
 split at h
 ·exact .inl ⟨_,_,rfl,rfl,h⟩
 ·exact .inr (.inl ⟨_,_,rfl,rfl,h.1,h.2⟩)
 ·split at h
  ·exact .inr (.inr ⟨_,_,_,_,rfl,rfl,by assumption,by assumption,h.1,h.2⟩)
  ·exact h.elim
 ·exact h.elim
def q2I(C:Int->Int->Prop)(g:Int->Int->V):R2:=fun x y H Q=>match x,y with
 | .int i,.int j=>C i j/\Q (g i j) H
 | _,_=>False
def b5B(g:Int->Int->V):R2:=fun x y H Q=>match x,y with
 | .int i,.int j=>Q (g i j) H
 | _,_=>False
theorem b3U{f:Value->Value->Sem Value}{C:Int->Int->Prop}{g:Int->Int->V}(h:OpR X f (rI C g)):OpR X f (q2I C g):=h.imp fun x y H Q q=>by
 unfold q2I at q
 split at q
 ·exact⟨_,_,rfl,rfl,q.1,q.2⟩
 ·exact q.elim
theorem a8i{f:Value->Value->Sem Value}{g:Int->Int->V}(h:OpR X f (rI0 g)):OpR X f (b5B g):=h.imp fun x y H Q q=>by
 unfold b5B at q
 split at q
 ·exact⟨_,_,rfl,rfl,q⟩
 ·exact q.elim
abbrev b5z:R2:=b5B fun i j=>.int (i - j)
abbrev b5A:R2:=q2I c6z fun i j=>.int (i * j)
abbrev b2f:R2:=q2I (fun _ j=>0<j) fun i j=>.int (i % j)
abbrev c7L:R2:=q2I d0K fun i j=>.int (i ^ j.toNat)
abbrev c4R:R2:=q2I (fun _ j=>0<j/\j<2 ^ 64) fun i j=>.int (i / j)
abbrev qLt:R2:=b5B fun i j=>.bl (decide (i<j))
abbrev qLe:R2:=b5B fun i j=>.bl (decide (i<=j))
abbrev qGt:R2:=b5B fun i j=>.bl (decide (j<i))
abbrev qGe:R2:=b5B fun i j=>.bl (decide (j<=i))
theorem c5t:OpR X (a0i .Sub) b5z:=a8i c8r
theorem c5y:OpR X (a0i .Mult) b5A:=b3U c8z
theorem c5z:OpR X (a0i .Mod) b2f:=b3U c8A
theorem c5u:OpR X (a0i .Pow) c7L:=b3U c8y
theorem c5D:OpR X (a0i .FloorDiv) c4R:=b3U (opI fun i j _ _ _ _ _ hc q=>by
 have hl:j.natAbs.log2<9000:=by
  have:j.natAbs<2 ^ 64:=by have:=hc.1;have:=hc.2;omega
  by_cases h0:j.natAbs=0
  ·rw[h0];decide +kernel
  ·exact Nat.lt_trans ((Nat.log2_lt h0).mpr this) (by decide)
 refine floordiv_int (by omega) ?_ (.inl (PyProof.noPylong_of_log2 hl))
 rw[Int.fdiv_eq_ediv_of_nonneg _ (by omega)]
 exact q)
theorem c8s:OpR X (A3 .Lt) qLt:=a8i d0r
theorem c8t:OpR X (A3 .LtE) qLe:=a8i d0s
theorem c8v:OpR X (A3 .Gt) qGt:=a8i d0t
theorem c8w:OpR X (A3 .GtE) qGe:=a8i d0u
def qIx:R2:=fun x y H Q=>match x,y with
 | .ref p,.int i=>match H p with
  | some (.lst xs)=>∃v,atI xs i=some v/\Q v H
  | some (.tup xs)=>∃v,atI xs i=some v/\Q v H
  | _=>False
 | .str z,.int i=>z.length<=u8/\∃c,atI z.cps.toList i=some c/\Q (.str ⟨#[c]⟩) H
 | _,_=>False
theorem d1n:IxR X qIx:=c3D.imp fun x y H Q h=>by
 unfold qIx at h
 split at h
 ·split at h
  ·obtain⟨v,e,q⟩:=h
   exact .inl ⟨_,_,_,v,rfl,rfl,SqL.of (by assumption),e,q⟩
  ·obtain⟨v,e,q⟩:=h
   exact .inr (.inl ⟨_,_,_,v,rfl,rfl,SqT.of (by assumption),e,q⟩)
  ·exact h.elim
 ·obtain⟨z,c,e,q⟩:=h
  exact .inr (.inr ⟨_,_,c,rfl,rfl,z,e,q⟩)
 ·exact h.elim
def qSl:V->Option Int->Option Int->Hp->VK->Prop:=fun x lo hi H Q=>match x with
 | .ref a=>match H a with
  | some (.lst xs)=>∀p,H p=none->Q (.ref p) (upd H p (.lst (a7v xs lo hi)))
  | some (.tup xs)=>¬(HT.sIx xs.length 0 lo=0/\HT.sIx xs.length xs.length hi=xs.length)/\∀p,H p=none->Q (.ref p) (upd H p (.tup (a7v xs lo hi)))
  | _=>False
 | _=>False
theorem d1b:SlR X qSl:=(b8y.or c7i).imp fun x lo hi H Q h=>by
 unfold qSl at h
 split at h
 ·split at h
  ·exact .inl ⟨_,_,rfl,SqL.of (by assumption),h⟩
  ·exact .inr ⟨_,_,rfl,SqT.of (by assumption),h.1,h.2⟩
  ·exact h.elim
 ·exact h.elim
def Z3:List V->Hp->VK->Prop:=fun xs H Q=>match xs with
 | [.ref p]=>match H p with
  | some (.lst ys)=>Q (.int ys.length) H
  | some (.tup ys)=>Q (.int ys.length) H
  | _=>False
 | [.str z]=>z.length<=u8/\Q (.int z.length) H
 | _=>False
theorem c0Q:a0k X (.builtin "len") Z3:=(a8n.or b4v).imp fun xs H Q h=>by
 unfold Z3 at h
 split at h
 ·split at h
  ·exact .inl ⟨_,_,rfl,.inl (SqL.of (by assumption)),h⟩
  ·exact .inl ⟨_,_,rfl,.inr (SqT.of (by assumption)),h⟩
  ·exact h.elim
 ·exact .inr ⟨_,rfl,h.1,h.2⟩
 ·exact h.elim
def c2H:List V->Hp->VK->Prop:=fun xs H Q=>match xs with
 | [.int i]=>Q (.int (if i<0 then -i else i)) H
 | _=>False
theorem c0U:a0k X (.builtin "abs") c2H:=c3W.imp fun xs H Q h=>by
 unfold c2H at h
 split at h
 ·exact⟨_,rfl,h⟩
 ·exact h.elim
def a8U:V->V->V->Hp->(Hp->Prop)->Prop:=fun o i v H Q=>match o,i with
 | .ref p,.int k=>match H p with
  | some (.lst xs)=>∃j,ixN xs.length k=some j/\Q (upd H p (.lst (xs.set j v)))
  | _=>False
 | _,_=>False
theorem c9D:c4b X a8U:=by
 intro pins s σ H o i v u1 u2 u3 Q I r1 r2 r3 h
 refine c2e pins s σ H o i v u1 u2 u3 Q I r1 r2 r3 ?_
 unfold a8U at h
 split at h
 ·split at h
  ·obtain⟨j,e,q⟩:=h
   exact⟨_,_,_,j,rfl,rfl,by assumption,e,q⟩
  ·exact h.elim
 ·exact h.elim
def a1m(xs ys:List V):Bool:=(J2 (min xs.length ys.length)).all (fun j=>eqV (xs.getD j .non) (ys.getD j .non))&&xs.length == ys.length
def eqO(x y:V)(H:Hp):Option Bool:=if b5n x y=true then some (decide (x=y))else match x,y with
 | .ref a,.ref b=>match H a,H b with
  | some (.tup xs),some (.tup ys)=>if xs.all V4=true/\ys.all V4=true then some (a1m xs ys)else none
  | some (.lst xs),some (.lst ys)=>if xs.all V4=true/\ys.all V4=true then some (a1m xs ys)else none
  | _,_=>none
 | .non,.ref a=>match H a with
  | some (.tup _)=>some false
  | _=>none
 | .ref a,.non=>match H a with
  | some (.tup _)=>some false
  | _=>none
 | _,_=>none
def qEq:R2:=fun x y H Q=>∃b,eqO x y H=some b/\Q (.bl b) H
def qNe:R2:=fun x y H Q=>∃b,eqO x y H=some b/\Q (.bl (!b)) H
theorem a6w{A:O0}{ys:List V}{ws:List Value}(rx:L5 xs us)(ry:L5 ys ws)(fx:xs.all V4=true)(fy:ys.all V4=true) :
  ∀j (h1:j<us.toArray.size) (h2:j<ws.toArray.size),SeqAt.EqAt A s us.toArray[j] ws.toArray[j] (eqV (xs.getD j .non) (ys.getD j .non)):=by
 intro j h1 h2
 have l1:=rx.length
 have l2:=ry.length
 have h1':j<us.length:=by simpa using h1
 have h2':j<ws.length:=by simpa using h2
 have e1:xs[j]? = some (xs[j]'(by omega)):=by simp
 have e2:ys[j]? = some (ys[j]'(by omega)):=by simp
 obtain⟨u,hu,ru⟩:=rx.get e1
 obtain⟨w,hw,rw'⟩:=ry.get e2
 have z1:us.toArray[j]=u:=by
  have:us[j]? = some us[j]:=by simp
  rw[this]at hu
  simpa using hu
 have z2:ws.toArray[j]=w:=by
  have:ws[j]? = some ws[j]:=by simp
  rw[this]at hw
  simpa using hw
 rw[z1,z2]
 have g1:xs.getD j .non=xs[j]'(by omega):=by simp[O4,e1]
 have g2:ys.getD j .non=ys[j]'(by omega):=by simp[O4,e2]
 rw[g1,g2]
 exact b7Y ru rw' (P9.mp fx _ (E9 _)) (P9.mp fy _ (E9 _))
theorem c6Q{x y:V}{v:Value}{k:Bool}(I:Inv X pins σ H s)(hu:X.A.units<cLine)(rx:K5 x v)(ry:K5 y u)(hs:¬b5n x y=true)(e:eqO x y H=some k) :
  SeqAt.RcAt X.A s v u k/\SeqAt.RcNeAt X.A s v u (!k):=by
 unfold eqO at e
 rw[if_neg hs]at e
 split at e
 ·rename_i a b
  cases rx
  cases ry
  split at e
  ·rename_i xs ys ha hb
   split at e
   ·rename_i hf
    cases e
    obtain⟨us,r1,t1,_⟩:=I.tuple (SqT.of ha)
    obtain⟨ws,r2,t2,_⟩:=I.tuple (SqT.of hb)
    have l1:=r1.length
    have l2:=r2.length
    have q1:=SeqAt.RcAt.tuples (A:=X.A) t1 t2 hu (a6w r1 r2 hf.1 hf.2)
    have q2:=SeqAt.RcNeAt.tuples (A:=X.A) t1 t2 hu (a6w r1 r2 hf.1 hf.2)
    simp only[l5,<-l1,<-l2]at q1 q2
    exact⟨q1,q2⟩
   ·cases e
  ·rename_i xs ys ha hb
   split at e
   ·rename_i hf
    cases e
    obtain⟨us,r1,t1,_⟩:=I.list (SqL.of ha)
    obtain⟨ws,r2,t2,_⟩:=I.list (SqL.of hb)
    have l1:=r1.length
    have l2:=r2.length
    by_cases hl:us.toArray.size=ws.toArray.size
    ·have q1:=SeqAt.RcAt.lists (A:=X.A) t1.isList t2.isList hl hu (a6w r1 r2 hf.1 hf.2)
     have q2:=SeqAt.RcNeAt.lists (A:=X.A) t1.isList t2.isList hl hu (a6w r1 r2 hf.1 hf.2)
     have hl':xs.length=ys.length:=by simpa[<-l1,<-l2]using hl
     have ef:a1m xs ys=(J2 us.toArray.size).all fun j=>eqV (xs.getD j .non) (ys.getD j .non):=by
      unfold a1m
      rw[hl',Nat.min_self,l5,<-l1,hl']
      simp
     rw[ef]
     exact⟨q1,q2⟩
    ·have hl2:(us.toArray.size != ws.toArray.size)=true:=by simpa using hl
     have q1:=SeqAt.RcAt.lists_lengths (A:=X.A) t1.isList t2.isList hl2 hu
     have q2:=SeqAt.RcNeAt.lists_lengths (A:=X.A) t1.isList t2.isList hl2 hu
     have ef:a1m xs ys=false:=by
      unfold a1m
      have:¬xs.length=ys.length:=by simpa[<-l1,<-l2]using hl
      simp[this]
     rw[ef]
     exact⟨q1,q2⟩
   ·cases e
  ·cases e
 ·cases rx
  cases ry
  split at e
  ·cases e
   obtain⟨us,_,t1,_⟩:=I.tuple (SqT.of (by assumption))
   exact⟨SeqAt.RcAt.none_tuple t1 hu,SeqAt.RcNeAt.none_tuple t1 hu⟩
  ·cases e
 ·cases rx
  cases ry
  split at e
  ·cases e
   obtain⟨us,_,t1,_⟩:=I.tuple (SqT.of (by assumption))
   exact⟨SeqAt.RcAt.tuple_none t1 hu,SeqAt.RcNeAt.tuple_none t1 hu⟩
  ·cases e
 ·cases e
theorem c8x(hu:X.A.units<cLine):OpR X (A3 .Eq) qEq:=by
 intro pins s σ H x y v u Q I rx ry h
 obtain⟨k,e,q⟩:=h
 by_cases hs:b5n x y=true
 ·unfold eqO at e
  rw[if_pos hs]at e
  cases e
  exact d0v pins s σ H x y v u Q I rx ry ⟨hs,q⟩
 ·exact(c6Q I hu rx ry hs e).1 _ _ _ _ ⟨.bl k,H,I,rfl,q⟩
theorem c3g(hu:X.A.units<cLine):OpR X (A3 .NotEq) qNe:=by
 intro pins s σ H x y v u Q I rx ry h
 obtain⟨k,e,q⟩:=h
 by_cases hs:b5n x y=true
 ·unfold eqO at e
  rw[if_pos hs]at e
  cases e
  exact d0q pins s σ H x y v u Q I rx ry ⟨hs,q⟩
 ·exact(c6Q I hu rx ry hs e).2 _ _ _ _ ⟨.bl (!k),H,I,rfl,q⟩
def qIn(neg:Bool):R2:=fun x y H Q=>match x,y with
 | .str i,.str j=>Q (.bl (if neg then !(!(Builtin.Str.occurrences j i 0 j.length 1).isEmpty)else !(Builtin.Str.occurrences j i 0 j.length 1).isEmpty)) H
 | x,.ref p=>match H p with
  | some (.lst xs)=>V4 x=true/\xs.all V4=true/\Q (.bl (if neg then !inV x xs else inV x xs)) H
  | some (.tup xs)=>V4 x=true/\xs.all V4=true/\Q (.bl (if neg then !inV x xs else inV x xs)) H
  | _=>False
 | _,_=>False
theorem c8u:OpR X (A3 .In) (qIn false):=(c0f.or b3a).imp fun x y H Q h=>by
 unfold qIn at h
 split at h
 ·exact .inl ⟨_,_,rfl,rfl,h⟩
 ·split at h
  ·exact .inr ⟨_,_,rfl,.inl (SqL.of (by assumption)),h.1,h.2.1,h.2.2⟩
  ·exact .inr ⟨_,_,rfl,.inr (SqT.of (by assumption)),h.1,h.2.1,h.2.2⟩
  ·exact h.elim
 ·exact h.elim
theorem c0d:OpR X (A3 .NotIn) (qIn true):=(b4c.or b4d).imp fun x y H Q h=>by
 unfold qIn at h
 split at h
 ·exact .inl ⟨_,_,rfl,rfl,h⟩
 ·split at h
  ·exact .inr ⟨_,_,rfl,.inl (SqL.of (by assumption)),h.1,h.2.1,h.2.2⟩
  ·exact .inr ⟨_,_,rfl,.inr (SqT.of (by assumption)),h.1,h.2.1,h.2.2⟩
  ·exact h.elim
 ·exact h.elim
def U7:V->List V->Hp->VK->Prop:=fun x vs H Q=>match x,vs with
 | .ref l,[y]=>match H l with
  | some (.lst xs)=>xs.length<u8/\Q .non (upd H l (.lst (xs++[y])))
  | _=>False
 | _,_=>False
theorem b7J:MtR X "list.append" U7:=fun pins s σ H x xs v us Q I rx rv h=>by
 refine a9f pins s σ H x xs v us Q I rx rv ?_
 unfold U7 at h
 split at h
 ·split at h
  ·exact⟨_,_,_,rfl,rfl,by assumption,h.1,h.2⟩
  ·exact h.elim
 ·exact h.elim
def a3T:List V->Option (List Str)
 | []=>some []
 | .str s::r=>(a3T r).map (s :: ·)
 | _=>none
theorem b0H(ss:List Str):a3T (ss.map V.str)=some ss:=by
 induction ss with
 | nil=>rfl
 | cons s r ih=>simp[a3T,ih]
theorem a7a:∀ {xs:List V} {us:List Value} {ss:List Str},L5 xs us->a3T xs=some ss->StrsAre us ss
 | _,_,ss,.nil,e=>by cases e;exact .nil
 | x::xs,_,ss,.cons r t,e=>by
  cases x with
  | str s=>
   obtain⟨k,rfl⟩:=r
   cases e2:a3T xs with
   | none=>simp[a3T,e2]at e
   | some ss2=>
    simp[a3T,e2]at e
    subst e
    exact .cons _ _ (a7a t e2)
  | _=>simp[a3T]at e
def b2Z:V->List V->Hp->VK->Prop:=fun x vs H Q=>match x,vs with
 | .str x,[.ref l]=>match H l with
  | some (.lst xs)=>∃ss,a3T xs=some ss/\(ss.map (·.length)).sum+ss.length * x.length<=16777216/\Q (.str (Txt.join x ss)) H
  | _=>False
 | _,_=>False
theorem c3t:MtR X "str.join" b2Z:=fun pins s σ H x xs v us Q I rx rv h=>by
 unfold b2Z at h
 split at h
 ·split at h
  ·obtain⟨ss,e,hk,q⟩:=h
   obtain⟨t,rfl⟩:=rx
   obtain⟨u,rfl,ru⟩:=rv.one
   cases ru
   obtain⟨its,r,p,hz⟩:=I.list (SqL.of (by assumption))
   exact join_list p.isList (a7a r e) hk fun t' k=>⟨.str _,H,I.tok _,⟨_,rfl⟩,q⟩
  ·exact h.elim
 ·exact h.elim
def a1B(x:V)(H:Hp):Option String:=match x with
 | .non=>some "NoneType"
 | .bl _=>some "bool"
 | .int _=>some "int"
 | .str _=>some "str"
 | .ref a=>match H a with
  | some (.lst _)=>some "list"
  | some (.tup _)=>some "tuple"
  | some (.dK _)=>some "dict"
  | some (.dT _)=>some "dict"
  | _=>none
 | _=>none
def b7S(t c:String):Bool:=t == c||(t == "bool" && c == "int")
def a9i:List String:=["int","bool","str","list","tuple","dict"]
theorem c3z(K:Fg):∀t ∈ "NoneType" :: a9i,∀c∈a9i,c6A K (.type t) (.type c)=some (b7S t c):=by
 intro t ht c hc
 simp only[a9i,j4,v8,or_false]at ht hc
 rcases ht with rfl | rfl | rfl | rfl | rfl | rfl | rfl <;> rcases hc with rfl | rfl | rfl | rfl | rfl | rfl <;> kernel_rfl
theorem c9B{K:Fg}{x:V}{t:String}(h:a1B x H=some t):a9s K H x (.type t)/\t ∈ "NoneType" :: a9i:=by
 unfold a1B at h
 split at h
 ·cases h;exact⟨.non,by decide⟩
 ·cases h;exact⟨.bl _,by decide⟩
 ·cases h;exact⟨.int _,by decide⟩
 ·cases h;exact⟨.str _,by decide⟩
 ·split at h
  ·cases h;exact⟨.lst (by assumption),by decide⟩
  ·cases h;exact⟨.tup (by assumption),by decide⟩
  ·cases h;exact⟨.dK (by assumption),by decide⟩
  ·cases h;exact⟨.dT (by assumption),by decide⟩
  ·cases h
 ·cases h
def a3s:List V->Hp->VK->Prop:=fun xs H Q=>match xs with
 | [x,.ty c]=>∃t,a1B x H=some t/\c∈a9i/\Q (.bl (b7S t c)) H
 | _=>False
theorem c0R:a0k X (.builtin "isinstance") a3s:=fun pins s σ H xs us Q I r h=>by
 unfold a3s at h
 split at h
 ·obtain⟨t,e,hc,q⟩:=h
  obtain⟨u,u2,rfl,ru,ru2⟩:=b8n r
  cases ru2
  obtain⟨ty,ht⟩:=c9B (K:=X.K) e
  exact c0A I ru ty (c3z X.K t ht _ hc) fun tk=>⟨.bl _,H,I.tok _,rfl,q⟩
 ·exact h.elim
def b9V:V->V->Hp->VK->Prop:=fun x y H Q=>match x,y with
 | .ref p,.int i=>match H p with
  | some (.lst xs)=>0<=i/\∃v,xs[i.toNat]? = some v/\Q v H
  | _=>False
 | _,_=>False
theorem d0B:c9d X b9V:=fun pins s σ H o i ov iv Q I r1 r2 h=>by
 unfold b9V at h
 split at h
 ·split at h
  ·obtain⟨h0,v,e,q⟩:=h
   cases r1
   obtain⟨t,rfl⟩:=r2
   obtain⟨its,r,pl,hz⟩:=I.list (SqL.of (by assumption))
   obtain⟨u,eu,ru⟩:=r.get e
   have hl:=(u6.mp e).1
   have hn:=a7s
   exact wpAny_getItem_list pl.isList h0 (by omega) (by simpa using eu) ⟨v,H,I,ru,q⟩
  ·exact h.elim
 ·exact h.elim
def b0Z:R2:=fun x y H Q=>y=.non/\Q (.bl (!decide (x=.non))) H
theorem c0e:OpR X (A3 .IsNot) b0Z:=c5F
structure F6(P:C9)(w:World)(K:Fg)(mg:Str->Option Value)(base:Heap)(k:Nat)(x:Str)(ps:List Str)(sp:Sp):Prop where
 ex:∃f fd,N4 P w K mg base CX0 k f fd ps sp/\mg x=some (.ref f)/\Z4 K (.ref f)=true/\a4A K fd ps []
theorem c8f{k:Nat}{x:Str}{e:Expr}{es:List Expr}{t:TA}{p:Pos}(C:F6 X.prog X.w X.K X.mg X.base k x ps sp)(hr:V6 j X.A)(hk:k<=j)(hg:Gl X x)(ha:PA X (e::es) t)
  (hdb:(x == ("__debug__" : Str))=false:=by decide) (he:j9 (e::es) X.env=(false,eval e X.env)::j9 es X.env:=by rfl) (hpl:(a0u pos (j9 es X.env)).any (·.1)=false:=by rfl) :
  PE X (.Call (.Name x p) (e::es) [] pos) (C0 sp [] E0 t):=by
 obtain⟨f,fd,F,hm,hkp,hb⟩:=C.ex
 exact c5q F (hr.mono hk) hg hm hkp hb .nil b8F ha hdb he hpl
theorem c0O{P:C9}{K:Fg}{mg:Str->Option Value}{base:Heap}{k:Nat}{x q:Str}{st:Stmt}{f:Addr}{fd:a0G}(F:Fun K x q st f fd)(O:N4 P w K mg base CX0 k f fd ps sp)
  (hm:mg x=some (.ref f)) (hb:a4A K fd ps []):F6 P w K mg base k x ps sp:=⟨f,fd,O,hm,F.kp,hb⟩
def a3H:List V->Hp->VK->Prop:=fun xs H Q=>match xs with
 | [.ref p]=>match H p with
  | some (.lst ys)=>∀l,H l=none->Q (.ref l) (upd H l (.lst ys))
  | some (.tup ys)=>∀l,H l=none->Q (.ref l) (upd H l (.lst ys))
  | _=>False
 | _=>False
theorem b8c:a0k X (.type "list") a3H:=b4u.imp fun xs H Q h=>by
 unfold a3H at h
 split at h
 ·split at h
  ·exact⟨_,_,rfl,.inl (SqL.of (by assumption)),h⟩
  ·exact⟨_,_,rfl,.inr (SqT.of (by assumption)),h⟩
  ·exact h.elim
 ·exact h.elim
theorem a5H:∀ {kvs:List (Key×V)} {k:Key} {x:V},(kvs.map (·.1)).Nodup->(k,x)∈kvs->a3R kvs k=some x
 | [],_,_,_,h=>by cases h
 | (k0,x0)::r,k,x,nd,h=>by
  have nd':k0∉r.map (·.1)/\(r.map (·.1)).Nodup:=Y2.mp nd
  unfold a3R
  rw[a0r]
  by_cases e:k0=k
  ·rw[show decide (((k0,x0):Key×V).1=k)=true from d2G e]
   rcases j4.mp h with z | z
   ·cases z;rfl
   ·exact absurd (C8.mpr ⟨_,z,e.symm⟩) nd'.1
  ·rw[show decide (((k0,x0):Key×V).1=k)=false from d2F e]
   rcases j4.mp h with z | z
   ·cases z;exact absurd rfl e
   ·exact a5H nd'.2 z
end
def Its(x:Str):It:=⟨fun i _=>i<x.length,fun i H v H'=>H'=H/\∃c,x.cps[i]? = some c/\v=.str ⟨#[c]⟩,fun i _=>x.length<=i⟩
theorem c1O{P:C9}{K:Fg}{tg:Expr}(x:Str)(t:Tok)(it:Addr):b4C P w K tg (Its x) [it] it (fun i h=>h.IsStrIter it (a3P x) x t i) where
 mem:=by simp
 obj:=fun i h st b hb=>by
  have e:b=it:=by simpa using hb
  subst e
  obtain⟨o,e,c,d⟩:=st
  exact⟨o,e,fun v z=>by rw[d]at z;cases z⟩
 keep:=fun i h h' st k=>let⟨o,ho,r⟩:=st; ⟨o,k it (by simp) o ho,r⟩
 item:=by
  intro X hP hw hK hc i pins s σ H E I hf st hg
  subst hP hw hK
  have hi:i<x.cps.size:=hg
  obtain⟨f0,f1,f2,f3,f4,f5⟩:=hf it (by simp)
  have hx:x.cps[i]? = some x.cps[i]:=by simp[hi]
  have fin:∀h',h'.IsStrIter it (a3P x) x t (i+1)->Heap.SameBut it s.heap h'->∃u,some (Value.str ⟨#[x.cps[i]]⟩ s.toks)=some u /\
    wpAny (model X.prog X.w) X.A (a5A tg (.ref it) u) (fun _ s2=>∃v H',Inv X pins σ H' s2/\K5 v u/\(Its x).yld i H v H'/\s2.heap.IsStrIter it (a3P x) x t (i+1)/\∀b∈[it],H' b=none) E { s with heap:=h',toks:=s.toks+1 }:=by
   intro h' st' sb
   have I1:Inv X pins σ H { s with heap:=h',toks:=s.toks+1 }:=I.turned (t':=s.toks+1) (fun b o hb e=>(sb.2 b hb).trans e) f0 f1 f3 f4 f5
   obtain⟨o,e,c,d⟩:=id st'
   refine⟨_,rfl,b8O (s:={ s with heap:=h',toks:=s.toks+1 }) e c d ?_ ⟨.str ⟨#[x.cps[i]]⟩,H,I1,⟨_,rfl⟩,⟨rfl,_,hx,rfl⟩,st',fun b hb=>(hf b hb).1⟩⟩
   unfold a3P
   split <;> decide
  unfold a3P at st fin ⊢
  split at st
  ·rename_i ha
   simp only[ha]at fin ⊢
   exact wpAny_pyNext_ascii_item st hx fun h' st' sb=>fin h' st' sb
  ·rename_i ha
   simp only[ha]at fin ⊢
   exact wpAny_pyNext_wide_item st hx fun h' st' sb=>fin h' st' sb
 done:=by
  intro X hP hw hK hc i pins s σ H E I hf st hg
  subst hP hw hK
  have hi:x.cps.size<=i:=hg
  obtain⟨f0,f1,f2,f3,f4,f5⟩:=hf it (by simp)
  have hx:x.cps[i]? = none:=by simp[hi]
  unfold a3P at st
  split at st
  ·exact wpAny_pyNext_ascii_end (I.ok.hd hc) st hx fun h' eb=>⟨rfl,I.turned (t':=s.toks) (fun b o hb e=>eb b o hb e) f0 f1 f3 f4 f5⟩
  ·exact wpAny_pyNext_wide_end (I.ok.hd hc) st hx fun h' eb=>⟨rfl,I.turned (t':=s.toks) (fun b o hb e=>eb b o hb e) f0 f1 f3 f4 f5⟩
 self:=fun _ _ _ _ _ st h=>by
  unfold a3P at st
  split at st
  ·exact wpAny_pyIter_striter_ascii st h
  ·exact wpAny_pyIter_striter_wide st h
def c6c(tl:TE):TI:=fun σ H R=>tl σ H fun v H1=>∃x,v=.str x/\R (Its x) H1
section
variable {tg:Expr}
theorem c8a{l:Expr}{tl:TE}(hl:PE X l tl):PI X tg l (c6c tl):=by
 intro pins s σ H R I h
 refine thn (hl pins s σ H _ I h) fun v s1 ⟨y,H1,I1,r1,x,e,q1⟩=>?_
 subst e
 obtain⟨t,rfl⟩:=r1
 refine wpAny_pyIter_strU ?_
 have k:∀b u,s1.heap.get? b=some u->(s1.heap.push { cls:=.type (a3P x),data:=.fields #[.str x t,.int 0 0] }).get? b=some u:=fun b u q=>d5 _ q
 refine⟨s1.heap.objs.size,[s1.heap.objs.size],_,Its x,H1,rfl,I1.kept (t':=s1.toks) k,c1O x t _,⟨_,l7 _ rfl,rfl,rfl⟩,fun b hb=>?_,q1⟩
 have e:b=s1.heap.objs.size:=by simpa using hb
 subst e
 exact I1.fpOk (j6 _) I1.fresh
def a0d:List V->Option (List Bool)
 | []=>some []
 | .bl b::r=>(a0d r).map (b :: ·)
 | _=>none
theorem a9p:∀ {xs:List V} {bs:List Bool} {i:Nat} {x:V},a0d xs=some bs->xs[i]? = some x->∃b,bs[i]? = some b/\x=.bl b
 | [],_,_,_,_,h=>by simp at h
 | y::r,bs,i,x,e,h=>by
  cases y with
  | bl b=>
   cases e2:a0d r with
   | none=>simp[a0d,e2]at e
   | some bs2=>
    simp[a0d,e2]at e
    subst e
    cases i with
    | zero=>simp at h;exact⟨b,rfl,h.symm⟩
    | succ i=>
     obtain⟨b',h1,h2⟩:=a9p (i:=i) e2 (by simpa using h)
     exact⟨b',by simpa using h1,h2⟩
  | _=>simp[a0d]at e
theorem a9o:∀ {xs:List V} {bs:List Bool},a0d xs=some bs->xs.length=bs.length
 | [],_,e=>by cases e;rfl
 | y::r,bs,e=>by
  cases y with
  | bl b=>
   cases e2:a0d r with
   | none=>simp[a0d,e2]at e
   | some bs2=>
    simp[a0d,e2]at e
    subst e
    simp[a9o e2]
  | _=>simp[a0d]at e
theorem c0X(bs:List Bool):((J2 bs.length).all fun i=>(bs[i]?).getD true)=bs.all id:=by
 rw[a1R,P9,P9]
 constructor
 ·intro h b hb
  obtain⟨i,hi,rfl⟩:=c1i.mp hb
  have:=h i (by simpa using hi)
  simpa[hi]using this
 ·intro h i hi
  have hl:i<bs.length:=by simpa using hi
  have:=h bs[i] (E9 _)
  simpa[hl]using this
def b1a:List V->Hp->VK->Prop:=fun vs H Q=>match vs with
 | [.ref l]=>match H l with
  | some (.lst xs)=>∃bs,a0d xs=some bs/\Q (.bl (bs.all id)) H
  | _=>False
 | _=>False
theorem c0T(hc:X.calm=true):a0k X (.builtin "all") b1a:=fun pins s σ H xs us Q I r h=>by
 unfold b1a at h
 split at h
 ·split at h
  ·rename_i l _ ys hl
   obtain⟨bs,e,q⟩:=h
   obtain⟨u,rfl,ru⟩:=a6L r
   cases ru
   obtain⟨its,rv,pl,hz⟩:=I.list (SqL.of hl)
   have hlt:l<s.heap.objs.size:=by obtain⟨_,e,_⟩:=pl.isList;exact j5 e
   have hlen:=rv.length
   have hbl:=a9o e
   refine call_all_walk (a3O pl.isList ?_)
   refine⟨s.heap.objs.size,[s.heap.objs.size,l],[s.heap.objs.size],its.toArray.size,_,_,fun i=>(bs[i]?).getD true,rfl,Walks.list (A:=X.A.in1) (I.ok.hd hc) _ l (u9 hlt) its.toArray,
    ⟨⟨_,l7 _ rfl,rfl,rfl⟩,pl.isList.push _⟩,fun i v s' Q' E' hP hQ=>?_,fun h' tk hk=>?_⟩
   ·have hP:its[i]? = some v:=by simpa using hP
    have hi:i<ys.length:=by rw[hlen];exact(u6.mp hP).1
    have ey:ys[i]? = some ys[i]:=by simp[hi]
    obtain⟨b,eb,ez⟩:=a9p e ey
    obtain⟨u,eu,ru⟩:=rv.get ey
    rw[hP]at eu
    cases eu
    rw[ez]at ru
    cases ru
    simp only[eb,a2C]at hQ
    exact Q3 hQ
   ·have e2:((J2 its.toArray.size).all fun i=>(bs[i]?).getD true)=bs.all id:=by
     rw[l5,<-hlen,hbl]
     exact c0X bs
    rw[e2]
    exact⟨.bl _,H,I.kept (t':=tk) fun b x e=>hk b x (fun hm=>by rw[d9.mp hm]at e;exact N9 _ (j5 e)) (d5 _ e),rfl,q⟩
  ·exact h.elim
 ·exact h.elim
end
section
theorem Inv.turnedL{h':Heap}{t':Nat}(I:Inv X pins σ H s)(k:∀b o,b∉fp->s.heap.get? b=some o->h'.get? b=some o)(hf:∀b∈fp,a6D X pins H b) :
  Inv X pins σ H { s with heap:=h',toks:=t' }:=by
 have nit:∀b u,H b=some u->b∉fp:=fun b u e z=>by rw[(hf b z).1]at e;cases e
 refine I.step (g':=s.gens) (d':=s.drawn) (ch:=fp) (fun b hb=>?_) (fun b o _ _ hc e _=>k b o hc e) (fun b o _ _ hc e _=>⟨o.slots,k b o hc e⟩) (fun _ _ _ _ n=>n)
  (fun b o hc e=>⟨o,k b o hc e⟩) (fun _ _ e=>e) (fun _ _ _ e=>e) (fun b ps e=>⟨#[],by rw[e];simp⟩) (fun m hm=>?_) (fun b u e=>?_) I.bare
 ·obtain⟨_,f1,_,f3,f4,f5⟩:=hf b hb
  exact⟨f3,f1,f4,f5⟩
 ·obtain⟨o,es,ep,ho,r⟩:=hm
  exact⟨o,es,ep,k _ o (fun z=>(hf _ z).2.1 rfl) ho,r⟩
 ·refine(I.hok b u e).stay (fun c v hc q=>k c v ?_ q) (fun _ q=>q) fun _ _ q=>q
  rcases hc with z | z
  ·rw[z];exact nit b u e
  ·exact nit c _ z
theorem Inv.pairL{h':Heap}{t':Nat}{x y:V}{v:Value}(I:Inv X pins σ H s)(hf:∀b∈fp,a6D X pins H b)(fl:∀b∈fp,b≠s.heap.objs.size)
  (rx:K5 x u) (ry:K5 y v) (ht:h'.get? s.heap.objs.size=some { cls:=.type "tuple",data:=.seq #[u,v] }) (k:∀b o,b∉fp->s.heap.get? b=some o->h'.get? b=some o) :
  Inv X pins σ (upd H s.heap.objs.size (.tup [x,y])) { s with heap:=h',toks:=t' }:=by
 have I1:Inv X pins σ (upd H s.heap.objs.size (.tup [x,y])) { s with heap:=s.heap.push { cls:=.type "tuple",data:=.seq #[u,v] },toks:=s.toks }:=
  I.laid (fun b u e=>d5 _ e) (j6 _) ⟨by show 2<=u8;decide,[u,v],.cons rx (.cons ry .nil),⟨_,l7 _ rfl,rfl,_,rfl⟩⟩
 refine Inv.turnedL (s:={ s with heap:=s.heap.push { cls:=.type "tuple",data:=.seq #[u,v] },toks:=s.toks }) (fp:=fp) I1 (fun b o hb e=>?_) fun b hb=>⟨by rw[j7 (fl b hb)];exact(hf b hb).1,(hf b hb).2⟩
 by_cases hz:b=s.heap.objs.size
 ·subst hz
  have e2:=l7 s.heap (o:={ cls:=.type "tuple",data:=.seq #[u,v] }) rfl
  rw[show(s.heap.push { cls:=.type "tuple",data:=.seq #[u,v] }).get? s.heap.objs.size=some o from e]at e2
  cases e2
  exact ht
 ·refine k b o hb ?_
  have e:(s.heap.push { cls:=.type "tuple",data:=.seq #[u,v] }).get? b=some o:=e
  rwa [Heap.get?_push_ne _ _ _ hz]at e
def Ite(K:Fg)(a:Addr):It:=
 ⟨fun i H=>∃xs x,SqL K H a xs/\xs[i]? = some x,fun i H v H'=>∃p x,H p=none/\v=.ref p/\H'=upd H p (.tup [.int i,x])/\∀xs,SqL K H a xs->xs[i]? = some x,fun i H=>∃xs,SqL K H a xs/\xs.length<=i⟩
theorem b9y{P:C9}{K:Fg}{x1}(a e it:Addr)(hne:e≠it):b4C P w K (.Tuple elts x1 tp) (Ite K a) [e,it] e (fun i h=>(∃old,IsEnum h e it i old)/\h.IsListIter it a i) where
 mem:=by simp
 obj:=fun i h st b hb=>by
  obtain⟨⟨old,he⟩,o,e1,c,d⟩:=st
  rcases j4.mp hb with rfl | hb
  ·exact⟨_,he,fun v z=>by
    have z':Data.fields _=Data.cell v:=z
    cases z'⟩
  ·have:b=it:=by simpa using hb
   subst this
   exact⟨o,e1,fun v z=>by rw[d]at z;cases z⟩
 keep:=fun i h h' st k=>by
  obtain⟨⟨old,he⟩,hi⟩:=st
  exact⟨⟨old,k e (by simp) _ he⟩,hi.at fun o q=>k it (by simp) o q⟩
 item:=by
  intro X hP hw hK hc i pins s σ H E I hf st hg
  subst hP hw hK
  obtain⟨⟨old,he⟩,hit⟩:=st
  obtain⟨xs,x,hq,hx⟩:=hg
  obtain⟨its,rv,p,hz⟩:=I.list hq
  obtain⟨u,hu,ru⟩:=rv.get hx
  refine wpAny_pyNext_enum_item he hit p.isList (x:=u) (by simpa using hu) hne fun h1 ho hit1 hT hsz hk=>?_
  refine⟨_,rfl,?_⟩
  refine wpAny_letOwnedTupleGo_enum (s:={ s with heap:=h1,toks:=s.toks+1 }) ho fun h2 he2 hs2=>?_
  have hs2:Heap.SameBut e h1 h2:=hs2
  have le:e≠s.heap.objs.size:=u9 (j5 he)
  have li:it≠s.heap.objs.size:=by obtain⟨_,q,_⟩:=hit;exact u9 (j5 q)
  have fl:∀b∈[e,it],b≠s.heap.objs.size:=fun b hb=>by
   rcases j4.mp hb with rfl | hb
   ·exact le
   ·have:b=it:=by simpa using hb
    subst this;exact li
  have I2:=I.pairL (h':=h2) (t':=s.toks+1) (x:=.int i) (y:=x) (u:=.int i s.toks) (v:=u) hf fl ⟨_,rfl⟩ ru ((hs2.2 _ (Ne.symm le)).trans hT) fun b o hb q=>by
   have n1:b≠e:=fun z=>hb (by simp[z])
   have n2:b≠it:=fun z=>hb (by simp[z])
   exact(hs2.2 b n1).trans (hk b o n1 n2 q)
  refine⟨.ref s.heap.objs.size,_,I2,rfl,⟨_,x,I.fresh,rfl,rfl,fun ys hy=>by rw[I.list_inj hy hq];exact hx⟩,⟨⟨u,by simpa using he2⟩,hit1.at fun o q=>(hs2.2 it (Ne.symm hne)).trans q⟩,fun b hb=>?_⟩
  rw[j7 (fl b hb)];exact(hf b hb).1
 done:=by
  intro X hP hw hK hc i pins s σ H E I hf st hg
  subst hP hw hK
  obtain⟨⟨old,he⟩,hit⟩:=st
  obtain⟨xs,hq,hx⟩:=hg
  obtain⟨its,rv,p,hz⟩:=I.list hq
  obtain⟨f0,f1,f2,f3,f4,f5⟩:=hf it (by simp)
  have hl:=rv.length
  exact wpAny_pyNext_enum_end (I.ok.hd hc) he hit p.isList (by simp;omega) fun h' eb=>⟨rfl,I.turned (t':=s.toks) (fun b o hb e=>eb b o hb e) f0 f1 f3 f4 f5⟩
 self:=fun _ _ _ _ _ st h=>by
  obtain⟨⟨old,he⟩,_⟩:=st
  exact wpAny_pyIter_enum he h
def a9I(K:Fg)(ta:TA):TI:=fun σ H R=>ta σ H fun vs H1=>∃a,vs=[.ref a]/\(∃xs,SqL K H1 a xs)/\R (Ite K a) H1
theorem c5h{x1}{a:Expr}{ta:TA}(hg:Gl X "enumerate")(hm:X.mg "enumerate" = none)(ha:PA X [a] ta)(hs:j9 [a] X.env=[(false,eval a X.env)]:=by rfl) :
  PI X (.Tuple elts x1 tp) (.Call (.Name "enumerate" p) [a] [] pos) (a9I X.K ta):=by
 intro pins s σ H R I h
 refine Call_ (a5a I hg hm boot_enumerate (Q6 (thn (ha pos pins s σ H _ I h) fun us s1 ⟨vs,H1,I1,r1,q1⟩=>?_) hs rfl))
 obtain⟨b,e,⟨xs,hq⟩,q⟩:=q1
 subst e
 cases r1 with
 | cons r rr=>
  cases rr
  cases r
  obtain⟨its,rv,pl,hz⟩:=I1.list hq
  refine call_enumerate_list pl.isList fun h' he hit hsz hk=>?_
  have I2:Inv X pins σ H1 { s1 with heap:=h' }:=I1.kept (t':=s1.toks) hk
  refine wpAny_pyIter_enum he ⟨_,[s1.heap.objs.size+1,s1.heap.objs.size],_,_,H1,rfl,I2,b9y b (s1.heap.objs.size+1) s1.heap.objs.size (Nat.succ_ne_self _),⟨⟨_,he⟩,hit⟩,fun c hc=>?_,q⟩
  rcases j4.mp hc with rfl | hc
  ·exact I1.fpOk (by omega) (I1.hok.fresh (by omega))
  ·have:c=s1.heap.objs.size:=by simpa using hc
   subst this
   exact I1.fpOk (j6 _) (I1.hok.fresh (j6 _))
def Itz(K:Fg)(a b:Addr):It:=
 ⟨fun i H=>∃xs ys x y,SqL K H a xs/\SqL K H b ys/\xs[i]? = some x/\ys[i]? = some y,fun i H v H'=>∃p x y,H p=none/\v=.ref p/\H'=upd H p (.tup [x,y])/\(∀xs,SqL K H a xs->xs[i]? = some x)/\∀ys,SqL K H b ys->ys[i]? = some y,
  fun i H=>∃xs ys,SqL K H a xs/\SqL K H b ys/\(xs.length<=i\/ys.length<=i)⟩
theorem X6{h:Heap}{a b:Addr}{o o':Obj}(h1:h.get? a=some o)(h2:h.get? b=some o')(hc:o.cls≠o'.cls):a≠b:=fun z=>by
 subst z;rw[h1]at h2;cases h2;exact hc rfl
theorem c1N{P:C9}{K:Fg}{x1}(a b z TI TO i1 i2:Addr)(n1:TI≠z)(n2:TO≠z)(n3:i1≠z)(n4:i2≠z)(n5:TI≠TO)(n6:TI≠i1)(n7:TI≠i2)(n8:TO≠i1)(n9:TO≠i2)(n10:i1≠i2) :
  b4C P w K (.Tuple elts x1 tp) (Itz K a b) [z,TI,TO,i1,i2] z (fun i h=>IsZip h z TI TO .none/\IsPair h TI (.ref i1) (.ref i2)/\(∃u v,IsPair h TO u v)/\h.IsListIter i1 a i/\h.IsListIter i2 b i) where
 mem:=by simp
 obj:=fun i h st c hb=>by
  obtain⟨hz,hTI,⟨u,v,hTO⟩,⟨o1,e1,c1,d1⟩,⟨o2,e2,c2,d2⟩⟩:=st
  simp only[j4,v8,or_false]at hb
  rcases hb with rfl | rfl | rfl | rfl | rfl
  ·exact⟨_,hz,fun v z=>by
    have z':Data.fields _=Data.cell v:=z
    cases z'⟩
  ·exact⟨_,hTI,fun v z=>by
    have z':Data.seq _ _=Data.cell v:=z
    cases z'⟩
  ·exact⟨_,hTO,fun v z=>by
    have z':Data.seq _ _=Data.cell v:=z
    cases z'⟩
  ·exact⟨o1,e1,fun v z=>by rw[d1]at z;cases z⟩
  ·exact⟨o2,e2,fun v z=>by rw[d2]at z;cases z⟩
 keep:=fun i h h' st k=>by
  obtain⟨hz,hTI,⟨u,v,hTO⟩,h1,h2⟩:=st
  exact⟨k z (by simp) _ hz,k TI (by simp) _ hTI,⟨u,v,k TO (by simp) _ hTO⟩,h1.at fun o q=>k i1 (by simp) o q,h2.at fun o q=>k i2 (by simp) o q⟩
 item:=by
  intro X hP hw hK hc i pins s σ H E I hf st hg
  subst hP hw hK
  obtain⟨hz,hTI,⟨u,v,hTO⟩,h1,h2⟩:=st
  obtain⟨xs,ys,x,y,hqa,hqb,hx,hy⟩:=hg
  obtain⟨ia,ra,pa,za⟩:=I.list hqa
  obtain⟨ib,rb,pb,zb⟩:=I.list hqb
  obtain⟨ux,hux,rux⟩:=ra.get hx
  obtain⟨uy,huy,ruy⟩:=rb.get hy
  obtain⟨oa,la,ca,_⟩:=id pa.isList
  obtain⟨ob,lb,cb,_⟩:=id pb.isList
  obtain⟨o1,e1,c1,_⟩:=id h1
  obtain⟨o2,e2,c2,_⟩:=id h2
  have D:ZipApart z TI TO i1 i2 a b:=⟨n1,n2,n3,n4,n5,n6,n7,n8,n9,n10,
   X6 la hz (by rw[ca];intro z;injection z with z;revert z;decide),X6 la hTO (by rw[ca];intro z;injection z with z;revert z;decide),X6 la e1 (by rw[ca,c1];intro z;injection z with z;revert z;decide),X6 la e2 (by rw[ca,c2];intro z;injection z with z;revert z;decide),
   X6 lb hz (by rw[cb];intro z;injection z with z;revert z;decide),X6 lb hTO (by rw[cb];intro z;injection z with z;revert z;decide),X6 lb e1 (by rw[cb,c1];intro z;injection z with z;revert z;decide),X6 lb e2 (by rw[cb,c2];intro z;injection z with z;revert z;decide)⟩
  refine wpAny_pyNext_zip_item D hz hTI hTO h1 h2 pa.isList pb.isList (x:=ux) (y:=uy) (by simpa using hux) (by simpa using huy) fun h3 a1 a2 a3 a4 a5 a6 hk=>?_
  refine⟨_,rfl,?_⟩
  refine wpAny_letOwnedTupleGo_zip (s:={ s with heap:=h3 }) a1 fun h4 hz4 hs4=>?_
  have hs4:Heap.SameBut z h3 h4:=hs4
  have lz:z≠s.heap.objs.size:=u9 (j5 hz)
  have fl:∀c∈[z,TI,TO,i1,i2],c≠s.heap.objs.size:=fun c hc=>by
   simp only[j4,v8,or_false]at hc
   rcases hc with rfl | rfl | rfl | rfl | rfl
   ·exact lz
   ·exact u9 (j5 hTI)
   ·exact u9 (j5 hTO)
   ·exact u9 (j5 e1)
   ·exact u9 (j5 e2)
  have I2:=I.pairL (h':=h4) (t':=s.toks) (x:=x) (y:=y) (u:=ux) (v:=uy) hf fl rux ruy ((hs4.2 _ (Ne.symm lz)).trans a5) fun c o hc q=>by
   have m1:c≠z:=fun z=>hc (by simp[z])
   have m3:c≠TO:=fun z=>hc (by simp[z])
   have m4:c≠i1:=fun z=>hc (by simp[z])
   have m5:c≠i2:=fun z=>hc (by simp[z])
   exact(hs4.2 c m1).trans (hk c o m1 m3 m4 m5 q)
  refine⟨.ref s.heap.objs.size,_,I2,rfl,⟨_,x,y,I.fresh,rfl,rfl,fun zs hy=>by rw[I.list_inj hy hqa];exact hx,fun zs hy'=>by rw[I.list_inj hy' hqb];exact hy⟩,
   ⟨hz4,hs4.extBut _ _ n1 (hk _ _ n1 n5 n6 n7 hTI),⟨_,_,hs4.extBut _ _ n2 a2⟩,a3.extBut hs4.extBut n3,a4.extBut hs4.extBut n4⟩,fun c hc=>?_⟩
  rw[j7 (fl c hc)];exact(hf c hc).1
 done:=by
  intro X hP hw hK hc i pins s σ H E I hf st hg
  subst hP hw hK
  obtain⟨hz,hTI,⟨u,v,hTO⟩,h1,h2⟩:=st
  obtain⟨xs,ys,hqa,hqb,hx⟩:=hg
  obtain⟨ia,ra,pa,za⟩:=I.list hqa
  obtain⟨ib,rb,pb,zb⟩:=I.list hqb
  obtain⟨oa,la,ca,_⟩:=id pa.isList
  obtain⟨ob,lb,cb,_⟩:=id pb.isList
  obtain⟨o1,e1,c1,_⟩:=id h1
  obtain⟨o2,e2,c2,_⟩:=id h2
  have D:ZipApart z TI TO i1 i2 a b:=⟨n1,n2,n3,n4,n5,n6,n7,n8,n9,n10,
   X6 la hz (by rw[ca];intro z;injection z with z;revert z;decide),X6 la hTO (by rw[ca];intro z;injection z with z;revert z;decide),X6 la e1 (by rw[ca,c1];intro z;injection z with z;revert z;decide),X6 la e2 (by rw[ca,c2];intro z;injection z with z;revert z;decide),
   X6 lb hz (by rw[cb];intro z;injection z with z;revert z;decide),X6 lb hTO (by rw[cb];intro z;injection z with z;revert z;decide),X6 lb e1 (by rw[cb,c1];intro z;injection z with z;revert z;decide),X6 lb e2 (by rw[cb,c2];intro z;injection z with z;revert z;decide)⟩
  have la':=ra.length
  have lb':=rb.length
  have hend:ia.toArray[i]? = none\/ib.toArray[i]? = none:=by
   rcases hx with hx | hx
   ·left;simp;omega
   ·right;simp;omega
  refine wpAny_pyNext_zip_end (I.ok.hd hc) D hz hTI hTO h1 h2 pa.isList pb.isList hend fun h' hk=>⟨rfl,?_⟩
  refine I.turnedL (t':=s.toks) (fp:=[z,TI,TO,i1,i2]) (fun c o hc q=>?_) hf
  exact hk c o (fun z=>hc (by simp[z])) (fun z=>hc (by simp[z])) (fun z=>hc (by simp[z])) (fun z=>hc (by simp[z])) q
 self:=fun _ _ _ _ _ st h=>wpAny_pyIter_zip st.1 h
def c6a(K:Fg)(ta:TA):TI:=fun σ H R=>ta σ H fun vs H1=>∃a b,vs=[.ref a,.ref b]/\(∃xs,SqL K H1 a xs)/\(∃xs,SqL K H1 b xs)/\R (Itz K a b) H1
theorem c7Y{x1}{a b:Expr}{ta:TA}(hg:Gl X "zip")(hm:X.mg "zip" = none)(ha:PA X [a,b] ta)(hs:j9 [a,b] X.env=[(false,eval a X.env),(false,eval b X.env)]:=by rfl)(hs2:j9 [b] X.env=[(false,eval b X.env)]:=by rfl) :
  PI X (.Tuple elts x1 tp) (.Call (.Name "zip" p) [a,b] [] pos) (c6a X.K ta):=by
 intro pins s σ H R I h
 refine Call_ (a5a I hg hm boot_zip (Q6 (thn (ha pos pins s σ H _ I h) fun us s1 ⟨vs,H1,I1,r1,q1⟩=>?_) (by rw[hs,hs2]) (by rw[hs2];rfl)))
 obtain⟨c,d,e,⟨xs,hq⟩,⟨ys,hq'⟩,q⟩:=q1
 subst e
 cases r1 with
 | cons r rr=>
  cases rr with
  | cons r' rr=>
   cases rr
   cases r
   cases r'
   obtain⟨ia,ra,pa,za⟩:=I1.list hq
   obtain⟨ib,rb,pb,zb⟩:=I1.list hq'
   refine call_zip_2 pa.isList pb.isList fun h' hz hTI hTO h1 h2 hsz hk=>?_
   have I2:Inv X pins σ H1 { s1 with heap:=h' }:=I1.kept (t':=s1.toks) hk
   have N:∀n:Nat,n+2≠n+4/\n+3≠n+4/\n≠n+4/\n+1≠n+4/\n+2≠n+3/\n+2≠n/\n+2≠n+1/\n+3≠n/\n+3≠n+1/\n≠n+1:=fun n=>by omega
   obtain⟨m1,m2,m3,m4,m5,m6,m7,m8,m9,m10⟩:=N s1.heap.objs.size
   refine wpAny_pyIter_zip hz ⟨_,[s1.heap.objs.size+4,s1.heap.objs.size+2,s1.heap.objs.size+3,s1.heap.objs.size,s1.heap.objs.size+1],_,_,H1,rfl,I2,
    c1N c d (s1.heap.objs.size+4) (s1.heap.objs.size+2) (s1.heap.objs.size+3) s1.heap.objs.size (s1.heap.objs.size+1) m1 m2 m3 m4 m5 m6 m7 m8 m9 m10,⟨hz,hTI,⟨_,_,hTO⟩,h1,h2⟩,fun y hy=>?_,q⟩
   have:s1.heap.objs.size<=y:=by
    simp only[j4,v8,or_false]at hy
    rcases hy with rfl | rfl | rfl | rfl | rfl
    ·exact a6g _ _
    ·exact a6g _ _
    ·exact a6g _ _
    ·exact j6 _
    ·exact a6g _ _
   exact I1.fpOk this (I1.hok.fresh this)
end
def b4l(x y:Str)(N:List Str):List Str:=N.map fun z=>if z=x then ("." : Str)++x else if z=y then ("." : Str)++y else z
def X8(X:Cx)(scope:Scope)(cl:List (Str×Addr))(C:Addr)(x y:Str)(fp:List Addr)(s3:i8)(H3:Hp):Cx:=
 { X with N:=x::y::b4l x y X.N,s₀:=s3,H₀:=H3,env:=c1e scope cl C X.env,outer:=X.stack,stack:=X.stack,ex:=fp,fn:=fun _=>false,pn:=[],xe:=fun _ _=>False }
structure a5i(N:List Str)(osc sc:Scope)(x y:Str):Prop where
 kind:sc.kind=.function
 cell:∀y∈sc.names,y.2≠.cell
 names:∀y∈sc.names,y.2=.local->sc.names.lookup y.1=some .local
 own:sc.names.lookup x=some .local
 own2:sc.names.lookup y=some .local
 fr:∀y∈sc.names,y.2=.free->osc.names.lookup y.1=some .cell\/osc.names.lookup y.1=some .free
 see:∀z∈b4l x y N,sc.names.lookup z≠some .local
 dot:sc.names.lookup (("." : Str)++x)=none
 dot2:sc.names.lookup (("." : Str)++y)=none
 nd:(x::y::b4l x y N).Nodup
def b0G(K:Fg)(wi:TI)(tt:TT)(te:TE):TE:=fun σ H Q=>wi σ H fun J H1=>∀D,H1 D=none->∃W:Nat->Nat->List V->Hp->Prop,
 (∃m,W 0 m [] (upd H1 D (.lst [])))/\∀i m ys H2,W i m ys H2->H2 D=some (.lst ys) /\
  ((J.stop i H2 /\ Q (.ref D) H2) \/ (J.go i H2 /\ ∀ x H3,J.yld i H2 x H3 -> ∃ a u v,x = .ref a /\ SqT K H3 a [u,v] /\ tt (some u :: some v :: σ) H3 fun ok H4 => if ok = true then
    te (some u::some v::σ) H4 (fun y H5=>H5 D=some (.lst ys)/\ys.length<u8/\∃m',m'<m/\W (i+1) m' (ys++[y]) (upd H5 D (.lst (ys++[y]))))
    else ∃m',m'<m/\W (i+1) m' ys H4))
section
variable {x x2:Str}{px py2 pt:Pos}{kt}
theorem c0I{s3:i8}{h4:Heap}{tk:Nat}(hc:a5i X.N X.env.scope scope x x2)(I:Inv X pins σ H s3)
  (hcl:∀y c,cl.lookup y=some c->X.env.cells.lookup y=some c) (hcl2:∀y,(y,NameKind.free)∈scope.names->(cl.lookup y).isSome=true)
  (fpo:∀b∈fp,a6D X pins H b) (fpl:∀b∈fp,b<s3.heap.objs.size)
  (hn:h4.Ns s3.heap.objs.size (fun _=>none)) (k:∀b o,s3.heap.get? b=some o->h4.get? b=some o) :
  Inv (X8 X scope cl s3.heap.objs.size x x2 fp s3 H) [] (none::none::σ) H { s3 with heap:=h4,toks:=tk }:=by
 have low:∀x y,(X8 X scope cl s3.heap.objs.size x x2 fp s3 H).env.cells.lookup y=cl.lookup y:=fun _ _=>rfl
 have below:∀y c,cl.lookup y=some c->c<s3.heap.objs.size:=fun y c e=>by
  obtain⟨v,q⟩:=I.cell y c (hcl y c e)
  exact q.lt
 have kinds:∀y,((X8 X scope cl s3.heap.objs.size x x2 fp s3 H).env.kindOf y=some .cell\/(X8 X scope cl s3.heap.objs.size x x2 fp s3 H).env.kindOf y=some .free)->scope.names.lookup y=some .free:=by
  intro y hy
  rcases hy with hy | hy
  ·rcases S9 hy with q | ⟨q,_⟩
   ·exact absurd rfl (hc.cell _ (E1 q))
   ·exact q
  ·rcases S9 hy with q | ⟨q,z⟩
   ·exact q
   ·cases z
 refine⟨⟨I.ok.mod,?_,I.ok.glob,I.ok.blt,j6 _,fun y z c h1 h2=>?_,fun y hy=>?_,fun y c h=>?_,I.ok.hd,I.ok.frames,.inl rfl,fun b hb=>⟨?_,fun y c e z=>?_⟩,fun b o e=>I.bs b o e,J5 I.ok.bsz I.sz,fun b o e hb=>?_,fun b hb hf=>?_,I.stack,I.stkFree⟩,
  rfl,I.bare,Un.kept k,⟨_,hn,fun i y v h1 h2 h3=>?_⟩,fun y c e=>?_,I.fresh,fun y c e=>?_,fun p hp=>absurd (show p∈([]:List (Addr×Obj))from hp) (by simp),I.hok.kept k,?_⟩
 ·exact hc.kind
 ·exact I.ok.inj y z c (hcl _ _ h1) (hcl _ _ h2)
 ·have:=hcl2 y (E1 (kinds y hy))
  exact a0s.mp this
 ·cases h
 ·exact u9 (fpl b hb)
 ·exact(fpo b hb).2.2.2.2.1 y c (hcl y c e) z
 ·rcases(fpo b hb).2.2.2.1 with q | q
  ·exact I.ok.noex b o e q
  ·exact absurd (D7 (j5 (I.ok.bs b o e).1) q) (N9 _)
 ·rcases j4.mp (I.stkSub b hf)with e | e
  ·exact(fpo b hb).2.1 e
  ·exact(fpo b hb).2.2.1 e
 ·-- the names
  have h1:(x::x2::b4l x x2 X.N)[i]? = some y:=h1
  cases i with
  | zero=>cases h2
  | succ i=>
   cases i with
   | zero=>cases h2
   | succ i=>
   have h1:(b4l x x2 X.N)[i]? = some y:=h1
   have h2:σ[i]? = some (some v):=h2
   have my:y∈b4l x x2 X.N:=X3 h1
   have h3:(a8F scope X.env).names.lookup y=some .local\/(a8F scope X.env).names.lookup y=some .cell\/(a8F scope X.env).names.lookup y=some .free:=h3
   have hf:scope.names.lookup y=some .free:=by
    rcases h3 with q | q
    ·rcases S9 q with q | ⟨_,z⟩
     ·exact absurd q (hc.see y my)
     ·cases z
    ·exact kinds y q
   have hy:X.N[i]? = some y:=by
    unfold b4l at h1
    rw[b8]at h1
    cases e:X.N[i]? with
    | none=>rw[e]at h1;cases h1
    | some z=>
     rw[e]at h1
     by_cases ez:z=x
     ·rw[a2Y,if_pos ez]at h1
      have h1:=Option.some.inj h1
      subst h1
      rw[hc.dot]at hf
      cases hf
     ·rw[a2Y,if_neg ez]at h1
      by_cases ez2:z=x2
      ·rw[if_pos ez2]at h1
       have h1:=Option.some.inj h1
       subst h1
       rw[hc.dot2]at hf
       cases hf
      ·rw[if_neg ez2]at h1
       exact h1
   obtain⟨m,_,hl⟩:=I.loc
   obtain⟨c,hcc⟩:=a0s.mp (hcl2 y (E1 hf))
   have vis:Vis X.env.scope y:=by
    rcases hc.fr _ (E1 hf) rfl with q | q
    ·exact .inr (.inl q)
    ·exact .inr (.inr q)
   obtain⟨u,ru,lk⟩:=hl i y v hy h2 vis
   refine⟨u,ru,.inr ⟨?_,c,hcc,?_⟩⟩
   ·rcases h3 with q | q
    ·rcases S9 q with q | ⟨_,z⟩
     ·exact absurd q (hc.see y my)
     ·cases z
    ·exact q
   ·have hce:=hcl y c hcc
    rcases lk with ⟨q,_⟩ | ⟨_,c',e',z⟩
    ·rcases hc.fr _ (E1 hf) rfl with q' | q'
     ·have q:X.env.scope.names.lookup y=some .local:=q
      rw[show X.env.scope.names.lookup y=some NameKind.cell from q']at q
      cases q
     ·have q:X.env.scope.names.lookup y=some .local:=q
      rw[show X.env.scope.names.lookup y=some NameKind.free from q']at q
      cases q
    ·rw[e']at hce
     cases hce
     obtain⟨o,ho,hd⟩:=z
     exact⟨o,k _ _ ho,hd⟩
 ·obtain⟨v,o,ho,hd⟩:=I.cell y c (hcl y c e)
  exact⟨v,o,k _ _ ho,hd⟩
 ·exact I.freeC y c (hcl y c e)
 ·show(none::none::σ).length=(x::x2::b4l x x2 X.N).length
  have:=I.len
  simp[b4l,this]
theorem b6g{H1:Hp}{s2:i8}{it:Addr}{tn:Nat->Heap->Prop}{J:It}{Q:VK}{E:Value->i8->Prop}
  {RR:Value->Addr->b4N->i8->Prop} (hc:a5i X.N X.env.scope scope x x2) (hcalm:X.calm=true)
  (hcl:∀y c,cl.lookup y=some c->X.env.cells.lookup y=some c) (hcl2:∀y,(y,NameKind.free)∈scope.names->(cl.lookup y).isSome=true)
  (ht:∀C fp s3 H3,PTs (X8 X scope cl C x x2 fp s3 H3) ifs tt) (he:∀C fp s3 H3,PE (X8 X scope cl C x x2 fp s3 H3) elt te)
  (I:Inv X pins σ H1 s2) (T:b4C X.prog X.w X.K (.Tuple [.Name x px,.Name x2 py2] kt pt) J fp it tn) (st:tn 0 s2.heap) (fpo:∀b∈fp,a6D X pins H1 b)
  (h:∀D,H1 D=none->∃W:Nat->Nat->List V->Hp->Prop,
   (∃m,W 0 m [] (upd H1 D (.lst [])))/\∀i m ys H2,W i m ys H2->H2 D=some (.lst ys) /\
   ((J.stop i H2 /\ Q (.ref D) H2) \/ (J.go i H2 /\ ∀ x H3,J.yld i H2 x H3 -> ∃ a u v,x = .ref a /\ SqT X.K H3 a [u,v] /\ tt (some u :: some v :: σ) H3 fun ok H4 => if ok = true then
     te (some u::some v::σ) H4 (fun y H5=>H5 D=some (.lst ys)/\ys.length<u8/\∃m',m'<m/\W (i+1) m' (ys++[y]) (upd H5 D (.lst (ys++[y]))))
     else ∃m',m'<m/\W (i+1) m' ys H4)))
  (hRR:∀D C s' H' m,Inv X pins σ H' s'->s'.heap.Ns C m->H' C=none->C≠X.env.locals->X.s₀.heap.objs.size<=C->(∀y c,X.env.cells.lookup y=some c->c≠C)->(∀p∈X.pn++pins,p.1≠C)->Q (.ref D) H'->RR (.ref D) C (.ok .next) s') :
  wpAny (model X.prog X.w) X.A (newList []) (fun acc s₃=>wpAny (model X.prog X.w) X.A (newFunctionEnv scope X.env.globals cl [] X.env.qual none .none (some X.env)) (fun cenv s₄=>
   a2D (model X.prog X.w) X.A (.compStart (.ListComp elt [⟨.Tuple [.Name x px,.Name x2 py2] kt pt,iter,ifs,0⟩] scope pos) 0 (.ref it) acc { cenv with scope:=a8F scope X.env }) (RR acc cenv.locals) s₄) E s₃) E s2:=by
 refine F7 (hd:=by size_fits) ?_
 have I3:=I.lnew (ys:=[]) (its:=[]) (t':=s2.toks) .nil (by show 0<=u8;exact L6 _)
 obtain⟨W,⟨m0,w0⟩,turn⟩:=h _ I.fresh
 generalize hD:s2.heap.objs.size=D at I3 w0 turn ⊢
 generalize hs3:({ s2 with heap:=s2.heap.push { cls:=.type "list",data:=.seq ([]:List Value).toArray } }:i8)=s3
 have hs3':({ s2 with heap:=s2.heap.push { cls:=.type "list",data:=.seq ([]:List Value).toArray },toks:=s2.toks }:i8)=s3:=hs3
 rw[hs3']at I3
 have keep3:∀b o,s2.heap.get? b=some o->s3.heap.get? b=some o:=fun b o e=>by rw[<-hs3];exact d5 _ e
 have fpl:∀b∈fp,b<s3.heap.objs.size:=fun b hb=>by
  obtain⟨o,e,_⟩:=T.obj _ _ st b hb
  exact j5 (keep3 b o e)
 have fpD:∀b∈fp,b≠D:=fun b hb z=>by
  obtain⟨o,e,_⟩:=T.obj _ _ st b hb
  exact absurd (j5 e) (by rw[z,hD];exact N9 _)
 have fpo3:∀b∈fp,a6D X pins (upd H1 D (.lst [])) b:=fun b hb=>⟨by rw[j7 (fpD b hb)];exact(fpo b hb).1,(fpo b hb).2⟩
 show wpAny _ _ _ _ _ s3
 refine d0U hc.cell (by intro y hy;simp at hy) (fun h₁ hns₁ hsb₁=>?_) hc.kind
 dsimp only[newEnv]at hns₁ hsb₁ ⊢
 have keep4:∀b o,s3.heap.get? b=some o->h₁.get? b=some o:=fun b o e=>hsb₁.extBut b o (u9 (j5 e)) (d5 _ e)
 have I4:=c0I (tk:=s3.toks+([]:List (Str×Value)).length) hc I3 hcl hcl2 fpo3 fpl hns₁ keep4
 have st4:tn 0 h₁:=T.keep _ _ _ st fun b hb o e=>keep4 b o (keep3 b o e)
 have loop:∀s₄:i8,s₄={ s3 with heap:=h₁,toks:=s3.toks+([]:List (Str×Value)).length } ->
   a2D (model X.prog X.w) X.A (.compLoop (.ListComp elt [⟨.Tuple [.Name x px,.Name x2 py2] kt pt,iter,ifs,0⟩] scope pos) 0 (.ref it) (.ref D) (c1e scope cl s3.heap.objs.size X.env)) (RR (.ref D) s3.heap.objs.size) s₄:=by
  rintro s₄ rfl
  have stat:∀ {H':Hp},(∀b∈fp,H' b=none)->∀b∈fp,a6D (X8 X scope cl s3.heap.objs.size x x2 fp s3 (upd H1 D (.lst []))) [] H' b:=fun hn b hb=>
   ⟨hn b hb,u9 (fpl b hb),fun hf=>by
    rcases j4.mp (I3.stkSub b hf)with e | e
    ·exact(fpo b hb).2.1 e
    ·exact(fpo b hb).2.2.1 e,.inl hb,fun y c e=>(fpo b hb).2.2.2.2.1 y c (hcl y c e),fun p hp=>absurd (show p∈([]:List (Addr×Obj))from hp) (by simp)⟩
  refine b3j (env:=c1e scope cl s3.heap.objs.size X.env) (fun n s'=>∃i ys H',Inv (X8 X scope cl s3.heap.objs.size x x2 fp s3 (upd H1 D (.lst []))) [] (none::none::σ) H' s'/\tn i s'.heap/\(∀b∈fp,H' b=none)/\W i n ys H') ?_ m0
   ⟨0,[],_,I4,st4,fun b hb=>(fpo3 b hb).1,w0⟩
  rintro n s5 ⟨i,ys,H5,I5,st5,fr5,w5⟩
  obtain⟨hDy,alt⟩:=turn i n ys H5 w5
  rcases alt with ⟨stop,q⟩ | ⟨go,step⟩
  ·refine a0m (T.done (X8 X scope cl s3.heap.objs.size x x2 fp s3 (upd H1 D (.lst []))) rfl rfl rfl hcalm i [] s5 _ H5 (fun _ _=>False) I5 (stat fr5) st5 stop) (fun r s6 ⟨hr,I6⟩=>?_) fun _ _ f=>f
   subst hr
   obtain⟨m6,n6,_⟩:=I6.loc
   have J6:Inv X pins σ H5 s6:=by
    refine I3.call' (ch:=fp) I6.os I6.base I6.hok I6.bare fun b hb=>?_
    obtain⟨_,f1,f2,f3,f4,f5⟩:=fpo3 b hb
    exact⟨f3,f1,f4,f5⟩
   refine hRR D _ s6 H5 m6 J6 n6 I6.free (b1M I3.lt) I3.sz (fun y c e z=>?_) (fun p hp z=>?_) q
   ·obtain⟨v,q⟩:=I3.cell y c e
    exact absurd q.lt (by rw[z];exact N9 _)
   ·exact absurd (j5 (I3.pin p hp).1) (by rw[z];exact N9 _)
  ·refine a0m (T.item (X8 X scope cl s3.heap.objs.size x x2 fp s3 (upd H1 D (.lst []))) rfl rfl rfl hcalm i [] s5 _ H5 (fun _ _=>False) I5 (stat fr5) st5 go) (fun r s6 ⟨u,hr,h6⟩=>?_) fun _ _ f=>f
   subst hr
   refine thn h6 fun _ s6 ⟨xv,H6,I6,r6,y6,st6,fr6⟩=>?_
   have I6':=I6.pinned (stat fr6) (T.obj _ _ st6)
   obtain⟨pa,u1,u2,rfl,hsq,step⟩:=step xv H6 y6
   have hpg:PG (X8 X scope cl s3.heap.objs.size x x2 fp s3 (upd H1 D (.lst []))) (.Tuple [.Name x px,.Name x2 py2] kt pt) (b2o X.K 2 (a1X (z8 0) (a1X (z8 1) b2p))):=
    c2S (X:=X8 X scope cl s3.heap.objs.size x x2 fp s3 (upd H1 D (.lst []))) hcalm (b1c (b3W (i:=0) hc.nd rfl (.inl (a1Y hc.own)) (.inr (a1Y hc.own))) (b1c (b3W (i:=1) hc.nd rfl (.inl (a1Y hc.own2)) (.inr (a1Y hc.own2))) b8E))
   refine thn (hpg _ s6 (none::none::σ) H6 (.ref pa) u (fun σ' H'=>σ'=some u1::some u2::σ/\H'=H6) I6' r6 ⟨pa,[u1,u2],rfl,hsq,rfl,_,_,rfl,_,_,rfl,rfl,rfl,rfl⟩) fun _ s7 ⟨σ7,H7,I7,e7,e7'⟩=>?_
   subst e7 e7'
   have again:∀ {s8:i8} {H8:Hp} {ys8:List V},Inv (X8 X scope cl s3.heap.objs.size x x2 fp s3 (upd H1 D (.lst []))) ([]++a7i fp s6.heap) (some u1::some u2::σ) H8 s8->(∃m',m'<n/\W (i+1) m' ys8 H8) ->
     ∃m,m<n/\∃i ys H',Inv (X8 X scope cl s3.heap.objs.size x x2 fp s3 (upd H1 D (.lst []))) [] (none::none::σ) H' s8/\tn i s8.heap/\(∀b∈fp,H' b=none)/\W i m ys H':=by
    rintro s8 H8 ys8 I8 ⟨m',hm,w8⟩
    refine⟨m',hm,i+1,ys8,H8,(I8.unpinned (pins:=[])).weak rfl (fun j v e=>?_),T.keep _ _ _ st6 fun b hb o e=>(I8.pin (b,o) (A6 _ (A6 _ (a2d hb e)))).1,fun b hb=>?_,w8⟩
    ·cases j with
     | zero=>cases e
     | succ j=>
      cases j with
      | zero=>cases e
      | succ j=>exact e
    ·obtain⟨o,e,d⟩:=T.obj _ _ st6 b hb
     exact(I8.pin (b,o) (A6 _ (A6 _ (a2d hb e)))).2.1
   refine thn (ht _ fp s3 _ _ s7 _ _ _ I7 step) (fun ok s8 ⟨H8,I8,q8⟩=>?_)
   cases ok with
   | false=>exact again I8 (by simpa using q8)
   | true=>
    rw[if_pos rfl]at q8
    rw[if_pos rfl]
    refine thn (he _ fp s3 _ _ s8 _ H8 _ I8 q8) (fun v s9 ⟨y,H9,I9,r9,hD9,hz9,w9⟩=>?_)
    refine a0m (a9f (X:=X8 X scope cl s3.heap.objs.size x x2 fp s3 (upd H1 D (.lst []))) _ s9 _ H9 (.ref D) [y] (.ref D) [v] (fun _ H'=>H'=upd H9 D (.lst (ys++[y]))) I9 rfl (.cons r9 .nil) ⟨D,ys,y,rfl,rfl,hD9,hz9,rfl⟩) (fun _ s10 ⟨_,H10,I10,_,e10⟩=>?_) fun _ _ f=>f
    subst e10
    exact again I10 w9
 exact c9r (loop _ rfl) (T.self X.A 0 _ _ _ st4 (loop _ rfl))
theorem b6f(hc:a5i X.N X.env.scope scope x x2)(I:Inv X pins σ H s):∀y∈scope.names,y.2=.free->∃c,X.env.cells.lookup y.1=some c:=by
 intro y hy e
 rcases hc.fr y hy e with q | q
 ·exact I.ok.has y.1 (.inl q)
 ·exact I.ok.has y.1 (.inr q)
theorem c2Y{wi:TI}(hc:a5i X.N X.env.scope scope x x2)(hcalm:X.calm=true)(hi:PI X (.Tuple [.Name x px,.Name x2 py2] kt pt) iter wi)
  (ht:∀cl C fp s3 H3,PTs (X8 X scope cl C x x2 fp s3 H3) ifs tt) (he:∀cl C fp s3 H3,PE (X8 X scope cl C x x2 fp s3 H3) elt te)
  (hs:∀x,a0n iter X.env x=pure x:=by intro _;rfl) :
  PE X (.ListComp elt [⟨.Tuple [.Name x px,.Name x2 py2] kt pt,iter,ifs,0⟩] scope pos) (b0G X.K wi tt te):=by
 intro pins s σ H Q I h
 obtain⟨cl,hclos,hcl,hcl2⟩:=a7w (b6f hc I)
 rw[eval_ListComp]
 refine a7E (use:=none) rfl hs hclos hc.kind hc.names (thn (hi pins s σ H _ I h) fun v s1 h1=>thn h1 fun itv s2 ⟨it,fp,tn,J,H2,e,I2,T,st,fpo,R⟩=>?_)
 subst e
 refine b6g (RR:=fun acc C=>compPost (model X.prog X.w) X.A X.xe none (EP X pins σ Q) acc C) (Q:=Q) hc hcalm hcl hcl2 (ht cl) (he cl) I2 T st fpo R ?_
 intro D C s' H' m I' n f1 f2 f3 f4 f5 q
 exact⟨m,n,fun h' sb=>⟨.ref D,H',I'.turned (t':=s'.toks) (fun b o hb e=>(sb.2 b hb).trans e) f1 f2 (.inr f3) f4 f5,rfl,q⟩⟩
end
section
variable {x x2:Str}{px py2 pt:Pos}{kt:Nat}
end
section
def c2E:List V->Hp->VK->Prop:=fun xs H Q=>match xs with
 | [.int i,.int j]=>Q (.int (if j<i then j else i)) H
 | _=>False
theorem c0P(hc:X.calm=true):a0k X (.builtin "min") c2E:=(c0V hc).imp fun xs H Q h=>by
 unfold c2E at h
 split at h
 ·exact⟨_,_,rfl,h⟩
 ·exact h.elim
theorem c0W:∀bs:List Bool,((J2 bs.length).any fun i=>(bs[i]?).getD false)=bs.any id:=by
 intro bs
 induction bs with
 | nil=>rfl
 | cons b r ih=>
  rw[A2,List.range_succ_eq_map,a0S,List.any_map,a0S]
  rw[<-ih]
  rfl
def b7r:List V->Hp->VK->Prop:=fun vs H Q=>match vs with
 | [.ref l]=>match H l with
  | some (.lst xs)=>∃bs,a0d xs=some bs/\Q (.bl (bs.any id)) H
  | _=>False
 | _=>False
theorem c0S(hc:X.calm=true):a0k X (.builtin "any") b7r:=fun pins s σ H xs us Q I r h=>by
 unfold b7r at h
 split at h
 ·split at h
  ·rename_i l _ ys hl
   obtain⟨bs,e,q⟩:=h
   obtain⟨u,rfl,ru⟩:=a6L r
   cases ru
   obtain⟨its,rv,pl,hz⟩:=I.list (SqL.of hl)
   have hlt:l<s.heap.objs.size:=by obtain⟨_,e,_⟩:=pl.isList;exact j5 e
   have hlen:=rv.length
   have hbl:=a9o e
   refine call_any_walk (a3O pl.isList ?_)
   refine⟨s.heap.objs.size,[s.heap.objs.size,l],[s.heap.objs.size],its.toArray.size,_,_,fun i=>(bs[i]?).getD false,rfl,Walks.list (A:=X.A.in1) (I.ok.hd hc) _ l (u9 hlt) its.toArray,
    ⟨⟨_,l7 _ rfl,rfl,rfl⟩,pl.isList.push _⟩,fun i v s' Q' E' hP hQ=>?_,fun h' tk hk=>?_⟩
   ·have hP:its[i]? = some v:=by simpa using hP
    have hi:i<ys.length:=by rw[hlen];exact(u6.mp hP).1
    have ey:ys[i]? = some ys[i]:=by simp[hi]
    obtain⟨b,eb,ez⟩:=a9p e ey
    obtain⟨u,eu,ru⟩:=rv.get ey
    rw[hP]at eu
    cases eu
    rw[ez]at ru
    cases ru
    simp only[eb,a2C]at hQ
    exact Q3 hQ
   ·have e2:((J2 its.toArray.size).any fun i=>(bs[i]?).getD false)=bs.any id:=by
     rw[l5,<-hlen,hbl]
     exact c0W bs
    rw[e2]
    exact⟨.bl _,H,I.kept (t':=tk) fun b x e=>hk b x (fun hm=>by rw[d9.mp hm]at e;exact N9 _ (j5 e)) (d5 _ e),rfl,q⟩
  ·exact h.elim
 ·exact h.elim
def a2H:List V->Option (List Int)
 | []=>some []
 | .int i::r=>(a2H r).map (i :: ·)
 | _=>none
theorem b1x(ns:List Int):a2H (ns.map V.int)=some ns:=by
 induction ns with
 | nil=>rfl
 | cons s r ih=>simp[a2H,ih]
theorem a5Z:∀ {xs:List V} {us:List Value} {ss:List Int},L5 xs us->a2H xs=some ss->c7c us ss
 | _,_,ss,.nil,e=>by cases e;exact .nil
 | x::xs,_,ss,.cons r t,e=>by
  cases x with
  | int s=>
   obtain⟨k,rfl⟩:=r
   cases e2:a2H xs with
   | none=>simp[a2H,e2]at e
   | some ss2=>
    simp[a2H,e2]at e
    subst e
    exact .cons _ _ (a5Z t e2)
  | _=>simp[a2H]at e
def a6v:List V->Hp->VK->Prop:=fun vs H Q=>match vs with
 | [.ref l]=>match H l with
  | some (.lst xs)=>∃ns,a2H xs=some ns/\ns.length<64/\∀(p:Addr) (ms:List Int),ms.Perm ns->ms.Pairwise (· <= ·)->H p=none->Q (.ref p) (upd H p (.lst (ms.map V.int)))
  | _=>False
 | _=>False
theorem b4t:a0k X (.builtin "sorted") a6v:=fun pins s σ H xs us Q I r h=>by
 unfold a6v at h
 split at h
 ·split at h
  ·rename_i l _ ys hl
   obtain⟨ns,e,hn,q⟩:=h
   obtain⟨u,rfl,ru⟩:=a6L r
   cases ru
   obtain⟨its,rv,pl,hz⟩:=I.list (SqL.of hl)
   have hi:=a5Z rv e
   have hil:=hi.length
   refine sorted_ints pl.isList hi (by omega) fun out ns' a1 a2 a3=>?_
   obtain⟨c,he⟩:=sortedAll_at s.heap its out
   have hl':=a2.length_eq
   refine⟨.ref _,_,I.laid (t':=s.toks) (a:=s.heap.objs.size+1) (o:=.lst (ns'.map V.int)) (fun b ob q=>sortedAll_old q) (a3q _) ?_,rfl,q _ ns' a2 a3 (I.hok.fresh (a3q _))⟩
   refine⟨by rw[a9,sizeLine_eq];omega,out.toList,c,a8I a1,?_⟩
   exact he
  ·exact h.elim
 ·exact h.elim
def a8W:V->List V->Hp->VK->Prop:=fun x vs H Q=>match x,vs with
 | .ref l,[.int k]=>match H l with
  | some (.lst xs)=>∃ns,a2H xs=some ns/\ns.length<10000/\k∈ns/\Q (.int (ns.idxOf k:Nat)) H
  | _=>False
 | _,_=>False
theorem c0q:MtR X "list.index" a8W:=fun pins s σ H x xs v us Q I rx rv h=>by
 unfold a8W at h
 split at h
 ·split at h
  ·rename_i l k _ ys hl
   obtain⟨ns,e,hn,hk,q⟩:=h
   cases rx
   obtain⟨u,rfl,⟨t,rfl⟩⟩:=rv.one
   obtain⟨its,r,pl,hz⟩:=I.list (SqL.of hl)
   have hi:=a5Z r e
   obtain⟨⟨cls,dd,data,sl⟩,ho,hc,n,hd⟩:=id pl.isList
   simp only at hc hd
   subst hc hd
   have hlen:=hi.length
   have hj:ns.idxOf k<ns.length:=b6I.mpr hk
   refine b1O b4J ⟨_,ho,rfl⟩ PySem.F.entry_list_index (PySem.F.args_list_index_2 _ _)
    (PySem.SeqAt.list_indexAt l its.toArray n dd sl (.int k t) (isInt k) (ns.idxOf k) (by simpa[hlen]using hj) (by omega) ?_ ?_) ⟨ho,fun y hy=>(eq_isInt k t hi y (by simpa using hy)).at _ _,⟨.int _,H,I.tok _,⟨_,rfl⟩,q⟩⟩
   ·show isInt k its[ns.idxOf k]=true
    rw[isInt_at k hi _ (by omega) hj]
    simpa using List.getElem_idxOf hj
   ·intro j hjs hlt
    show isInt k its[j]=false
    rw[isInt_at k hi j (by simpa using hjs) (by omega)]
    exact ne_of_lt_idxOf hlt _
  ·exact h.elim
 ·exact h.elim
def a3I:V->List V->Hp->VK->Prop:=fun x vs H Q=>match x,vs with
 | .ref l,[.ref b]=>match H l,H b with
  | some (.lst xs),some (.lst zs)=>xs.length+zs.length<=u8/\Q .non (upd H l (.lst (xs++zs)))
  | _,_=>False
 | _,_=>False
theorem b7I:MtR X "list.extend" a3I:=fun pins s σ H x xs v us Q I rx rv h=>by
 refine c0s pins s σ H x xs v us Q I rx rv ?_
 unfold a3I at h
 split at h
 ·split at h
  ·exact⟨_,_,_,_,rfl,rfl,by assumption,by assumption,h.1,h.2⟩
  ·exact h.elim
 ·exact h.elim
def b9U:V->List V->Hp->VK->Prop:=fun x vs H Q=>match x,vs with
 | .ref l,[]=>match H l with
  | some (.lst xs)=>∃y,xs[xs.length - 1]? = some y/\Q y (upd H l (.lst xs.dropLast))
  | _=>False
 | _,_=>False
theorem c5P:MtR X "list.pop" b9U:=fun pins s σ H x xs v us Q I rx rv h=>by
 refine c8J pins s σ H x xs v us Q I rx rv ?_
 unfold b9U at h
 split at h
 ·split at h
  ·obtain⟨y,e,q⟩:=h
   exact⟨_,_,y,rfl,rfl,by assumption,e,q⟩
  ·exact h.elim
 ·exact h.elim
def a8X:V->List V->Hp->VK->Prop:=fun x vs H Q=>match x,vs with
 | .ref l,[]=>match H l with
  | some (.lst _)=>Q .non (upd H l (.lst []))
  | _=>False
 | _,_=>False
theorem c0r:MtR X "list.clear" a8X:=fun pins s σ H x xs v us Q I rx rv h=>by
 refine c3u pins s σ H x xs v us Q I rx rv ?_
 unfold a8X at h
 split at h
 ·split at h
  ·exact⟨_,_,rfl,rfl,by assumption,h⟩
  ·exact h.elim
 ·exact h.elim
def a8V:List V->Hp->VK->Prop:=fun xs H Q=>match xs with
 | [.ref p]=>match H p with
  | some (.dK kvs)=>∀l,H l=none->Q (.ref l) (upd H l (.lst (kvs.map fun kv=>kV kv.1)))
  | _=>False
 | _=>False
theorem d0y{P:C9}{k:Key}(r:(X7 P w).is k u=true):K5 (kV k) u:=by
 rcases Y1 (show b1v k u=true from r)with ⟨i,t,rfl,rfl⟩ | ⟨x,t,rfl,rfl⟩
 ·exact⟨t,rfl⟩
 ·exact⟨t,rfl⟩
theorem b3z:∀ {xs:List V} {us:List Value},xs.length=us.length->(∀(i:Nat) x u,xs[i]? = some x->us[i]? = some u->K5 x u)->L5 xs us
 | [],[],_,_=>.nil
 | x::xs,u::us,hl,h=>.cons (h 0 x u rfl rfl) (b3z (by simpa using hl) fun i y v a b=>h (i+1) y v (by simpa using a) (by simpa using b))
 | [],u::us,hl,_=>by cases hl
 | x::xs,[],hl,_=>by cases hl
theorem c6U:∀ {l:List (Key×V)} {la:List (Key×Value)} {i:Nat} {k:Key} {x:Value},KV l la->la[i]? = some (k,x)->∃y,l[i]? = some (k,y)
 | p::l,q::la,0,k,x,h,e=>by
  have h:Paired _ _ _:=h
  cases h with
  | cons h t=>
   cases e
   exact⟨p.2,by rw[a5x];rw[show k=p.1 from h.1.symm]⟩
 | p::l,q::la,i+1,k,x,h,e=>by
  have h:Paired _ _ _:=h
  cases h with
  | cons h t => 
   obtain⟨y,hy⟩:=c6U (i:=i) (show KV l la from t) (by simpa using e)
   exact⟨y,by simpa using hy⟩
 | [],la,i,k,x,h,e=>by
  have h:Paired _ _ _:=h
  cases h
  cases e
 | p::l,[],i,k,x,h,e=>by
  have h:Paired _ _ _:=h
  cases h
theorem b6r(hc:X.calm=true):a0k X (.type "list") a8V:=fun pins s σ H xs us Q I r h=>by
 unfold a8V at h
 split at h
 ·split at h
  ·rename_i p _ kvs hp
   obtain⟨u,rfl,ru⟩:=a6L r
   cases ru
   obtain⟨hz,hS,vs,rk,hD⟩:=c3O I.hok hp
   obtain⟨ep,hat⟩:=hD.dictAt
   have hl:=Paired.length rk
   refine c4h (PySem.W.kdl_dict (knd:=X7 X.prog X.w) (kvs:=vs) (ep:=ep) hS) (I.ok.hd hc) hat (by omega) fun h' tk acc c hk ha hit=>?_
   refine⟨.ref _,_,I.laid (t':=tk) (a:=s.heap.objs.size) (o:=.lst (kvs.map fun kv=>kV kv.1)) hk (j6 _) ?_,rfl,h _ (I.hok.fresh (j6 _))⟩
   refine⟨by rw[a9];exact hz,acc.toList,c,?_,by simpa using ha⟩
   refine b3z (by have:=hit.1;rw[a9];simp;omega) fun i x u a b=>?_
   obtain⟨k,y,e1,e2⟩:=hit.2 i u (by rw[<-L4];exact b)
   obtain⟨z,e3⟩:=c6U rk e1
   rw[b8,e3]at a
   cases a
   exact d0y e2
  ·exact h.elim
 ·exact h.elim
inductive Dq(K:Fg)(H:Hp):Nat->V->V->Prop
 | flat {n:Nat} {x:V}:V4 x=true->Dq K H n x x
 | tup {n:Nat} {a b:Addr} {xs ys:List V}:SqT K H a xs->SqT K H b ys->xs.length=ys.length->(∀(j:Nat) x y,xs[j]? = some x->ys[j]? = some y->Dq K H n x y)->Dq K H (n+1) (.ref a) (.ref b)
 | lst {n:Nat} {a b:Addr} {xs ys:List V}:SqL K H a xs->SqL K H b ys->xs.length=ys.length->(∀(j:Nat) x y,xs[j]? = some x->ys[j]? = some y->Dq K H n x y)->Dq K H (n+1) (.ref a) (.ref b)
theorem c3K{x:V}(h:V4 x=true):eqV x x=true:=by
 cases x with
 | non=>rfl
 | bl b=>simp[eqV]
 | int i=>simp[eqV]
 | str s=>simp[eqV]
 | byt b=>cases h
 | flt b=>cases h
 | ref a=>cases h
 | ty n=>cases h
theorem a8x{n:Nat}:(J2 n).all (fun _=>true)=true:=by simp
theorem Dq.both(I:Inv X pins σ H s){n:Nat}{x y:V}(d:Dq X.K H n x y):∀ {A:O0} {v u:Value},A.units+n<cLine->K5 x v->K5 y u ->
  SeqAt.EqAt A s v u true/\(∀a b,x=.ref a->y=.ref b->SeqAt.RcAt A s v u true/\SeqAt.RcNeAt A s v u false):=by
 induction d with
 | @flat n x hf=>
  intro A v u hu rv ru
  refine⟨?_,fun a b e=>by subst e;cases hf⟩
  have:=b7Y (A:=A) (s:=s) rv ru hf hf
  rwa [c3K hf]at this
 | @tup n a b xs ys ha hb hl hq ih=>
  intro A v u hu rv ru
  cases rv
  cases ru
  obtain⟨us,r1,t1,_⟩:=I.tuple ha
  obtain⟨ws,r2,t2,_⟩:=I.tuple hb
  have l1:=r1.length
  have l2:=r2.length
  have el:∀j (h1:j<us.toArray.size) (h2:j<ws.toArray.size),SeqAt.EqAt A.in1 s us.toArray[j] ws.toArray[j] true:=by
   intro j h1 h2
   have h1':j<xs.length:=by simpa[l1]using h1
   have h2':j<ys.length:=by simpa[l2]using h2
   obtain⟨u1,e1,q1⟩:=r1.get (i:=j) (x:=xs[j]) (by simp)
   obtain⟨u2,e2,q2⟩:=r2.get (i:=j) (x:=ys[j]) (by simp)
   have z1:us.toArray[j]=u1:=by
    have:=(u6.mp e1).2
    simpa using this
   have z2:ws.toArray[j]=u2:=by
    have:=(u6.mp e2).2
    simpa using this
   rw[z1,z2]
   exact(ih j _ _ (by simp) (by simp) (A:=A.in1) (by show A.units+1+n<cLine;omega) q1 q2).1
  have c1:SeqAt.RcAt A s (.ref a) (.ref b) true:=by
   have q:=SeqAt.RcAt.tuples (A:=A) (e:=fun _=>true) t1 t2 (by omega) el
   have e:us.toArray.size=ws.toArray.size:=by simp[<-l1,<-l2,hl]
   rw[a8x,e,beq_self_eq_true]at q
   exact q
  have c2:SeqAt.RcNeAt A s (.ref a) (.ref b) false:=by
   have q:=SeqAt.RcNeAt.tuples (A:=A) (e:=fun _=>true) t1 t2 (by omega) el
   have e:us.toArray.size=ws.toArray.size:=by simp[<-l1,<-l2,hl]
   rw[a8x,e,beq_self_eq_true]at q
   exact q
  refine⟨?_,fun _ _ _ _=>⟨c1,c2⟩⟩
  by_cases e:a=b
  ·subst e;exact SeqAt.EqAt.same _
  ·exact SeqAt.EqAt.of_refs e c1
 | @lst n a b xs ys ha hb hl hq ih=>
  intro A v u hu rv ru
  cases rv
  cases ru
  obtain⟨us,r1,t1,_⟩:=I.list ha
  obtain⟨ws,r2,t2,_⟩:=I.list hb
  have l1:=r1.length
  have l2:=r2.length
  have el:∀j (h1:j<us.toArray.size) (h2:j<ws.toArray.size),SeqAt.EqAt A.in1 s us.toArray[j] ws.toArray[j] true:=by
   intro j h1 h2
   have h1':j<xs.length:=by simpa[l1]using h1
   have h2':j<ys.length:=by simpa[l2]using h2
   obtain⟨u1,e1,q1⟩:=r1.get (i:=j) (x:=xs[j]) (by simp)
   obtain⟨u2,e2,q2⟩:=r2.get (i:=j) (x:=ys[j]) (by simp)
   have z1:us.toArray[j]=u1:=by
    have:=(u6.mp e1).2
    simpa using this
   have z2:ws.toArray[j]=u2:=by
    have:=(u6.mp e2).2
    simpa using this
   rw[z1,z2]
   exact(ih j _ _ (by simp) (by simp) (A:=A.in1) (by show A.units+1+n<cLine;omega) q1 q2).1
  have e:us.toArray.size=ws.toArray.size:=by simp[<-l1,<-l2,hl]
  have c1:SeqAt.RcAt A s (.ref a) (.ref b) true:=by
   have q:=SeqAt.RcAt.lists (A:=A) (e:=fun _=>true) t1.isList t2.isList e (by omega) el
   rw[a8x]at q
   exact q
  have c2:SeqAt.RcNeAt A s (.ref a) (.ref b) false:=by
   have q:=SeqAt.RcNeAt.lists (A:=A) (e:=fun _=>true) t1.isList t2.isList e (by omega) el
   rw[a8x]at q
   exact q
  refine⟨?_,fun _ _ _ _=>⟨c1,c2⟩⟩
  by_cases e:a=b
  ·subst e;exact SeqAt.EqAt.same _
  ·exact SeqAt.EqAt.of_refs e c1
def c4P(K:Fg):R2:=fun x y H Q=>∃a b n,x=.ref a/\y=.ref b/\n<=20/\Dq K H n x y/\Q (.bl true) H
def b7o(K:Fg):R2:=fun x y H Q=>∃a b n,x=.ref a/\y=.ref b/\n<=20/\Dq K H n x y/\Q (.bl false) H
theorem c5B{k:Nat}(hr:V6 k X.A):OpR X (A3 .Eq) (c4P X.K):=by
 intro pins s σ H x y v u Q I rx ry ⟨a,b,n,e1,e2,hn,d,q⟩
 have hu:=hr.units
 exact((d.both I (A:=X.A) (by omega) rx ry).2 a b e1 e2).1 _ _ _ _ ⟨.bl true,H,I,rfl,q⟩
theorem c5v{k:Nat}(hr:V6 k X.A):OpR X (A3 .NotEq) (b7o X.K):=by
 intro pins s σ H x y v u Q I rx ry ⟨a,b,n,e1,e2,hn,d,q⟩
 have hu:=hr.units
 exact((d.both I (A:=X.A) (by omega) rx ry).2 a b e1 e2).2 _ _ _ _ ⟨.bl false,H,I,rfl,q⟩
def c4Q(K:Fg):R2:=fun x y H Q=>∃a b xs ys,x=.ref a/\y=.ref b/\SqT K H a xs/\SqT K H b ys/\xs.all V4=true/\ys.all V4=true/\Q (.bl (a1m xs ys)) H
theorem c5C{k:Nat}(hr:V6 k X.A):OpR X (A3 .Eq) (c4Q X.K):=by
 intro pins s σ H x y v u Q I rx ry ⟨a,b,xs,ys,e1,e2,ha,hb,fx,fy,q⟩
 have hu:=hr.units
 subst e1 e2
 cases rx
 cases ry
 obtain⟨us,r1,t1,_⟩:=I.tuple ha
 obtain⟨ws,r2,t2,_⟩:=I.tuple hb
 have l1:=r1.length
 have l2:=r2.length
 have q1:=SeqAt.RcAt.tuples (A:=X.A) t1 t2 (by omega) (a6w r1 r2 fx fy)
 simp only[l5,<-l1,<-l2]at q1
 exact q1 _ _ _ _ ⟨.bl (a1m xs ys),H,I,rfl,q⟩
def c4O(K:Fg):R2:=fun x y H Q=>∃a b xs ys,x=.ref a/\y=.ref b/\SqT K H a xs/\SqT K H b ys/\xs.all V4=true/\ys.all V4=true/\Q (.bl (!a1m xs ys)) H
theorem c5w{k:Nat}(hr:V6 k X.A):OpR X (A3 .NotEq) (c4O X.K):=by
 intro pins s σ H x y v u Q I rx ry ⟨a,b,xs,ys,e1,e2,ha,hb,fx,fy,q⟩
 have hu:=hr.units
 subst e1 e2
 cases rx
 cases ry
 obtain⟨us,r1,t1,_⟩:=I.tuple ha
 obtain⟨ws,r2,t2,_⟩:=I.tuple hb
 have l1:=r1.length
 have l2:=r2.length
 have q1:=SeqAt.RcNeAt.tuples (A:=X.A) t1 t2 (by omega) (a6w r1 r2 fx fy)
 simp only[l5,<-l1,<-l2]at q1
 exact q1 _ _ _ _ ⟨.bl (!a1m xs ys),H,I,rfl,q⟩
def c2F(K:Fg):List V->Hp->VK->Prop:=fun vs H Q=>∃p xs,vs=[.ref p]/\SqT K H p xs/\Q (.int xs.length) H
theorem b8d:a0k X (.builtin "len") (c2F X.K):=a8n.imp fun xs H Q ⟨p,ys,e,h,q⟩=>⟨p,ys,e,.inr h,q⟩
def a4t:V->List V->Hp->VK->Prop:=fun x vs H Q=>match x,vs with
 | .ref l,[]=>match H l with
  | some (.lst xs)=>Q .non (upd H l (.lst xs.reverse))
  | _=>False
 | _,_=>False
theorem b5P:MtR X "list.reverse" a4t:=fun pins s σ H x xs v us Q I rx rv h=>by
 refine b7H pins s σ H x xs v us Q I rx rv ?_
 unfold a4t at h
 split at h
 ·split at h
  ·exact⟨_,_,rfl,rfl,by assumption,h⟩
  ·exact h.elim
 ·exact h.elim
def c7N(K:Fg):R2:=fun x y H Q=>∃p xs,y=.ref p/\SqT K H p xs/\V4 x=true/\xs.all V4=true/\Q (.bl (inV x xs)) H
theorem c5A:OpR X (A3 .In) (c7N X.K):=b3a.imp fun x y H Q ⟨p,xs,e,h1,h2,h3,q⟩=>⟨p,xs,e,.inr h1,h2,h3,q⟩
def b7q(K:Fg):R2:=fun x y H Q=>∃p i xs v,x=.ref p/\y=.int i/\SqT K H p xs/\atI xs i=some v/\Q v H
theorem d0z:IxR X (b7q X.K):=c3D.imp fun x y H Q ⟨p,i,xs,v,e1,e2,h,e,q⟩=>.inr (.inl ⟨p,xs,i,v,e1,e2,h,e,q⟩)
def c2G(K:Fg):List V->Hp->VK->Prop:=fun vs H Q=>∃p xs,vs=[.ref p,.ty "tuple"]/\SqT K H p xs/\Q (.bl true) H
theorem b8e:a0k X (.builtin "isinstance") (c2G X.K):=fun pins s σ H xs us Q I r h=>by
 obtain⟨p,ys,rfl,hp,q⟩:=h
 obtain⟨u,u2,rfl,ru,ru2⟩:=b8n r
 cases ru
 cases ru2
 obtain⟨its,rv,⟨o,h1,h2,_⟩,_⟩:=I.tuple hp
 exact O5 c0Z I.kIn ⟨o,h1,h2⟩ (c3z X.K "tuple" (by decide) "tuple" (by decide)) (fun z=>nomatch z) fun tk=>⟨.bl true,H,I.tok _,rfl,q⟩
theorem c2O{e c:Option Expr}:PS X (.Raise e c pos) (fun _ _ _=>False):=fun _ _ _ _ _ _ h=>h.elim
structure b6B(P:C9)(w:World)(K:Fg)(mg:Str->Option Value)(base:Heap)(k:Nat)(x:Str)(C:Addr)(ps:List Str)(sp:Sp):Prop where
 ex:∃f fd,N4 P w K mg base CX0 k f fd ps sp/\mg x=some (.ref C)/\Mk K C f/\a4A K fd ps []
theorem d0l{k:Nat}{x:Str}{C:Addr}{e:Expr}{es:List Expr}{t:TA}{p:Pos}(M:b6B X.prog X.w X.K X.mg X.base k x C ps sp)(hr:V6 j X.A)(hk:k+1<=j)(hg:Gl X x)(ha:PA X (e::es) t)
  (hdb:(x == ("__debug__" : Str))=false:=by decide) (he:j9 (e::es) X.env=(false,eval e X.env)::j9 es X.env:=by rfl) (hpl:(a0u pos (j9 es X.env)).any (·.1)=false:=by rfl) :
  PE X (.Call (.Name x p) (e::es) [] pos) (b0D C sp [] E0 t):=by
 obtain⟨f,fd,F,hm,hM,hb⟩:=M.ex
 exact c5k hM F (hr.mono hk) hg hm hb .nil b8F ha hdb he hpl
structure a1N(P:C9)(w:World)(K:Fg)(mg:Str->Option Value)(base:Heap)(k:Nat)(m:Str)(C:Addr)(ps:List Str)(sp:Sp):Prop where
 ex:∃f fd,N4 P w K mg base CX0 k f fd ps sp/\Cls K C/\c6w K C m f/\a4A K fd ps []
theorem c8j{pl:Sem Bool}{k:Nat}{m:Str}{C:Addr}{o e:Expr}{es:List Expr}{ta:TE}{t:TA}{apos:Pos}(M:a1N X.prog X.w X.K X.mg X.base k m C ps sp)(hr:V6 j X.A)(hk:k<=j)(ho:PE X o ta)(ha:PA X (e::es) t)
  (hst:j9 (e::es) X.env=(false,eval e X.env)::j9 es X.env:=by rfl) (hpl:(a0u pos (j9 es X.env)).any (·.1)=false:=by rfl)
  (ht:eval (.Call (.Attribute o m apos) (e::es) [] pos) X.env=(do
   let ov <-eval o X.env
   b0m apos.atName
   let(f,first) <-a1A [ov] (a7F ov m pl)
   c1f pos f first (a0u pos (j9 (e::es) X.env)) (a6J pos (a1z [] X.env))):=by rfl) :
  PE X (.Call (.Attribute o m apos) (e::es) [] pos) (a1c C m sp [] E0 ta t):=by
 obtain⟨f,fd,F,c,hm,hb⟩:=M.ex
 exact c5j (pl:=pl) ho c hm F (hr.mono hk) hb .nil b8F ha hst hpl ht
theorem c5i{pl:Sem Bool}{k:Nat}{m:Str}{C:Addr}{o:Expr}{ta:TE}{apos:Pos}(M:a1N X.prog X.w X.K X.mg X.base k m C ps sp)(hr:V6 j X.A)(hk:k<=j)(ho:PE X o ta)
  (ht:eval (.Call (.Attribute o m apos) [] [] pos) X.env=(do
   let ov <-eval o X.env
   b0m apos.atName
   let(f,first) <-a1A [ov] (a7F ov m pl)
   c1f pos f first (a0u pos (j9 [] X.env)) (a6J pos (a1z [] X.env))):=by rfl) :
  PE X (.Call (.Attribute o m apos) [] [] pos) (a1c C m sp [] E0 ta j3):=by
 obtain⟨f,fd,F,c,hm,hb⟩:=M.ex
 exact c2U (pl:=pl) ho c hm F (hr.mono hk) hb .nil b8F ht
end
theorem a8g{env:Env}:∀ {names:List (Str×a6K)} {y:Str},names.lookup y=some .free ->
  (names.map fun(n,k)=>if(k == NameKind.free&&env.scope.kind == .function&&env.kindOf n == some .cell)then (n,NameKind.cell)else (n,k)).lookup y=some .cell \/
  (names.map fun(n,k)=>if(k == NameKind.free&&env.scope.kind == .function&&env.kindOf n == some .cell)then (n,NameKind.cell)else (n,k)).lookup y=some .free
 | [],_,h=>by cases h
 | (n,k0)::r,y,h=>by
  have ih := @a8g env r y
  rw[L8]at h
  rw[E2]
  dsimp only
  cases hx:y == n with
  | true=>
   rw[hx]at h
   cases h
   by_cases hc:(NameKind.free == NameKind.free&&env.scope.kind == .function&&env.kindOf n == some .cell)=true
   ·rw[if_pos hc,L8,hx];exact .inl rfl
   ·rw[if_neg hc,L8,hx];exact .inr rfl
  | false=>
   rw[hx]at h
   by_cases hc:(k0 == NameKind.free&&env.scope.kind == .function&&env.kindOf n == some .cell)=true
   ·rw[if_pos hc,L8,hx];exact ih h
   ·rw[if_neg hc,L8,hx];exact ih h
theorem b8P{sc1 sc:Scope}(h:∀y∈sc.names,y.2=.free->sc1.names.lookup y.1=some .free):∀y∈sc.names,y.2=.free->(a8F sc1 env).names.lookup y.1=some .cell\/(a8F sc1 env).names.lookup y.1=some .free:=
 fun y hy e=>a8g (h y hy e)
end L2
namespace PySem
open Sem (wp)
namespace F
theorem lk_list_keys:c6F (.type "list") "keys" = pure none:=by rw[typeLookup_type,a4g];kernel_rfl
theorem lk_list_getattr:c6F (.type "list") "__getattr__" = pure none:=by rw[typeLookup_type,a4g];kernel_rfl
end F
section
variable {prog:C9}{w:World}{A:O0}{E:Value->i8->Prop}{h:Heap}{g:Array GenState}{d:Drawn}{t:Nat}{os:OsState}{a:Addr}{xs:Array Value}{n:Nat}{sl:Array (Option Value)}
theorem keys_entry_list{tk:Tok}{Q:Fin->i8->Prop}(hh:A.handled=none)(hx:h.get? a=some ⟨.type "list",none,.seq xs n,sl⟩)(he:∀h' t' e,Heap.NewAttrErr h h' e (.ref a) "keys" -> E (.ref e) ⟨h',g,d,t',os⟩) :
  wpAny (model prog w) A (a3Q.«object.__getattribute__» ⟨[.ref a,.str "keys" tk],[]⟩) Q E ⟨h,g,d,t,os⟩:=by
 have hT:(⟨h,g,d,t,os⟩:i8).TypeIs (.ref a) "list" := ⟨_,hx,rfl⟩
 have f4:=F.lk_list_keys
 have f5:=F.lk_list_getattr
 repeat (any_goals (first | assumption | wp_step))
 exact wpAny_raiseAttrError hh he (attrMsg_fits (by decide +kernel) (by decide +kernel))
theorem keys_call_list{tk:Tok}{R:b4N->i8->Prop}(hh:A.handled=none)(hx:h.get? a=some ⟨.type "list",none,.seq xs n,sl⟩)(he:∀h' t' e,Heap.NewAttrErr h h' e (.ref a) "keys" -> R (.error (.ref e)) ⟨h',g,d,t',os⟩) :
  a2D (model prog w) A (.call (.builtin "list.__getattribute__") ⟨[.ref a,.str "keys" tk],[]⟩) R ⟨h,g,d,t,os⟩:=
 codeAny_call_builtin F.slot_list_getattribute.plain F.entry_list_ga (F.slot_list_getattribute.check _ _ _ _ _ _ _ _ (show(⟨h,g,d,t,os⟩:i8).TypeIs (.ref a) "list" from⟨_,hx,rfl⟩) (F.args_list_getattribute_2 _ _) (keys_entry_list hh hx he))
theorem keys_attr_list{Q:Option Value->i8->Prop}(hh:A.handled=none)(hx:h.get? a=some ⟨.type "list",none,.seq xs n,sl⟩)(hq:∀h' t',(∀b ob,h.get? b=some ob->h'.get? b=some ob)->Q none ⟨h',g,d,t',os⟩) :
  wpAny (model prog w) A (getAttr? (.ref a) "keys") Q E ⟨h,g,d,t,os⟩:=by
 have hT:(⟨h,g,d,t,os⟩:i8).TypeIs (.ref a) "list" := ⟨_,hx,rfl⟩
 have f2:=F.slot_list_getattribute.lookup
 have f3:=F.slot_list_getattribute.bind (.ref a)
 unfold getAttr? getAttrBy?
 repeat (any_goals (first | assumption | wp_step))
 refine keys_call_list hh hx fun h' t' e ne=>?_
 obtain⟨t'',u',he⟩:=ne.there
 have f1:=sub_AttributeError
 have f5:=F.lk_list_getattr
 show wpAny _ _ (getattributeRaised _ _ _ _ _ _ _) _ _ _
 unfold getattributeRaised
 repeat (any_goals (first | assumption | wp_step))
 exact hq _ _ ne.keeps
end
end PySem
namespace PySem
open Sem (wp)
namespace F
theorem entry_update_loop:entryFor table "dict.update.loop" = some a3Q.«dict.update.loop» := entryFor_of_tree (by kernel_rfl)
theorem plain_update_loop:plainId "dict.update.loop" = true:=by decide +kernel
end F
section
variable {prog:C9}{w:World}{K:Type}[DecidableEq K]{knd:KeyKind prog w K}{A:O0}{s:i8}{R:b4N->i8->Prop}
def prsF(ps:List (K×Value)):List (K×Value):=ps.foldl (fun m p=>c9x m p.1 p.2) []
theorem prsF_snoc(ps:List (K×Value))(p:K×Value):prsF (ps++[p])=c9x (prsF ps) p.1 p.2:=by unfold prsF;rw[c6B];rfl
theorem update_loop{d I l:Addr}{items:Array Value}{ps:List (K×Value)}(hh:A.handled=none)(hdI:d≠I)(hld:l≠d)(hlI:l≠I)(hn:items.size=ps.length)(hsz:ps.length<=u8)(res:Value){h₁:Heap}(hl:h₁.IsList l items)
  (hp:∀(i:Nat) k v,ps[i]? = some (k,v)->∃p key n dd ss,items[i]? = some (.ref p)/\h₁.get? p=some ⟨.type "tuple",dd,.seq #[key,v] n,ss⟩/\knd.is k key=true/\p≠d/\p≠I)
  (hsl:∀qs:List (K×Value),qs.length<=ps.length->(prsF qs).length<=u8)
  (hR:∀h' tk,(∀b o,b≠d->b≠I->h₁.get? b=some o->h'.get? b=some o)->h'.DictOf knd d (prsF ps)->R (.ok (.ret res)) { s with heap:=h',toks:=tk }) :
  ∀(k i:Nat) (h:Heap) (tk:Nat) (u:Tok),ps.length - i=k->i<=ps.length->h.IsListIter I l i->h.DictOf knd d (prsF (ps.take i))->(∀b o,b≠d->b≠I->h₁.get? b=some o->h.get? b=some o) ->
   a2D (model prog w) A (.builtin "dict.update.loop" ⟨[.ref d,.ref I,.int (i:Int) u,res],[]⟩) R { s with heap:=h,toks:=tk }:=by
 intro k
 induction k with
 | zero=>
  intro i h tk u hk hi hit hD hkeep
  have hin:i=ps.length:=by omega
  subst hin
  obtain⟨ol,hol,hcl,nl,hdl⟩:=id hl
  have hl':h.IsList l items:=⟨ol,hkeep _ _ hld hlI hol,hcl,nl,hdl⟩
  refine a0K F.entry_update_loop ?_
  rw[Around.under_plainId F.plain_update_loop _]
  show wpAny _ A.in1 (a4e (.ref I) >>= _) _ _ _
  refine b6 (c9t (s:={ s with heap:=h,toks:=tk }) (A:=A.in1) hh hit hl' (by simp[hn]) fun h' he=>?_)
  refine b6 (d7 (d7 (hR h' tk (fun b o h1 h2 e=>he b o h2 (hkeep b o h1 h2 e)) ?_)))
  rw[R8]at hD
  exact hD.extBut he hdI
 | succ k ih=>
  intro i h tk u hk hi hit hD hkeep
  have hlt:i<ps.length:=by omega
  obtain⟨⟨kk,x⟩,hx⟩:∃p,ps[i]? = some p:=⟨ps[i],d4 hlt⟩
  obtain⟨p,key,n,dd,ss,e1,e2,e3,e4,e5⟩:=hp i kk x hx
  obtain⟨ol,hol,hcl,nl,hdl⟩:=id hl
  have hl':h.IsList l items:=⟨ol,hkeep _ _ hld hlI hol,hcl,nl,hdl⟩
  refine a0K F.entry_update_loop ?_
  rw[Around.under_plainId F.plain_update_loop _]
  show wpAny _ A.in1 (a4e (.ref I) >>= _) _ _ _
  refine b6 (c9p (s:={ s with heap:=h,toks:=tk }) (A:=A.in1) hit hl' e1 fun h' hit' sb=>?_)
  have e2':h'.get? p=some ⟨.type "tuple",dd,.seq #[key,x] n,ss⟩:=(sb.2 p e5).trans (hkeep _ _ e4 e5 e2)
  refine b6 ?_
  refine Y3 (b6 ?_)
  refine wpAny_tryCatch ?_
  unfold Builtin.Dict.pairItems
  refine b6 (b0k (show({ s with heap:=h',toks:=tk }:i8).TypeIs (.ref p) "tuple" from⟨_,e2',rfl⟩) ?_)
  rw[if_pos (by decide)]
  refine b6 (wpAny_seqItems e2' rfl (d7 ?_))
  have hD':h'.DictOf knd d (prsF (ps.take i)):=hD.sameBut sb hdI
  show wpAny _ _ (a1A [key,x] (dictSet d key x)) _ _ _
  refine Y3 (wpAny_dictSet_pairs (s:={ s with heap:=h',toks:=tk }) e3 hD' (fun h'' hD'' sb2=>?_) (hsl _ (by rw[L9];omega)))
  refine d7 ⟨a3b F.plain_update_loop _,?_⟩
  have tk1:ps.take (i+1)=ps.take i++[(kk,x)]:=by rw[O2,hx];rfl
  refine ih (i+1) h'' _ _ (by omega) hlt ?_ ?_ fun b o h1 h2 e=>?_
  ·obtain⟨oi,g1,g2,g3⟩:=hit'
   exact⟨oi,(sb2.2 I (Ne.symm hdI)).trans g1,g2,g3⟩
  ·rw[tk1,prsF_snoc]
   exact hD''
  ·exact(sb2.2 b h1).trans ((sb.2 b h2).trans (hkeep b o h1 h2 e))
end
section
variable {prog:C9}{w:World}{K:Type}[DecidableEq K]{knd:KeyKind prog w K}{A:O0}{E:Value->i8->Prop}{s:i8}
theorem call_dict_pairs{l:Addr}{items:Array Value}{n:Nat}{sl:Array (Option Value)}{ps:List (K×Value)}{Q:Value->i8->Prop}(hh:A.handled=none)(hl:s.heap.get? l=some ⟨.type "list",none,.seq items n,sl⟩)(hn:items.size=ps.length)(hsz:ps.length<=u8)
  (hp:∀(i:Nat) k v,ps[i]? = some (k,v)->∃p key n dd ss,items[i]? = some (.ref p)/\s.heap.get? p=some ⟨.type "tuple",dd,.seq #[key,v] n,ss⟩/\knd.is k key=true)
  (hsl:∀qs:List (K×Value),qs.length<=ps.length->(prsF qs).length<=u8)
  (h:∀h' tk,(∀b o,s.heap.get? b=some o->h'.get? b=some o)->h'.DictOf knd s.heap.objs.size (prsF ps)->Q (.ref s.heap.objs.size) { s with heap:=h',toks:=tk }) :
  wpAny (model prog w) A (call (.type "dict") [.ref l]) Q E s:=by
 refine callType_codes (Q₁:=fun obj s₁=>obj=.ref s.heap.objs.size/\s₁={ s with heap:=s.heap.push { cls:=.type "dict",data:=.dict #[] } }) F.kt_called_dict (F.kt_typeCall_dict_1 _) F.entry_dict_init (kt_code_dict_new _ ⟨rfl,rfl⟩) ?_
 rintro obj s₁ ⟨rfl,rfl⟩
 have hnew:(s.heap.push { cls:=.type "dict",data:=.dict #[] }).DictOf knd s.heap.objs.size []:=b9h s.heap
 have hl1:(s.heap.push { cls:=.type "dict",data:=.dict #[] }).get? l=some ⟨.type "list",none,.seq items n,sl⟩:=d5 _ hl
 refine⟨hnew.typeIs,F.args_dict_init_2 _ _,?_⟩
 unfold a3Q.«dict.__init__»
 refine b6 ?_
 unfold Builtin.Dict.selfAndRest
 refine b6 (c9u hnew.typeIs ?_)
 show wpAny _ _ (pure (s.heap.objs.size,[Value.ref l])) _ _ _
 refine d7 ?_
 show wpAny _ _ (Builtin.Dict.updateFrom "dict.__init__" s.heap.objs.size (.ref l) [] .none) _ _ _
 unfold Builtin.Dict.updateFrom
 refine b6 (b0k (show({ s with heap:=s.heap.push { cls:=.type "dict",data:=.dict #[] } }:i8).TypeIs (.ref l) "list" from⟨_,hl1,rfl⟩) ?_)
 rw[if_pos (by decide)]
 refine b6 (keys_attr_list (A:=A.in1.in1) hh hl1 fun h2 t2 k2=>?_)
 rw[if_pos (show(none:Option Value).isNone=true from rfl)]
 refine b6 (wpAny_rule ?_)
 have hl2:h2.IsList l items:=⟨_,k2 _ _ hl1,rfl,n,rfl⟩
 refine b6 (a3O (s:={ s with heap:=h2,toks:=t2 }) hl2 ?_)
 have hdlt:s.heap.objs.size<h2.objs.size:=by
  obtain⟨o,es,ep,ho,_⟩:=hnew
  exact j5 (k2 _ _ ho)
 have up:∀b o,s.heap.get? b=some o->h2.get? b=some o:=fun b o e=>k2 _ _ (d5 _ e)
 have ne1:∀b o,s.heap.get? b=some o->b≠s.heap.objs.size/\b≠h2.objs.size:=fun b o e=>⟨u9 (j5 e),u9 (j5 (up b o e))⟩
 refine d7 ⟨a3b F.plain_update_loop _,?_⟩
 have hD2:(h2.push { cls:=.type "list_iterator",data:=.fields #[.ref l,.int 0 0] }).DictOf knd s.heap.objs.size []:=by
  obtain⟨o,es,ep,ho,r⟩:=hnew
  exact⟨o,es,ep,d5 _ (k2 _ _ ho),r⟩
 refine update_loop (s:=s) (A:=A.in1) (knd:=knd) (d:=s.heap.objs.size) (I:=h2.objs.size) (ps:=ps) hh (u9 hdlt) (ne1 l _ hl).1 (ne1 l _ hl).2 hn hsz .none (h₁:=h2.push { cls:=.type "list_iterator",data:=.fields #[.ref l,.int 0 0] }) ?_ (fun i k v e=>?_) hsl (fun h' tk kp hd=>⟨rfl,h h' tk (fun b o e=>kp b o (ne1 b o e).1 (ne1 b o e).2 (d5 _ (up _ _ e))) hd⟩) ps.length 0 _ _ _ (by omega) (L6 _) ⟨_,l7 _ rfl,rfl,rfl⟩ hD2 fun b o _ _ e=>e
 ·exact⟨_,d5 _ (up _ _ hl),rfl,n,rfl⟩
 ·obtain⟨p,key,m,dd,ss,a1,a2,a3⟩:=hp i k v e
  exact⟨p,key,m,dd,ss,a1,d5 _ (up _ _ a2),a3,(ne1 p _ a2).1,(ne1 p _ a2).2⟩
end
end PySem
namespace L2
open PySem PySem.Spec PyProof.Rows
variable{X:Cx}
section
def b3T:List V->Hp->VK->Prop:=fun xs H Q=>∃a vs kvs,xs=[.ref a]/\H a=some (.lst vs)/\vs.length=(kvs:List (Key×V)).length /\
 (∀(i:Nat) k x,kvs[i]? = some (k,x)->∃p,vs[i]? = some (.ref p)/\H p=some (.tup [kV k,x]))/\(kvs.map (·.1)).Nodup/\∀p,H p=none->Q (.ref p) (upd H p (.dK kvs))
theorem c2P{K:Type}[DecidableEq K](ps:List (K×Value)):(prsF ps).length<=ps.length:=by
 have:∀(ps m:List (K×Value)),(ps.foldl (fun m p=>c9x m p.1 p.2) m).length<=m.length+ps.length:=by
  intro ps
  induction ps with
  | nil=>intro m;simp
  | cons p ps ih=>
   intro m
   have h1:=ih (c9x m p.1 p.2)
   have h2:=stored_length_le m p.1 p.2
   simp only[List.foldl_cons,A2]
   omega
 have:=this ps []
 simpa[prsF]using this
theorem b5E{P:C9}{w:World}{H:Hp}{h:Heap}(ok:HOk P w H h):∀(kvs:List (Key×V)) (vs:List V) (its:List Value),vs.length=kvs.length->(∀(i:Nat) k x,kvs[i]? = some (k,x)->∃p,vs[i]? = some (.ref p)/\H p=some (.tup [kV k,x]))->L5 vs its ->
  ∃ps:List (Key×Value),KV kvs ps/\∀(i:Nat) k v,ps[i]? = some (k,v)->∃p key n dd ss,its[i]? = some (.ref p)/\h.get? p=some ⟨.type "tuple",dd,.seq #[key,v] n,ss⟩/\(X7 P w).is k key=true
 | [],_,_,_,_,_=>⟨[],.nil,fun i k v e=>by simp at e⟩
 | (k,x)::kvs,[],_,l,_,_=>by cases l
 | (k,x)::kvs,v::vs,its,l,hp,rv=>by
  cases rv with
  | cons r0 rv=>
   rename_i u its
   obtain⟨p,e1,e2⟩:=hp 0 k x rfl
   cases e1
   cases r0
   obtain⟨ps,q1,q2⟩:=b5E ok kvs vs its (by simpa using l) (fun i k x e=>hp (i+1) k x e) rv
   obtain⟨_,js,rj,o,g1,g2,n,g3⟩:=(show a0e P w H h p (.tup [kV k,x])from ok p _ e2)
   obtain⟨u1,u2,rfl,r1,r2⟩:=b8n rj
   refine⟨(k,u2)::ps,.cons ⟨rfl,r2⟩ q1,fun i k' v' e=>?_⟩
   cases i with
   | zero=>
    cases e
    refine⟨p,u1,n,o.dict,o.slots,rfl,?_,b1w r1⟩
    rw[g1]
    cases o
    cases g2
    cases g3
    rfl
   | succ i=>exact q2 i k' v' e
theorem b6s(hc:X.calm=true):a0k X (.type "dict") b3T:=fun pins s σ H xs us Q I r h=>by
 obtain⟨a,vs,kvs,rfl,hl,hn,hp,nd,q⟩:=h
 obtain⟨u,rfl,ru⟩:=a6L r
 cases ru
 obtain⟨hz,its,n,rv,hg⟩:=(show a0e X.prog X.w H s.heap a (.lst vs)from I.hok a _ hl)
 have li:=Paired.length rv
 obtain⟨ps,rel,hps⟩:=b5E I.hok kvs vs its hn hp rv
 have hpl:=rel.length
 have hnd:(ps.map (·.1)).Nodup:=by rw[<-rel.keys];exact nd
 refine call_dict_pairs (knd:=X7 X.prog X.w) (ps:=ps) (I.ok.hd hc) hg (by simp;omega) (by omega) (fun i k v e=>by
  obtain⟨p,key,m,dd,ss,a1,a2,a3⟩:=hps i k v e
  exact⟨p,key,m,dd,ss,by simpa using a1,a2,a3⟩) (fun qs hq=>J5 (c2P qs) (by omega)) fun h' tk kp dd=>?_
 have e:prsF ps=ps:=merged_nil_of_nodup ps hnd
 rw[e]at dd
 exact⟨.ref s.heap.objs.size,_,I.laid (a:=s.heap.objs.size) (o:=.dK kvs) (t':=tk) (fun b o hb=>kp b o hb) (j6 _) (b7Z (by omega) (beq_eq_false_iff_ne.mpr (Ne.symm (u9 I.big))) rel dd),rfl,q _ (I.hok.fresh (j6 _))⟩
end
section
variable {tg:Expr}
end
section
end
section
end
structure IsC(K:Fg)(C:Addr):Prop where
 cl:Cls K C
 ha:I0 K (.ref C) "__class__" = some (some (.builtin "object.__class__"))
 hn:a9t K (.builtin "object.__class__") "__get__" = some (some (.builtin "getset_descriptor.__get__"))
 htk:c4l K (.builtin "object.__class__")=some true
 hm:c6W K C (.type "object")=some true
section
variable {P:C9}{w:World}{K:Type}[DecidableEq K]{knd:HeapKind P w K}{A:O0}{E:Value->i8->Prop}{s:i8}
end
section
theorem c6V{H:Hp}:∀ {l:List (List Key×V)} {m:List (List Key×Addr×Value)} {i:Nat} {k:List Key} {p:Addr} {v:Value},KT H l m->m[i]? = some (k,p,v)->∃y,l[i]? = some (k,y)/\K5 y v/\H p=some (.tup (k.map kV))
 | c::l,d::m,0,k,p,v,h,e=>by
  have h:Paired _ _ _:=h
  cases h with
  | cons h t=>
   obtain⟨h1,h2,h3⟩:=h
   cases e
   have h1:c.1=k:=h1
   rw[h1]at h2
   exact⟨c.2,by rw[a5x,<-h1],h3,h2⟩
 | c::l,d::m,i+1,k,p,v,h,e=>by
  have h:Paired _ _ _:=h
  cases h with
  | cons h t=>exact c6V (i:=i) (show KT H l m from t) e
 | [],m,i,k,p,v,h,e=>by
  have h:Paired _ _ _:=h
  cases h
  cases e
 | c::l,[],i,k,p,v,h,e=>by
  have h:Paired _ _ _:=h
  cases h
end
end L2
namespace PySem
open Sem (wp)
section
variable {prog:C9}{w:World}{A:O0}{E:Value->i8->Prop}{s:i8}
def Raw(h:Heap)(d:Addr)(es:Array a3d)(ep:Nat):Prop:=∃o,h.get? d=some o/\o.ExactDict/\o.data=.dict es ep
theorem Raw.at{h h':Heap}{d:Addr}{es:Array a3d}{ep:Nat}(x:Raw h d es ep)(e:∀o,h.get? d=some o->h'.get? d=some o):Raw h' d es ep:=let⟨o,h1,r⟩:=x; ⟨o,e _ h1,r⟩
theorem Raw.typeIs{d:Addr}{es:Array a3d}{ep:Nat}(x:Raw s.heap d es ep):s.TypeIs (.ref d) "dict" := let⟨o,h1,h2,_⟩:=x; ⟨o,h1,h2.1⟩
theorem iter_raw{d:Addr}{es:Array a3d}{ep:Nat}{Q:Value->i8->Prop}(hd:(d == a0J)=false)(hm:Raw s.heap d es ep)
  (hQ:Q (.ref s.heap.objs.size) { s with heap:=s.heap.push { cls:=.type "dict_keyiterator",data:=.fields #[.ref d,.int 0 0,.int es.size 0,.int ep 0] } }):wpAny (model prog w) A (pyIter (.ref d)) Q E s:=by
 have hT:=hm.typeIs
 obtain⟨o,ho,hc,hdat⟩:=id hm
 refine wpAny_pyIter_slot hT F.slot_dict_iter (U0 F.slot_dict_iter hT F.entry_dict_iter ?_ (F.args_dict_iter_1 _))
 unfold a3Q.«dict.__iter__» Builtin.Dict.dictSlotNone
 refine b6 (b6 (c9u hT (d7 ?_)))
 show wpAny _ _ (Builtin.Dict.showsAll d >>= _) _ _ s
 unfold Builtin.Dict.showsAll
 simp only[hd,a4d,if_false]
 refine b6 (d7 (b6 (b6J ho hdat (b6 (c1n ho hdat (b6 (F7 (d7 ⟨_,rfl,"dict_keyiterator",_,⟨_,l7 _ rfl,rfl⟩,F.slot_dict_keyiterator_next.lookup,?_⟩))))))))
 simpa[rawInt]using hQ
theorem next_raw{it d:Addr}{i ep:Nat}{es:Array a3d}{Q:Option Value->i8->Prop}(hit:s.heap.IsKeyIter it d i es.size ep)(hm:Raw s.heap d es ep)(hi:i<es.size)
  (hQ:∀h',h'.IsKeyIter it d (i+1) es.size ep->Heap.SameBut it s.heap h'->Q (some es[i].key) { s with heap:=h' }):wpAny (model prog w) A (a4e (.ref it)) Q E s:=by
 have hT:=hit.typeIs
 obtain⟨o,ho,hc,hd⟩:=id hit
 obtain⟨od,hod,_,hdd⟩:=hm
 have own:Builtin.Dict_items.ownsTuple "dict_keyiterator" = false:=by decide
 unfold a4e
 refine b6 (wpAny_attempt (W2 (name:=Str.ofString "__next__") hT F.slot_dict_keyiterator_next (U0 F.slot_dict_keyiterator_next hT F.entry_dict_keyiterator_next ?_ (F.args_dict_keyiterator_next_1 _))))
 refine b6 (d7 (b6 (b6 (b6 (a1b hT (d7 (b6 (wpAny_fieldsOf ho hd ?_))))))))
 simp only[own,a4d,if_false]
 show wpAny _ _ (if(Value.ref d == Value.none)=true then _ else _) _ _ s
 have nn:¬(Value.ref d == Value.none)=true:=(w6:¬false=true)
 rw[if_neg nn]
 refine b6 (d7 (b6 (b6J hod hdd ?_)))
 rw[if_neg (by simp)]
 refine b6 (d7 (b6 (c1n hod hdd ?_)))
 rw[if_neg (by simp)]
 refine d7 ?_
 simp only[show ¬((i:Int)<0) by omega,if_false,o4,E3 hi]
 refine b6 (b6 (a1b hT (d7 (b6 (c9w hT ?_)))))
 show wpAny _ _ (setField (.ref it) 1 (rawInt ((i:Int)+1)) >>= _) _ _ s
 refine b6 (wpAny_setField ho hd (by simp) ?_)
 have hit':(s.heap.update it (Obj.mapFields (·.setIfInBounds 1 (rawInt ((i:Int)+1))))).IsKeyIter it d (i+1) es.size ep:=
  ⟨_,W1 _ ho (Obj.isFreed_of_fields (Obj.data_mapFields hd _)),(Obj.cls_mapFields ..).trans hc,by rw[Obj.data_mapFields hd];simp[rawInt]⟩
 refine b6 (Y3 (b6 (c9w (s:={ s with heap:=s.heap.update it (Obj.mapFields (·.setIfInBounds 1 (rawInt ((i:Int)+1)))) }) hit'.typeIs ?_)))
 show wpAny _ _ (pure es[i].key) _ _ _
 exact d7 (d7 ⟨_,rfl,d7 (hQ _ hit' (M5 ..))⟩)
theorem end_raw{it d:Addr}{i ep:Nat}{es:Array a3d}{Q:Option Value->i8->Prop}(hh:A.handled=none)(hit:s.heap.IsKeyIter it d i es.size ep)(hm:Raw s.heap d es ep)(hi:es.size<=i)
  (hQ:∀h',Heap.ExtBut it s.heap h'->Q none { s with heap:=h' }):wpAny (model prog w) A (a4e (.ref it)) Q E s:=by
 have hT:=hit.typeIs
 obtain⟨o,ho,hc,hd⟩:=id hit
 obtain⟨od,hod,_,hdd⟩:=hm
 have own:Builtin.Dict_items.ownsTuple "dict_keyiterator" = false:=by decide
 unfold a4e
 refine b6 (wpAny_attempt (W2 (name:=Str.ofString "__next__") hT F.slot_dict_keyiterator_next (U0 F.slot_dict_keyiterator_next hT F.entry_dict_keyiterator_next ?_ (F.args_dict_keyiterator_next_1 _))))
 refine b6 (d7 (b6 (b6 (b6 (a1b hT (d7 (b6 (wpAny_fieldsOf ho hd ?_))))))))
 simp only[own,a4d,if_false]
 show wpAny _ _ (if(Value.ref d == Value.none)=true then _ else _) _ _ s
 have nn:¬(Value.ref d == Value.none)=true:=(w6:¬false=true)
 rw[if_neg nn]
 refine b6 (d7 (b6 (b6J hod hdd ?_)))
 rw[if_neg (by simp)]
 refine b6 (d7 (b6 (c1n hod hdd ?_)))
 rw[if_neg (by simp)]
 refine d7 ?_
 simp only[show ¬((i:Int)<0) by omega,if_false,o4,a2h hi]
 refine b6 (b6 (a1b hT (d7 ?_)))
 show wpAny _ _ (setField (.ref it) 0 .none >>= _) _ _ s
 refine b6 (wpAny_setField ho hd (by simp) ?_)
 refine b6 ?_
 simp only[newExc,newTuple]
 refine b6 (F7 ?_ (by size_fits))
 refine b6 (m:=firstArgMember _ _) (wpAny_of_eq (a:=Value.none) (by simp only[firstArgMember];rfl) (F7 ?_ (by size_fits)))
 simp only[raiseNew]
 refine b6 (wpAny_handled ?_)
 rw[show A.in1.handled=none from hh]
 refine b6 (d7 (wpAny_throw ?_))
 refine b6 (wpAny_isInstance (T := "StopIteration") (b:=true) (show Shared.TypeIs _ (.ref _) _ from⟨_,l7 _ rfl,rfl⟩) isSubtype_stop (d7 (hQ _ ?_)))
 exact((M5 ..).extBut.push _).push _
theorem walks_raw(hh:A.handled=none)(I d:Addr)(hne:d≠I)(es:Array a3d)(ep:Nat) :
  Walks prog w A I [I,d] [I] es.size (fun i v=>∃e,es[i]? = some e/\v=e.key) (fun i h=>h.IsKeyIter I d i es.size ep/\Raw h d es ep) where
 sub:=fun b hb=>by simp at hb;simp[hb]
 frame:=fun _ _ _ st hk=>⟨st.1.at fun o e=>hk I (by simp) o e,st.2.at fun o e=>hk d (by simp) o e⟩
 item:=fun i s Q E hi st hQ=>next_raw st.1 st.2 hi fun h' hit' hs'=>hQ _ h' s.toks ⟨_,E3 hi,rfl⟩ ⟨hit',st.2.at fun o e=>hs'.extBut d o hne e⟩ fun b o hb e=>hs'.extBut b o (fun h=>hb (by simp[h])) e
 done:=fun s Q E st hQ=>end_raw hh st.1 st.2 (j6 _) fun h' he'=>hQ h' s.toks fun b o hb e=>he' b o (fun h=>hb (by simp[h])) e
 self:=fun _ _ _ _ st hQ=>wpAny_pyIter_keyiter st.1 hQ
theorem list_raw{d:Addr}{es:Array a3d}{ep:Nat}(lo:(d == a0J)=false):PySem.W.KdlSrc prog w "dict" d d es.size (fun i v=>∃e,es[i]? = some e/\v=e.key) (fun h=>Raw h d es ep) where
 type:=fun s hm=>Raw.typeIs (s:=s) hm
 there:=fun _ ⟨_,h1,_⟩=>⟨j5 h1,j5 h1⟩
 keep:=fun _ _ hm hk=>hm.at fun o e=>hk d (.inl rfl) o e
 notList:=by decide
 notTuple:=by decide
 hint:=fun _ _ _ _ hm hq=>PySem.W.kdl_hint_dict (Raw.typeIs hm) hq
 iter:=fun _ _ hh hm=>⟨_,_,(fun _ _ hq=>iter_raw lo hm hq),walks_raw hh _ d (u9 (let⟨_,h1,_⟩:=hm;j5 h1)) es ep,⟨⟨_,l7 _ rfl,rfl,rfl⟩,hm.at fun _ e=>d5 _ e⟩⟩
end
end PySem
namespace L2
open PySem PySem.Spec PyProof.Rows
section
variable {X:Cx}
def a9L(H:Hp)(bs:List Addr)(ks:List (List Key)):Prop:=bs.length=ks.length/\∀(i:Nat) b k,bs[i]? = some b->ks[i]? = some k->H b=some (.tup (k.map kV))
def b7p:List V->Hp->VK->Prop:=fun xs H Q=>∃p kvs,xs=[.ref p]/\H p=some (.dT kvs)/\∀bs:List Addr,a9L H bs (kvs.map (·.1))->∀l,H l=none->Q (.ref l) (upd H l (.lst (bs.map V.ref)))
theorem c5Y{H:Hp}{kvs:List (List Key×V)}{xs:List (List Key×Addr×Value)}(r:KT H kvs xs):a9L H (xs.map (·.2.1)) (kvs.map (·.1)):=by
 have hl:=Paired.length r
 refine⟨by rw[a9,a9,hl],fun i b k e1 e2=>?_⟩
 rw[b8]at e1 e2
 obtain⟨⟨k',p,v⟩,f1,g1⟩:=l9.mp e1
 obtain⟨⟨k2,y⟩,f2,g2⟩:=l9.mp e2
 obtain⟨y',f3,_,f4⟩:=c6V r f1
 rw[f2]at f3
 cases f3
 cases g1
 cases g2
 exact f4
theorem c7C{P:C9}{w:World}{H:Hp}{h:Heap}{a:Addr}{kvs:List (List Key×V)}(ok:HOk P w H h)(e:H a=some (.dT kvs)):(a == a0J)=false/\∃es ep xs,Raw h a es ep/\KT H kvs xs/\es.size=xs.length/\∀(i:Nat) en,es[i]? = some en->∃x,xs[i]? = some x/\en.key=.ref x.2.1:=by
 obtain⟨_,hd,xs,r,o,es,ep,h1,h2,h3,h4,_⟩:=c3M ok e
 refine⟨hd,es,ep,xs,⟨o,h1,h2,h3⟩,r,size_of_entries h4,fun i en he=>?_⟩
 rw[<-L4,h4,b8]at he
 obtain⟨x,hx,rfl⟩:=l9.mp he
 exact⟨x,hx,rfl⟩
theorem b6q(hc:X.calm=true):a0k X (.type "list") b7p:=fun pins s σ H xs us Q I r h=>by
 obtain⟨p,kvs,rfl,hp,q⟩:=h
 obtain⟨u,rfl,ru⟩:=a6L r
 cases ru
 obtain⟨hz,_,_⟩:=c3M I.hok hp
 obtain⟨hS,es,ep,ys,hR,rk,hs,hk⟩:=c7C I.hok hp
 have hl:=Paired.length rk
 refine c4h (list_raw (es:=es) (ep:=ep) hS) (I.ok.hd hc) hR (by omega) fun h' tk acc c hkp ha hit=>?_
 have ka:=c5Y rk
 refine⟨.ref _,_,I.laid (t':=tk) (a:=s.heap.objs.size) (o:=.lst ((ys.map (·.2.1)).map V.ref)) hkp (j6 _) ?_,rfl,q _ ka _ (I.hok.fresh (j6 _))⟩
 refine⟨by rw[a9,a9];omega,acc.toList,c,?_,by simpa using ha⟩
 refine b3z (by have:=hit.1;rw[a9,a9];simp;omega) fun i x u a b=>?_
 obtain⟨en,e1,e2⟩:=hit.2 i u (by rw[<-L4];exact b)
 obtain⟨z,e3,e4⟩:=hk i en e1
 rw[b8,b8,e3]at a
 cases a
 rw[e2,e4]
 rfl
end
end L2
namespace PySem
open Sem (wp)
section
variable {prog:C9}{w:World}{K:Type}[DecidableEq K]{knd:HeapKind prog w K}{A:O0}{s:i8}{R:b4N->i8->Prop}
end
section
variable {prog:C9}{w:World}{K:Type}[DecidableEq K]{knd:HeapKind prog w K}{A:O0}{E:Value->i8->Prop}{s:i8}
end
end PySem
namespace L2
open PySem PySem.Spec PyProof.Rows
variable{X:Cx}{pins:List (Addr×Obj)}{σ:St}{H:Hp}{s:i8}{I a z:Addr}{w:World}{h:Heap}{ks:List Str}{es:Array (Int×Value)}{ep i n:Nat}{Q:Value->i8->Prop}{oz:Obj}
section
end
section
end
abbrev XE:=List Key×Addr×V
section
variable {b:Addr}{xs:List XE}{k:List Key}
end
section
variable {i o:Expr}{ti to:TE}
end
section
end
section
end
section
theorem b2G:∀ {us:List Value} {ss:List Str},StrsAre us ss->L5 (ss.map V.str) us
 | _,_,.nil=>.nil
 | _,_,.cons _ _ h=>.cons ⟨_,rfl⟩ (b2G h)
end
section
variable {P:C9}{A:O0}{E:Value->i8->Prop}
abbrev bt(w:World):Bool:=w.params.followText "set-order"
structure Stx(P:C9)(w:World)(ks:List Str)(es:Array (Int×Value))(t:SetTable):Prop where
 el:ElemsOf (strKind P w) es.toList
 ks:(es.toList.map fun e=>strOf e.2).Perm ks
 sz:es.size<scanBound
 fit:t.fits es.size=true
 led:t.led = !bt w
 pl:es.size≠0->t.plain=false
def a5h(P:C9)(w:World)(h:Heap)(a:Addr)(ks:List Str):Prop:=∃o es ep t,h.get? a=some o/\o.ExactSet/\o.data=.set es ep t/\Stx P w ks es t
theorem a5h.stay{h':Heap}(x:a5h P w h a ks)(k:∀o,h.get? a=some o->h'.get? a=some o):a5h P w h' a ks:=
 let⟨o,es,ep,t,e,r⟩:=x
 ⟨o,es,ep,t,k _ e,r⟩
theorem c5X{t:SetTable}{h:Int}{x:Value}:(layNew t es h x).2.1.led=t.led/\(t.plain=false->(layNew t es h x).2.1.plain=false):=by
 unfold layNew
 split
 ·dsimp only
  unfold SetTable.orStandIn
  split
  ·exact⟨rfl,id⟩
  ·exact⟨rfl,fun _=>rfl⟩
 ·exact⟨rfl,fun _=>rfl⟩
theorem b9S{t:SetTable}:(relayAll t es n).2.1.led=t.led/\(t.plain=false->(relayAll t es n).2.1.plain=false):=by
 unfold relayAll
 split
 ·rename_i t' order e
  unfold SetTable.relaid SetTable.laid at e
  obtain⟨ow,_,e⟩:=Option.bind_eq_some_iff.mp e
  cases e
  dsimp only
  split
  ·exact⟨rfl,id⟩
  ·exact⟨rfl,fun _=>rfl⟩
 ·exact⟨rfl,fun _=>rfl⟩
theorem b6U{k:Str}{v:Value}(h:(strKind P w).is k v=true):∃t,v=.str k t:=by
 cases v with
 | str y t=>
  have e:decide (y=k)=true:=h
  exact⟨t,by rw[of_decide_eq_true e]⟩
 | _=>cases h
theorem b8x{o:Obj}{es':Array (Int×Value)}{t t':SetTable}(ho:h.get? a=some o)(hx:o.ExactSet)(hd:o.data=.set es ep t)(r:Stx P w ks es' t') :
  (h.update a (Obj.putSet es' t')).get? a=some { o with data:=.set es' (ep+1) t' }/\a5h P w (h.update a (Obj.putSet es' t')) a ks:=by
 have e:(h.update a (Obj.putSet es' t')).get? a=some { o with data:=.set es' (ep+1) t' }:=by
  rw[<-putSet_of es' t' hd]
  exact W1 _ ho (by rw[putSet_of es' t' hd];rfl)
 exact⟨e,_,es',ep+1,t',e,hx,rfl,r⟩
theorem b2V{g:Bool->Sem Unit}(hg:∀(b:Bool) (s1:i8) (R:Unit->i8->Prop),R () s1->wpAny (model P w) A (g b) R E s1){o:Obj}{es1:Array (Int×Value)}{t t2:SetTable}{dm:Bool}{R:Option Bool->i8->Prop}
  (ho:s.heap.get? a=some o) (hx:o.ExactSet) (hd:o.data=.set es ep t) (r:Stx P w ks es1 t2) (hp:t2.plain=false) (k:∀h',Heap.SameBut a s.heap h'->a5h P w h' a ks->R (some true) { s with heap:=h' }) :
  wpAny (model P w) A (do
    storeSet a es1 t2
    if (!dm && t2.tooFull) = true then do
        g (relayAll t2 es1 (SetTable.grown es1.size)).2.2
        storeSet a (relayAll t2 es1 (SetTable.grown es1.size)).1 (relayAll t2 es1 (SetTable.grown es1.size)).2.1
        pure (some true)
     else pure (some true)) R E s:=by
 refine b6 (wpAny_storeSet_of ho hd ?_ (fits_of_scanBound r.sz))
 obtain⟨o1,S1⟩:=b8x ho hx hd r
 have b1:=M5 s.heap a (Obj.putSet es1 t2)
 split
 ·have pm:=relayAll_perm t2 es1 (SetTable.grown es1.size)
  have ft:=relayAll_fits t2 es1 (SetTable.grown es1.size)
  have ld:=b9S (t:=t2) (es:=es1) (n:=SetTable.grown es1.size)
  generalize relayAll t2 es1 (SetTable.grown es1.size)=z at pm ft ld ⊢
  obtain⟨es2,t3,gv⟩:=z
  dsimp only at pm ft ld ⊢
  have sz:es2.size=es1.size:=by rw[<-E5,pm.length_eq,E5]
  have r2:Stx P w ks es2 t3:=⟨r.el.perm pm,(pm.map _).trans r.ks,by rw[sz];exact r.sz,ft,ld.1.trans r.led,fun _=>ld.2 hp⟩
  refine b6 (hg _ _ _ ?_)
  refine b6 (wpAny_storeSet_of o1 rfl ?_ (fits_of_scanBound r2.sz))
  exact d7 (k _ (b1.trans (M5 _ a _)) (b8x o1 hx rfl r2).2)
 ·exact d7 (k _ b1 S1)
theorem c2d{y:Str}{tk:Tok}{Q:Bool->i8->Prop}(hS:a5h P w s.heap a ks)(hr:ks.length+1<scanBound)
  (k:∀b h',Heap.SameBut a s.heap h'->a5h P w h' a (if y∈ks then ks else ks++[y])->Q b { s with heap:=h' }):wpAny (model P w) A (setAddHashed a (.str y tk) ((strKind P w).hash y)) Q E s:=by
 obtain⟨o,es,ep,t,ho,hx,hd,r⟩:=hS
 have hk:(strKind P w).is y (.str y tk)=true:=strKind_is _ _ _ _
 have sc:(Value.str y tk).scannable=true:=rfl
 have ln:es.size=ks.length:=by rw[<-E5,<-r.ks.length_eq,a9]
 unfold setAddHashed setAddHashedIn
 refine Y3 (b6 (wpAny_setState_of ho hd r.fit ?_))
 dsimp only
 rw[byScan_of sc r.sz r.el,if_pos rfl]
 unfold setAddByScan
 refine b6 ?_
 refine b6 (wpAny_rule ?_)
 refine b6 (wpAny_setScan_of hk ho hd r.fit r.el ?_)
 cases hf:List.findIdx? (fun e=>(strKind P w).is y e.2) es.toList with
 | some j=>
  dsimp only
  obtain⟨hj,pj,_⟩:=List.findIdx?_eq_some_iff_getElem.mp hf
  have hin:y∈ks:=r.ks.mem_iff.mp (C8.mpr ⟨es.toList[j],E9 hj,by obtain⟨t',e⟩:=b6U pj;rw[e];rfl⟩)
  refine d7 (d7 ?_)
  have:=k false s.heap (Heap.SameBut.refl a s.heap) (by rw[if_pos hin];exact⟨o,es,ep,t,ho,hx,hd,r⟩)
  exact this
 | none=>
  dsimp only
  have hin:y∉ks:=fun z=>by
   obtain⟨e,he,q⟩:=C8.mp (r.ks.mem_iff.mpr z)
   obtain⟨⟨k',hk',_⟩,_⟩:=r.el e he
   obtain⟨t',e'⟩:=b6U hk'
   have no:=List.findIdx?_eq_none_iff.mp hf e he
   rw[e']at q no
   have q:k'=y:=q
   rw[q,strKind_is]at no
   cases no
  rw[if_neg hin]at k
  have pm:=layNew_perm t es ((strKind P w).hash y) (.str y tk)
  have ft:=layNew_fits t es ((strKind P w).hash y) (.str y tk)
  have ld:=c5X (t:=t) (es:=es) (h:=(strKind P w).hash y) (x:=.str y tk)
  generalize layNew t es ((strKind P w).hash y) (.str y tk)=z at pm ft ld ⊢
  obtain⟨es1,t1,dm,gv⟩:=z
  dsimp only at pm ft ld ⊢
  rw[c4p]at pm
  have l1:es1.size=es.size+1:=by rw[<-E5,pm.length_eq,g8,E5];rfl
  have base:∀t2:SetTable,t2.fits es1.size=true->t2.led=t1.led->t2.plain=false->Stx P w (ks++[y]) es1 t2:=fun t2 f l p=>⟨(r.el.push hk sc).perm pm,by
   refine(pm.map _).trans ?_
   rw[z9]
   exact r.ks.append (a1Q _),by omega,f,l.trans (ld.1.trans r.led),fun _=>p⟩
  have gw:∀(b:Bool) (s1:i8) (R:Unit->i8->Prop),R () s1->wpAny (model P w) A (match b with | true=>rule "set.scan.the-table-gave-way" | false=>pure ()) R E s1:=fun b s1 R q=>by
   cases b
   ·exact d7 q
   ·exact wpAny_rule q
  refine b6 (gw gv _ _ ?_)
  split
  ·rename_i pt
   refine b6 ?_
   rw[hashByValue_scannable 8 sc]
   refine d7 ?_
   refine b2V ?_ ho hx hd (base _ ?_ ?_ ?_) ?_ fun h' sb S'=>?_
   ·intro b s1 R q
    cases b
    ·exact d7 q
    ·exact wpAny_rule q
   ·exact SetTable.fits_plain_off ft
   ·rfl
   ·rfl
   ·rfl
   ·exact d7 (k _ h' sb S')
  ·rename_i pt
   refine b6 (d7 ?_)
   refine b2V ?_ ho hx hd (base _ ?_ ?_ ?_) ?_ fun h' sb S'=>?_
   ·intro b s1 R q
    cases b
    ·exact d7 q
    ·exact wpAny_rule q
   ·exact ft
   ·rfl
   ·exact c6D.mpr pt
   ·exact c6D.mpr pt
   ·exact d7 (k _ h' sb S')
def met(val:Nat->Str):Nat->List Str
 | 0=>[]
 | i+1=>if val i∈met val i then met val i else met val i++[val i]
theorem b8J(val:Nat->Str):∀i,(met val i).length<=i
 | 0=>j6 _
 | i+1=>by
  have:=b8J val i
  unfold met
  split
  ·omega
  ·rw[g8];exact Nat.succ_le_succ this
theorem b1p(val:Nat->Str):∀i,(met val i).Nodup
 | 0=>c9s
 | i+1=>by
  unfold met
  split
  ·exact b1p val i
  ·rename_i h
   exact a0W.mpr ⟨b1p val i,by simp,fun a ha b hb e=>h (by rw[d9.mp hb]at e;rw[<-e];exact ha)⟩
theorem b8I(val:Nat->Str):∀i x,x∈met val i↔∃j,j<i/\val j=x
 | 0,x=>⟨(fun h=>nomatch h),fun⟨j,h,_⟩=>absurd h (a3v _)⟩
 | i+1,x=>by
  have ih:=b8I val i
  unfold met
  split
  ·rename_i h
   rw[ih]
   constructor
   ·rintro⟨j,h1,h2⟩;exact⟨j,by omega,h2⟩
   ·rintro⟨j,h1,h2⟩
    by_cases e:j=i
    ·subst e;rw[h2]at h;exact(ih x).mp h
    ·exact⟨j,by omega,h2⟩
  ·rw[t5,ih,d9]
   constructor
   ·rintro(⟨j,h1,h2⟩ | rfl)
    ·exact⟨j,by omega,h2⟩
    ·exact⟨i,by omega,rfl⟩
   ·rintro⟨j,h1,h2⟩
    by_cases e:j=i
    ·subst e;exact .inr h2.symm
    ·exact .inl ⟨j,by omega,h2⟩
theorem b9E{R:b4N->i8->Prop}{fp wr:List Addr}{G:Array GenState->Array GenState->Prop}{Pr:Nat->Value->Prop}{St:Nat->i8->Prop}(W:WalksS P w A.in1 I fp wr G n Pr St)(z:Addr)(hz:z∉fp)
  (val:Nat->Str) (hv:∀i v,Pr i v->∃t,v=.str (val i) t) (hb:n+1<scanBound):∀(k i:Nat) (s:i8),n - i=k->i<=n->St i s->a5h P w s.heap z (met val i) ->
   (∀s',Moved (z::wr) G s s'->a5h P w s'.heap z (met val n)->R (.ok (.ret .none)) s')->a2D (model P w) A (.builtin "set.update.loop" ⟨[.ref z,.ref I],[]⟩) R s:=by
 have zw:z∉wr:=fun h=>hz (W.sub _ h)
 have sub:∀b∈wr,b∈z::wr:=fun b h=>F9 _ h
 intro k
 induction k with
 | zero=>
  intro i s hk hi st hS hR
  obtain rfl:i=n:=by omega
  refine a0K a5p ?_
  rw[Around.under_plainId a0H _]
  refine b6 (m:=a4e (.ref I)) (W.done s _ _ st fun s' hm=>?_)
  exact d7 (hR s' (hm.mono sub) (hS.stay fun o e=>hm.heap z o zw e))
 | succ k ih=>
  intro i s hk hi st hS hR
  have lt:i<n:=by omega
  refine a0K a5p ?_
  rw[Around.under_plainId a0H _]
  refine b6 (m:=a4e (.ref I)) (W.item i s _ _ lt st fun v s' hP st' hm=>?_)
  obtain⟨t,rfl⟩:=hv i v hP
  have S':a5h P w s'.heap z (met val i):=hS.stay fun o e=>hm.heap z o zw e
  refine b6 (m:=a1A [Value.str (val i) t] (setAdd z (.str (val i) t))) (Y3 ?_)
  unfold setAdd
  refine Y3 (b6 ((strKind P w).pyHash (k:=val i) (strKind_is _ _ _ _) ?_))
  refine c2d (s:={ s' with toks:=s'.toks+1 }) S' (by have:=b8J val i;omega) fun b h' sb S2=>?_
  refine d7 ⟨a3b a0H _,ih (i+1) _ (by omega) lt (W.frame _ s' _ _ st' (a3q _) fun c hc o e=>?_) S2 fun s2 hm2 S3=>?_⟩
  ·rw[sb.2 c (fun q:c=z=>hz (q ▸ hc))];exact e
  ·refine hR s2 (Moved.trans W.gtrans ((hm.mono sub).then_heap (a3q _) fun c o hc e=>?_) hm2) S3
   rw[sb.2 c (fun q:c=z=>hc (q ▸ F4))];exact e
theorem c2c(a:Value)(h:Q (.ref s.heap.objs.size) { s with heap:=s.heap.push { cls:=.type "set",dict:=none,data:=.set #[] 0 (.fresh 0 0 (!bt w)) } }) :
  a2D (model P w) A (.call (.builtin "set.__new__") ⟨[.type "set",a],[]⟩) (wants Q E) s:=by
 refine codeAny_of_tree ?_
 refine b6 (m:=checkBuiltinCall "set.__new__" ⟨[.type "set",a],[]⟩) (wpAny_of_eq (PySem.F.newCall_set_1 a) (d7 ⟨a3b b6H _,a0K PySem.F.entry_set_new ?_⟩))
 rw[Around.under_plainId b6H _]
 unfold a3Q.«set.__new__» Builtin.Frozenset.newClass
 have hs:=sub_set_self
 obtain⟨hp,g,d,tk,os⟩:=s
 dsimp only
 wp_walk
 refine wpAny_askSetting (d7 ?_)
 dsimp only
 simp only[newObj]
 exact b6 (wpAny_alloc (d7 (d7 h)))
set_option maxHeartbeats 3200000 in
theorem b9G{l:Addr}{items:Array Value}{ss:List Str}(hh:A.handled=none)(hl:s.heap.IsList l items)(hi:StrsAre items.toList ss)(hb:items.size+1<scanBound)
  (h:∀(h':Heap) (tk:Nat),a5h P w h' s.heap.objs.size (met (fun i=>ss.getD i ⟨#[]⟩) items.size)->(∀b o,b<s.heap.objs.size->s.heap.get? b=some o->h'.get? b=some o)->s.toks<=tk->s.heap.objs.size<h'.objs.size ->
   Q (.ref s.heap.objs.size) { s with heap:=h',toks:=tk }):wpAny (model P w) A (call (.type "set") [.ref l]) Q E s:=by
 obtain⟨cc,tl,hmro⟩:=V8.mro
 have hmade:=V8.made
 have hsub:=V8.sub
 refine wpAny_call (codeAny_of_tree (c:=.call (.type "set") ⟨[.ref l],[]⟩) ?_)
 show wpAny (model P w) _ (callAny (.type "set") _) _ _ _
 refine d7 ⟨Code.quiet_builtin _ (by decide +kernel),a0K PySem.F.entry_type_call ?_⟩
 rw[Around.under_plain (weight_type_call_type "set" [.ref l] []) rfl]
 have z1:=V8.notType
 have z2:=V8.canCreate
 have z3:=PySem.F.typeCall_set_1 (.ref l)
 repeat (any_goals (first | assumption | wp_step))
 obtain⟨O,hO⟩:∃O:Obj,O={ cls:=.type "set",dict:=none,data:=.set #[] 0 (.fresh 0 0 (!bt w)) }:=⟨_,rfl⟩
 refine a4f (c2c (.ref l) (E:=E) (Q:=fun obj s1=>obj=.ref s.heap.objs.size/\s1={ s with heap:=s.heap.push O }) (by rw[hO];exact⟨rfl,rfl⟩)) fun r s1 hr=>?_
 cases r with
 | error e=>exact hr
 | ok fl=>
  cases fl with
  | ret obj=>
   obtain⟨rfl,rfl⟩:=hr
   have gO:(s.heap.push O).get? s.heap.objs.size=some O:=l7 _ (by rw[hO];rfl)
   have hT:Shared.TypeIs { s with heap:=s.heap.push O } (.ref s.heap.objs.size) "set" := ⟨_,gO,by rw[hO]⟩
   have y1:=V8.init.lookup
   have y2:=V8.init.bind (.ref s.heap.objs.size)
   repeat (any_goals (first | assumption | wp_step))
   refine a4f (codeAny_call_builtin (R:=wants (fun r s2=>r=.none/\∃h' tk,s2={ s with heap:=h',toks:=tk }/\a5h P w h' s.heap.objs.size (met (fun i=>ss.getD i ⟨#[]⟩) items.size)/\(∀b o,b<s.heap.objs.size->s.heap.get? b=some o->h'.get? b=some o)/\s.toks<=tk) E) V8.init.plain PySem.F.entry_set_init (check_set_init_1 hT ?_)) fun r2 s2 hr2=>?_
   ·subst hO
    obtain⟨ol,hol,hcl,nl,hdl⟩:=id hl
    have lL:l<s.heap.objs.size:=j5 hol
    obtain⟨ocls,odict,odata,oslots⟩:=ol
    simp only at hcl hdl
    subst hcl hdl
    have hol2:=d5 ({ cls:=.type "set",dict:=none,data:=.set #[] 0 (.fresh 0 0 (!bt w)) }:Obj) hol
    have x1:=PySem.F.sub_list_set
    have x2:=PySem.F.sub_list_frozenset
    have x3:(Value.type "list" == Value.type "dict")=false:=by decide
    have hl1:(s.heap.push ({ cls:=.type "set",dict:=none,data:=.set #[] 0 (.fresh 0 0 (!bt w)) }:Obj)).IsList l items:=⟨_,hol2,rfl,nl,rfl⟩
    unfold a3Q.«set.__init__» noKeywords Builtin.Frozenset.updateFrom
    generalize hPI:pyIter=PI
    wp_walk
    subst hPI
    refine a3O (s:={ s with heap:=s.heap.push ({ cls:=.type "set",dict:=none,data:=.set #[] 0 (.fresh 0 0 (!bt w)) }:Obj) }) hl1 ?_
    refine b6 (wpAny_runValue ?_)
    have hh3:A.in1.in1.in1.handled=none:=by simp[hh]
    have nI:l≠(s.heap.push ({ cls:=.type "set",dict:=none,data:=.set #[] 0 (.fresh 0 0 (!bt w)) }:Obj)).objs.size:=by rw[a0z];exact u9 (a5q lL)
    have nf:s.heap.objs.size∉[(s.heap.push ({ cls:=.type "set",dict:=none,data:=.set #[] 0 (.fresh 0 0 (!bt w)) }:Obj)).objs.size,l]:=by
     rw[a0z]
     simp only[j4,v8,or_false,not_or]
     exact⟨u9 (a6f _),b1M lL⟩
    have hval:∀(i:Nat) (v:Value),items[i]? = some v->∃t,v=.str (ss.getD i ⟨#[]⟩) t:=fun i v hv=>by
     rw[<-L4]at hv
     obtain⟨x,t,rfl⟩:=hi.all v (X3 hv)
     refine⟨t,?_⟩
     rw[<-hi.strs,a4c,b8,hv]
     rfl
    refine b9E ((Walks.list hh3 _ l nI items).toS) s.heap.objs.size nf (fun i=>ss.getD i ⟨#[]⟩) hval hb (items.size - 0) 0 _ (by omega) (L6 _) ⟨⟨_,l7 _ rfl,rfl,rfl⟩,hl1.push _⟩ ?_ ?_
    ·exact⟨_,#[],0,.fresh 0 0 (!bt w),d5 _ gO,⟨rfl,rfl,rfl⟩,rfl,fun e he=>(by simp at he),List.Perm.nil,by decide,rfl,rfl,fun q=>(q rfl).elim⟩
    ·intro s' hm S'
     obtain⟨h',g',d',tk',os'⟩:=s'
     have eg:g'=s.gens:=hm.gens
     have ed:d'=s.drawn:=hm.drawn
     have eo:os'=s.os:=hm.os
     subst eg ed eo
     refine d7 (d7 ⟨rfl,h',tk',rfl,S',fun b o hb e=>?_,hm.toks⟩)
     refine hm.heap b o ?_ (d5 _ (d5 _ e))
     rw[a0z]
     simp only[j4,v8,or_false,not_or]
     exact⟨u9 hb,u9 (a5q hb)⟩
   ·cases r2 with
    | error e=>exact hr2
    | ok f2=>
     cases f2 with
     | ret r=>
      obtain⟨rfl,h',tk,rfl,S',hk',ht⟩:=hr2
      repeat (any_goals (first | assumption | wp_step))
      exact h _ _ S' hk' ht (let⟨_,_,_,_,e,_⟩:=S';j5 e)
     | _=>exact hr2.elim
  | _=>exact hr.elim
end
theorem a0O:Slot "set_iterator" "__next__" "set_iterator.__next__" :=
 Slot.of (owner := "set_iterator") (n := "__next__") (by rw[typeLookup_type,a4g];kernel_rfl) (by decide +kernel) (by decide +kernel) (by decide +kernel) (by first | exact .inl (by decide +kernel) | exact .inr (by decide +kernel)) (by rw[isSubtype_type];kernel_rfl)
theorem a6r:entryFor table "set_iterator.__next__" = some a3Q.«set_iterator.__next__» := entryFor_of_tree (by kernel_rfl)
theorem b2S:Manifest.owners.lookup (String.ofList ['r','o','t','a','r','e','t','i','_','t','e','s'].reverse)=some Manifest.sig_set_iterator:=by kernel_rfl
theorem a7Z(a:Value):argsOk "set_iterator.__next__" ⟨[a],[]⟩:=by
 unfold argsOk;rw[signature?_of (id := "set_iterator.__next__") (n:=['_','_','t','x','e','n','_','_']) (o:=['r','o','t','a','r','e','t','i','_','t','e','s']) (by kernel_rfl) b2S];kernel_rfl
theorem b2U:Slot "set_iterator" "__iter__" "set_iterator.__iter__" :=
 Slot.of (owner := "set_iterator") (n := "__iter__") (by rw[typeLookup_type,a4g];kernel_rfl) (by decide +kernel) (by decide +kernel) (by decide +kernel) (by first | exact .inl (by decide +kernel) | exact .inr (by decide +kernel)) (by rw[isSubtype_type];kernel_rfl)
theorem b6X:entryFor table "set_iterator.__iter__" = some a3Q.«dict_keyiterator.__iter__» :=
 entryFor_alias (id' := "dict_keyiterator.__iter__") (by kernel_rfl) rfl (by decide +kernel) (by kernel_rfl)
theorem b9D(a:Value):argsOk "set_iterator.__iter__" ⟨[a],[]⟩:=by
 unfold argsOk;rw[signature?_of (id := "set_iterator.__iter__") (n:=['_','_','r','e','t','i','_','_']) (o:=['r','o','t','a','r','e','t','i','_','t','e','s']) (by kernel_rfl) b2S];kernel_rfl
theorem b0N:entryFor table "set.__iter__" = some a3Q.«frozenset.__iter__» :=
 entryFor_alias (id' := "frozenset.__iter__") (by kernel_rfl) rfl (by decide +kernel) (by kernel_rfl)
def SIt(h:Heap)(I:Addr)(f:Value)(i:Nat)(z:Addr)(n ep:Nat):Prop:=∃o,h.get? I=some o/\o.cls=.type "set_iterator" /\ o.data=.fields #[f,.int i 0,.ref z,.int n 0,.int ep 0]
section
variable {P:C9}{A:O0}{E:Value->i8->Prop}{t:SetTable}{f v:Value}
theorem SIt.ty(h:SIt s.heap I f i z n ep):s.TypeIs (.ref I) "set_iterator" := let⟨o,ho,hc,_⟩:=h; ⟨o,ho,hc⟩
theorem a9Z{g:Value}{o:Obj}(ho:h.get? I=some o)(hc:o.cls=.type "set_iterator")(hdt:o.data=.fields #[f,.int i 0,.ref z,.int n 0,.int ep 0]) :
  SIt (h.update I (Obj.mapFields (·.setIfInBounds 1 (rawInt ((i:Int)+1))))) I f (i+1) z n ep/\SIt (h.update I (Obj.mapFields (·.setIfInBounds 0 g))) I g i z n ep:=
 ⟨⟨_,W1 _ ho (Obj.isFreed_of_fields (Obj.data_mapFields hdt _)),(Obj.cls_mapFields ..).trans hc,by rw[Obj.data_mapFields hdt];simp[rawInt]⟩,
  ⟨_,W1 _ ho (Obj.isFreed_of_fields (Obj.data_mapFields hdt _)),(Obj.cls_mapFields ..).trans hc,by rw[Obj.data_mapFields hdt];simp⟩⟩
theorem b2T{sl nx:Nat}{Q:Option Value->i8->Prop}(hit:SIt s.heap I (.int (sl:Int) 0) i z es.size ep)(hz:s.heap.get? z=some oz)(hd:oz.data=.set es ep t)(hf:t.fits es.size=true)
  (hn:∀(E:Value->i8->Prop) (R:Option (Value×Nat)->i8->Prop),R (some (v,nx)) s->wpAny (model P w) A.in1 (setNext z sl i ep) R E s)
  (k:∀h',SIt h' I (.int (nx:Int) 0) (i+1) z es.size ep->Heap.SameBut I s.heap h'->Q (some v) { s with heap:=h' }):wpAny (model P w) A (a4e (.ref I)) Q E s:=by
 obtain⟨o,ho,hc,hdt⟩:=id hit
 unfold a4e
 refine b6 (wpAny_attempt (W2 (name:=Str.ofString "__next__") hit.ty a0O (U0 a0O hit.ty a6r ?_ (a7Z _))))
 unfold a3Q.«set_iterator.__next__»
 refine b6 (d7 ?_)
 refine b6 (wpAny_fieldsOf ho hdt ?_)
 dsimp only
 refine b6 (wpAny_setEntries_of hz hd hf ?_)
 rw[if_neg (by simp)]
 rw[o4,o4,o4]
 refine b6 (hn _ _ ?_)
 dsimp only
 refine b6 (wpAny_setField ho hdt (by simp) ?_)
 obtain⟨o1,h1,c1,d1⟩:=(a9Z (g:=rawInt (nx:Int)) ho hc hdt).2
 refine b6 (wpAny_setField h1 d1 (by simp) ?_)
 exact d7 ⟨_,rfl,d7 (k _ (a9Z (g:=.none) h1 c1 d1).1 ((M5 ..).trans (M5 ..)))⟩
theorem b5k{sl:Nat}{Q:Option Value->i8->Prop}(hh:A.handled=none)(hit:SIt s.heap I (.int (sl:Int) 0) i z es.size ep)(hz:s.heap.get? z=some oz)(hd:oz.data=.set es ep t)(hf:t.fits es.size=true)
  (hn:∀(E:Value->i8->Prop) (R:Option (Value×Nat)->i8->Prop),R none s->wpAny (model P w) A.in1 (setNext z sl i ep) R E s)
  (k:∀h',Heap.ExtBut I s.heap h'->Q none { s with heap:=h' }):wpAny (model P w) A (a4e (.ref I)) Q E s:=by
 obtain⟨o,ho,hc,hdt⟩:=id hit
 unfold a4e
 refine b6 (wpAny_attempt (W2 (name:=Str.ofString "__next__") hit.ty a0O (U0 a0O hit.ty a6r ?_ (a7Z _))))
 unfold a3Q.«set_iterator.__next__»
 refine b6 (d7 ?_)
 refine b6 (wpAny_fieldsOf ho hdt ?_)
 dsimp only
 refine b6 (wpAny_setEntries_of hz hd hf ?_)
 rw[if_neg (by simp)]
 rw[o4,o4,o4]
 refine b6 (hn _ _ ?_)
 dsimp only
 refine b6 (wpAny_setField ho hdt (by simp) ?_)
 refine b6 ?_
 simp only[newExc,newTuple]
 refine b6 (F7 ?_ (by size_fits))
 refine b6 (m:=firstArgMember _ _) (wpAny_of_eq (a:=Value.none) (by first | rfl | (simp only[firstArgMember];rfl)) ?_)
 refine F7 ?_ (by size_fits)
 simp only[raiseNew]
 refine b6 (wpAny_handled ?_)
 rw[show A.in1.handled=none from hh]
 refine b6 (d7 (wpAny_throw ?_))
 refine b6 (wpAny_isInstance (T := "StopIteration") (b:=true) ⟨_,l7 _ rfl,rfl⟩ isSubtype_stop ?_)
 exact d7 (k _ (((M5 ..).extBut.push _).push _))
theorem b9C{ft:Addr}{ot:Obj}{pl:Array Value}{pn j:Nat}{Q:Option Value->i8->Prop}(hit:SIt s.heap I (.ref ft) i z es.size ep)(hz:s.heap.get? z=some oz)(hd:oz.data=.set es ep t)(hf:t.fits es.size=true)
  (ht:s.heap.get? ft=some ot) (hp:ot.data=.seq pl pn) (hj:pl[i]? = some (.int (j:Int) 0)) (he:(es[j]?).map (·.2)=some v)
  (k:∀h',SIt h' I (.ref ft) (i+1) z es.size ep->Heap.SameBut I s.heap h'->Q (some v) { s with heap:=h' }):wpAny (model P w) A (a4e (.ref I)) Q E s:=by
 obtain⟨o,ho,hc,hdt⟩:=id hit
 unfold a4e
 refine b6 (wpAny_attempt (W2 (name:=Str.ofString "__next__") hit.ty a0O (U0 a0O hit.ty a6r ?_ (a7Z _))))
 unfold a3Q.«set_iterator.__next__»
 refine b6 (d7 ?_)
 refine b6 (wpAny_fieldsOf ho hdt ?_)
 dsimp only
 refine b6 (wpAny_setEntries_of hz hd hf ?_)
 rw[if_neg (by simp)]
 refine b6 (wpAny_seqItems ht hp ?_)
 dsimp only
 rw[o4,hj]
 dsimp only
 unfold setNextDrawn
 refine b6 (b6 (wpAny_setState_of hz hd hf ?_))
 dsimp only
 rw[o4,o4,if_neg (by simp)]
 obtain⟨e,h1,rfl⟩:=l9.mp he
 rw[h1]
 refine d7 ?_
 refine b6 (wpAny_setField ho hdt (by simp) ?_)
 exact d7 ⟨_,rfl,d7 (k _ (a9Z (g:=.none) ho hc hdt).1 (M5 ..))⟩
theorem c2a{ft:Addr}{ot:Obj}{pl:Array Value}{pn:Nat}{Q:Option Value->i8->Prop}(hh:A.handled=none)(hit:SIt s.heap I (.ref ft) i z es.size ep)(hz:s.heap.get? z=some oz)(hd:oz.data=.set es ep t)(hf:t.fits es.size=true)
  (ht:s.heap.get? ft=some ot) (hp:ot.data=.seq pl pn) (hj:pl[i]? = none)
  (k:∀h',Heap.ExtBut I s.heap h'->Q none { s with heap:=h' }):wpAny (model P w) A (a4e (.ref I)) Q E s:=by
 obtain⟨o,ho,hc,hdt⟩:=id hit
 unfold a4e
 refine b6 (wpAny_attempt (W2 (name:=Str.ofString "__next__") hit.ty a0O (U0 a0O hit.ty a6r ?_ (a7Z _))))
 unfold a3Q.«set_iterator.__next__»
 refine b6 (d7 ?_)
 refine b6 (wpAny_fieldsOf ho hdt ?_)
 dsimp only
 refine b6 (wpAny_setEntries_of hz hd hf ?_)
 rw[if_neg (by simp)]
 refine b6 (wpAny_seqItems ht hp ?_)
 dsimp only
 rw[o4,hj]
 dsimp only
 refine b6 (wpAny_setField ho hdt (by simp) ?_)
 obtain⟨o1,h1,c1,d1⟩:=(a9Z (g:=rawInt 0) ho hc hdt).2
 refine b6 (wpAny_setField h1 d1 (by simp) ?_)
 refine b6 ?_
 simp only[newExc,newTuple]
 refine b6 (F7 ?_ (by size_fits))
 refine b6 (m:=firstArgMember _ _) (wpAny_of_eq (a:=Value.none) (by first | rfl | (simp only[firstArgMember];rfl)) ?_)
 refine F7 ?_ (by size_fits)
 simp only[raiseNew]
 refine b6 (wpAny_handled ?_)
 rw[show A.in1.handled=none from hh]
 refine b6 (d7 (wpAny_throw ?_))
 refine b6 (wpAny_isInstance (T := "StopIteration") (b:=true) ⟨_,l7 _ rfl,rfl⟩ isSubtype_stop ?_)
 exact d7 (k _ ((((M5 ..).trans (M5 ..)).extBut.push _).push _))
end
section
variable {P:C9}{A:O0}{E:Value->i8->Prop}
theorem b9r{src:Source}{Q:Nat->i8->Prop}(hn:n≠0)(h:Q (w.draws src (s.drawn.get src) % n) { s with drawn:=s.drawn.bump src }):wpAny (model P w) A (choose src n) Q E s:=fun _ _ _=>⟨hn,h⟩
theorem a7u{α:Type}:∀(xs:List α) (i:Nat) (h:i<xs.length),(xs[i]::xs.eraseIdx i).Perm xs
 | [],i,h=>absurd h (a3v _)
 | x::r,0,h=>a1Q _
 | x::r,i+1,h=>(List.Perm.swap x (r[i]'(c1a h)) _).trans (c4j x (a7u r i (c1a h)))
theorem b8S{α:Type}:∀(n:Nat) (xs:List α) (s:i8) (Q:List α->i8->Prop),xs.length=n->(∀ys d,ys.Perm xs->Q ys { s with drawn:=d })->wpAny (model P w) A (drawOrder n xs) Q E s
 | 0,xs,s,Q,hl,h=>by
  obtain rfl:=a1U.mp hl
  exact d7 (h [] s.drawn (a1Q _))
 | n+1,[],s,Q,hl,h=>by cases hl
 | n+1,x::r,s,Q,hl,h=>by
  unfold drawOrder
  refine b6 (b9r (by simp) ?_)
  have hi:w.draws .order (s.drawn.get .order) % (x::r).length<(x::r).length:=Nat.mod_lt _ (by simp)
  generalize w.draws .order (s.drawn.get .order) % (x::r).length=i at hi ⊢
  rw[d4 hi]
  dsimp only
  refine b6 (b8S n _ _ _ (by rw[c1k,if_pos hi,hl];rfl) fun ys d p=>?_)
  exact d7 (h _ d ((c4j _ p).trans (a7u _ _ hi)))
theorem b8D{α:Type}(nx:Nat->Nat):∀(fuel k:Nat) (left:List α) (out:Array α),left.length=fuel->(pickOrder.go nx fuel k left out).toList.Perm (out.toList++left)
 | 0,k,left,out,hl=>by
  obtain rfl:=a1U.mp hl
  rw[a1P]
  exact a1Q _
 | fuel+1,k,left,out,hl=>by
  have hi:nx k % left.length<left.length:=Nat.mod_lt _ (by omega)
  unfold pickOrder.go
  generalize nx k % left.length=i at hi ⊢
  rw[d4 hi]
  dsimp only
  refine(b8D nx fuel (k+1) _ _ (by rw[c1k,if_pos hi,hl];rfl)).trans ?_
  rw[c4p,V2]
  exact List.Perm.append_left _ (a7u _ _ hi)
theorem b9Y{α:Type}(nx:Nat->Nat)(xs:Array α):(pickOrder nx xs).toList.Perm xs.toList:=b8D nx xs.size 0 xs.toList #[] (by simp)
structure SWk(P:C9)(w:World)(A:O0)(s s':i8)(z I:Addr)(ks:List Str):Prop where
 ex:∃(ws:List Value) (fp:List Addr) (St:Nat->Heap->Prop),Walks P w A I fp [I] ws.length (fun i v=>ws[i]? = some v) St/\St 0 s'.heap/\(∀b∈fp,b=z\/s.heap.objs.size<=b)/\(∀v∈ws,∃x t,v=.str x t)/\(ws.map strOf).Perm ks
theorem c6i{t:SetTable}(r:Stx P w ks es t){l:List (Int×Value)}(p:l.Perm es.toList):(∀v∈l.map (·.2),∃x t,v=Value.str x t)/\((l.map (·.2)).map strOf).Perm ks:=by
 refine⟨fun v hv=>?_,?_⟩
 ·obtain⟨e,he,rfl⟩:=C8.mp hv
  obtain⟨⟨k,hk,_⟩,_⟩:=r.el e (p.mem_iff.mp he)
  obtain⟨t,e'⟩:=b6U hk
  exact⟨k,t,e'⟩
 ·rw[V0]
  exact(p.map _).trans r.ks
theorem c3o{t:SetTable}{Q:Option (Value×Nat)->i8->Prop}(hb:bt w=true)(hz:s.heap.get? z=some oz)(hd:oz.data=.set es ep t)(hf:t.fits es.size=true)
  (h:Q (((pickOrder (w.params.setOrder z ep) es)[i]?).map fun e=>(e.2,0)) s):wpAny (model P w) A (setNext z 0 i ep) Q E s:=by
 unfold setNext
 refine b6 (wpAny_setState_of hz hd hf ?_)
 dsimp only
 unfold setsByText
 refine b6 (b6 (wpAny_askSetting (d7 ?_)))
 show wpAny _ _ (if bt w=true then _ else _) _ _ _
 rw[if_pos hb,if_neg (by simp)]
 refine b6 ?_
 unfold setWalk
 refine b6 (wpAny_setState_of hz hd hf ?_)
 dsimp only
 unfold setsByText
 refine b6 (b6 (wpAny_askSetting (d7 ?_)))
 show wpAny _ _ (if bt w=true then _ else _) _ _ _
 rw[if_pos hb]
 refine b6 (wpAny_askSetting (d7 ?_))
 exact d7 h
theorem c3p{sl:Nat}{t:SetTable}{Q:Option (Value×Nat)->i8->Prop}(hb:bt w=false)(hz:s.heap.get? z=some oz)(hd:oz.data=.set es ep t)(hf:t.fits es.size=true)(h1:es.size<=1)(hl:t.led=true)
  (h:Q (match es[SetTable.below t.place sl]?,t.place[SetTable.below t.place sl]? with | some (_,x),some j=>some (x,j+1) | _,_=>none) s):wpAny (model P w) A (setNext z sl i ep) Q E s:=by
 unfold setNext
 refine b6 (wpAny_setState_of hz hd hf ?_)
 dsimp only
 unfold setsByText
 refine b6 (b6 (wpAny_askSetting (d7 ?_)))
 show wpAny _ _ (if bt w=true then _ else if(!t.plain&&decide (es.size > 1))=true then _ else _) _ _ _
 rw[if_neg (by rw[hb];decide),if_neg (by simp;omega)]
 refine b6 ?_
 show wpAny _ _ (if(!t.led && !es.isEmpty)=true then _ else pure ()) _ _ _
 rw[if_neg (by rw[hl];simp)]
 exact d7 (d7 h)
theorem SIt.stay{h':Heap}{f:Value}(x:SIt h I f i z n ep)(k:∀o,h.get? I=some o->h'.get? I=some o):SIt h' I f i z n ep:=let⟨o,e,r⟩:=x; ⟨o,k _ e,r⟩
theorem b0L{f:Value}(hit:SIt s.heap I f i z n ep)(h:Q (.ref I) s):wpAny (model P w) A (pyIter (.ref I)) Q E s:=by
 refine wpAny_pyIter_slot hit.ty b2U (U0 b2U hit.ty b6X ?_ (b9D _))
 show wpAny _ _ (ret (.ref I)) _ _ s
 exact d7 ⟨_,rfl,"set_iterator",_,hit.ty,a0O.lookup,h⟩
theorem c7g{ft:Addr}{ot:Obj}{t:SetTable}{od:List Nat}(hh:A.handled=none)(nz:z≠I)(nt:ft≠I)(hd:oz.data=.set es ep t)(hf:t.fits es.size=true)(ht:ot.data=.seq (od.map fun(i:Nat)=>rawInt i).toArray)(hp:od.Perm (J2 es.size)) :
  Walks P w A I [I,z,ft] [I] (od.map fun j=>((es[j]?).map (·.2)).getD .none).length (fun i v=>(od.map fun j=>((es[j]?).map (·.2)).getD .none)[i]? = some v) (fun i h=>SIt h I (.ref ft) i z es.size ep/\h.get? z=some oz/\h.get? ft=some ot) where
 sub:=fun b hb=>by rw[d9.mp hb];exact F4
 frame:=fun i h h' st k=>⟨st.1.stay fun o e=>k I (by simp) o e,k z (by simp) _ st.2.1,k ft (by simp) _ st.2.2⟩
 item:=fun i s Q E hi st k=>by
  rw[a9]at hi
  obtain⟨j,hj⟩:∃j,od[i]? = some j:=⟨_,d4 hi⟩
  have lj:j<es.size:=U9.mp (hp.mem_iff.mp (X3 hj))
  refine b9C (v:=es[j].2) st.1 st.2.1 hd hf st.2.2 ht (j:=j) (by simp[hj,rawInt]) (by rw[E3 lj];rfl) fun h' S1 sb=>?_
  refine k _ h' s.toks (by rw[b8,hj,a2Y,E3 lj];rfl) ⟨S1,(sb.2 z nz).trans st.2.1,(sb.2 ft nt).trans st.2.2⟩ fun b o nb e=>(sb.2 b fun q=>nb (by rw[q];exact d9.mpr rfl)).trans e
 done:=fun s Q E st k=>by
  rw[a9]at st
  refine c2a hh st.1 st.2.1 hd hf st.2.2 ht (by simp) fun h' eb=>?_
  exact k h' s.toks fun b o nb e=>eb b o (fun q=>nb (by rw[q];exact d9.mpr rfl)) e
 self:=fun i s Q E st k=>b0L st.1 k
theorem c7e{t:SetTable}(hh:A.handled=none)(hb:bt w=true)(nz:z≠I)(hd:oz.data=.set es ep t)(hf:t.fits es.size=true) :
  Walks P w A I [I,z] [I] ((pickOrder (w.params.setOrder z ep) es).toList.map (·.2)).length (fun i v=>((pickOrder (w.params.setOrder z ep) es).toList.map (·.2))[i]? = some v) (fun i h=>SIt h I (.int ((0:Nat):Int) 0) i z es.size ep/\h.get? z=some oz) where
 sub:=fun b hb=>by rw[d9.mp hb];exact F4
 frame:=fun i h h' st k=>⟨st.1.stay fun o e=>k I (by simp) o e,k z (by simp) _ st.2⟩
 item:=fun i s Q E hi st k=>by
  rw[a9,E5]at hi
  refine b2T (nx:=0) (v:=(pickOrder (w.params.setOrder z ep) es)[i].2) st.1 st.2 hd hf (fun E R q=>c3o hb st.2 hd hf (by rw[E3 hi];exact q)) fun h' S1 sb=>?_
  refine k _ h' s.toks (by rw[b8,L4,E3 hi];rfl) ⟨S1,(sb.2 z nz).trans st.2⟩ fun b o nb e=>(sb.2 b fun q=>nb (by rw[q];exact d9.mpr rfl)).trans e
 done:=fun s Q E st k=>by
  rw[a9,E5]at st
  refine b5k hh st.1 st.2 hd hf (fun E R q=>c3o hb st.2 hd hf (by rw[a2h (j6 _)];exact q)) fun h' eb=>?_
  exact k h' s.toks fun b o nb e=>eb b o (fun q=>nb (by rw[q];exact d9.mpr rfl)) e
 self:=fun i s Q E st k=>b0L st.1 k
theorem b9c(xs:Array Nat):SetTable.below xs 0=0:=by
 unfold SetTable.below
 have:∀fuel hi,SetTable.below.go xs 0 fuel 0 hi=0:=by
  intro fuel
  induction fuel with
  | zero=>intro hi;rfl
  | succ n ih=>
   intro hi
   unfold SetTable.below.go
   split
   ·rw[if_neg (a3v _)];exact ih _
   ·rfl
 exact this _ _
theorem c6p{xs:Array Nat}{j:Nat}(h1:xs.size=1)(h:xs[0]? = some j):SetTable.below xs (j+1)=1:=by
 unfold SetTable.below
 rw[h1]
 unfold SetTable.below.go
 rw[if_pos (by decide)]
 show(if xs.getD 0 (j+1)<j+1 then SetTable.below.go xs (j+1) 0 1 1 else _)=1
 rw[a3w,h,if_pos (by simp)]
 rfl
theorem c7f{t:SetTable}(hh:A.handled=none)(hb:bt w=false)(nz:z≠I)(hd:oz.data=.set es ep t)(hf:t.fits es.size=true)(h1:es.size<=1)(hl:t.led=true) :
  Walks P w A I [I,z] [I] (es.toList.map (·.2)).length (fun i v=>(es.toList.map (·.2))[i]? = some v) (fun i h=>SIt h I (.int ((if i=0 then 0 else t.place.getD 0 0+1:Nat):Int) 0) i z es.size ep/\h.get? z=some oz) where
 sub:=fun b hb=>by rw[d9.mp hb];exact F4
 frame:=fun i h h' st k=>⟨st.1.stay fun o e=>k I (by simp) o e,k z (by simp) _ st.2⟩
 item:=fun i s Q E hi st k=>by
  rw[a9,E5]at hi
  obtain rfl:i=0:=by omega
  have e1:es.size=1:=by omega
  have ps:t.place.size=es.size:=by
   simp only[SetTable.fits,Z7,beq_iff_eq]at hf
   exact hf.1
  have pj:t.place[0]? = some (t.place.getD 0 0):=by
   rw[a3w,E3 (by omega)];rfl
  refine b2T (sl:=0) (nx:=t.place.getD 0 0+1) (v:=es[0].2) st.1 st.2 hd hf (fun E R q=>c3p hb st.2 hd hf h1 hl (by rw[b9c,E3 hi,pj];exact q)) fun h' S1 sb=>?_
  refine k _ h' s.toks (by rw[b8,L4,E3 hi];rfl) ⟨S1,(sb.2 z nz).trans st.2⟩ fun b o nb e=>(sb.2 b fun q=>nb (by rw[q];exact d9.mpr rfl)).trans e
 done:=fun s Q E st k=>by
  rw[a9,E5]at st
  have ps:t.place.size=es.size:=by
   simp only[SetTable.fits,Z7,beq_iff_eq]at hf
   exact hf.1
  refine b5k hh st.1 st.2 hd hf (fun E R q=>c3p hb st.2 hd hf h1 hl ?_) fun h' eb=>?_
  ·by_cases e0:es.size=0
   ·rw[if_pos e0,b9c,a2h (by omega)];exact q
   ·have pj:t.place[0]? = some (t.place.getD 0 0):=by
     rw[a3w,E3 (by omega)];rfl
    rw[if_neg e0,c6p (by omega) pj,a2h (by omega)];exact q
  ·exact k h' s.toks fun b o nb e=>eb b o (fun q=>nb (by rw[q];exact d9.mpr rfl)) e
 self:=fun i s Q E st k=>b0L st.1 k
end
section
variable {P:C9}{A:O0}{E:Value->i8->Prop}
theorem a5h.ty(h:a5h P w s.heap z ks):s.TypeIs (.ref z) "set" := let⟨o,_,_,_,ho,hx,_⟩:=h; ⟨o,ho,hx.1⟩
theorem b4m{t:SetTable}(r:Stx P w ks es t){l:List Value}(p:l.Perm (es.toList.map (·.2))):(∀v∈l,∃x t,v=Value.str x t)/\(l.map strOf).Perm ks:=by
 obtain⟨a,b⟩:=c6i r (a1Q es.toList)
 exact⟨fun v hv=>a v (p.mem_iff.mp hv),(p.map _).trans b⟩
theorem c3f{od:List Nat}(p:od.Perm (J2 es.size)):(od.map fun j=>((es[j]?).map (·.2)).getD .none).Perm (es.toList.map (·.2)):=by
 refine(p.map _).trans (List.Perm.of_eq ?_)
 refine a5k fun i=>?_
 rw[b8,b8]
 by_cases h:i<es.size
 ·have e:es.toList[i]? = some es[i]:=by simp[h]
  rw[a8D h,e]
  simp[h]
 ·rw[a2J (by simpa using h),a2J (by simpa using h)];rfl
theorem b9F{A':O0}(hh:A'.handled=none)(hS:a5h P w s.heap z ks)
  (k:∀(s':i8) (I:Addr),(∀b o,s.heap.get? b=some o->s'.heap.get? b=some o)->s'.gens=s.gens->s'.os=s.os->s'.toks=s.toks->s.heap.objs.size<=I->SWk P w A' s s' z I ks->Q (.ref I) s'):wpAny (model P w) A (pyIter (.ref z)) Q E s:=by
 obtain⟨o,es,ep,t,ho,hx,hd,r⟩:=id hS
 have hz:=j5 ho
 refine wpAny_pyIter_slot hS.ty b6G (U0 b6G hS.ty b0N ?_ (PySem.F.args_set_iter_1 _))
 unfold a3Q.«frozenset.__iter__» Builtin.Frozenset.slot0
 refine b6 (b6 (d7 (d7 ?_)))
 unfold Builtin.Frozenset.sizeOf
 refine b6 (b6 (wpAny_setEntries_of ho hd r.fit (d7 ?_)))
 unfold setDrawn
 refine b6 (b6 (wpAny_setState_of ho hd r.fit ?_))
 dsimp only
 unfold setsByText
 refine b6 (b6 (wpAny_askSetting (d7 (d7 ?_))))
 show wpAny _ _ (if(!bt w&&(!t.plain&&decide (es.size > 1)))=true then _ else _) _ _ _
 have hsc:es.size<=u8:=fits_of_scanBound r.sz
 cases hb:(!bt w&&(!t.plain&&decide (es.size > 1)))with
 | true=>
  rw[if_pos rfl]
  refine b6 (b8S es.size (J2 es.size) s _ (by simp) fun od d p=>?_)
  have lo:od.length=es.size:=by rw[p.length_eq,a2q]
  refine b6 (wpAny_newTuple ?_ (by rw[a9,lo];exact hsc))
  refine b6 (wpAny_setEpoch_of (s:={ s with heap:=_,drawn:=d }) (d5 _ ho) hd r.fit ?_)
  refine b6 (F7 (d7 ⟨_,rfl,"set_iterator",_,⟨_,l7 _ rfl,rfl⟩,a0O.lookup,?_⟩))
  refine k _ _ (fun b o e=>d5 _ (d5 _ e)) rfl rfl rfl (by show _<=(s.heap.push _).objs.size;rw[a0z];exact a3q _) ?_
  have nI:∀b,b<s.heap.objs.size+1->b≠(s.heap.push { cls:=.type "tuple",data:=.seq (od.map fun(i:Nat)=>rawInt i).toArray }).objs.size:=fun b hb=>by rw[a0z];exact u9 hb
  obtain⟨v1,v2⟩:=b4m r (c3f p)
  refine⟨_,[_,z,s.heap.objs.size],_,c7g (oz:=o) (ot:={ cls:=.type "tuple",data:=.seq (od.map fun(i:Nat)=>rawInt i).toArray }) hh (nI z (a5q hz)) (nI _ (a6f _)) hd r.fit rfl p,⟨⟨_,l7 _ rfl,rfl,rfl⟩,d5 _ (d5 _ ho),d5 _ (l7 _ rfl)⟩,fun b hb=>?_,v1,v2⟩
  simp only[j4,v8,or_false]at hb
  rcases hb with rfl | rfl | rfl
  ·exact .inr (by rw[a0z];exact a3q _)
  ·exact .inl rfl
  ·exact .inr (j6 _)
 | false=>
  rw[if_neg (by decide)]
  refine b6 (d7 ?_)
  refine b6 (wpAny_setEpoch_of ho hd r.fit ?_)
  refine b6 (F7 (d7 ⟨_,rfl,"set_iterator",_,⟨_,l7 _ rfl,rfl⟩,a0O.lookup,?_⟩))
  refine k _ _ (fun b o e=>d5 _ e) rfl rfl rfl (j6 _) ?_
  have nz:z≠s.heap.objs.size:=u9 hz
  have fp:∀b∈[s.heap.objs.size,z],b=z\/s.heap.objs.size<=b:=fun b hb=>by
   simp only[j4,v8,or_false]at hb
   rcases hb with rfl | rfl
   ·exact .inr (j6 _)
   ·exact .inl rfl
  cases hw:bt w with
  | true=>
   obtain⟨v1,v2⟩:=b4m r ((b9Y (w.params.setOrder z ep) es).map (·.2))
   exact⟨_,_,_,c7e hh hw nz hd r.fit,⟨⟨_,l7 _ rfl,rfl,rfl⟩,d5 _ ho⟩,fp,v1,v2⟩
  | false=>
   have h1:es.size<=1:=by
    rw[hw]at hb
    rcases Nat.lt_or_ge 1 es.size with q | q
    ·exfalso
     rw[r.pl (by omega),d2G q]at hb
     cases hb
    ·exact q
   obtain⟨v1,v2⟩:=b4m r (a1Q _)
   exact⟨_,_,_,c7f hh hw nz hd r.fit h1 (by rw[r.led,hw];rfl),⟨⟨_,l7 _ rfl,rfl,rfl⟩,d5 _ ho⟩,fp,v1,v2⟩
theorem c2f{Q:Bool->i8->Prop}(hS:a5h P w s.heap z ks)(h:Q false s):wpAny (model P w) A (Builtin.List.listLengthHint (.ref z)) Q E s:=by
 unfold Builtin.List.listLengthHint
 refine b6 (wpAny_specialOf hS.ty PySem.F.slot_set_len.lookup ?_)
 generalize hid:("set.__len__" : String)=id0
 wp_delta
 rw[show splitId id0=some ("set","__len__")from by subst hid;decide +kernel]
 subst hid
 refine b6 (wpAny_isInstance (T := "set") (b:=true) hS.ty (by rw[isSubtype_type];kernel_rfl) ?_)
 refine wpAny_ite_split (fun q=>absurd q (by decide)) (fun _=>?_)
 refine wpAny_ite_split (fun _=>?_) (fun q=>absurd (by decide +kernel) q)
 exact b6 (b0k hS.ty (d7 h))
theorem b5m{R:b4N->i8->Prop}{D:Addr}{res:Value}{c0:Nat}(hh:A.handled=none)(hS:a5h P w s.heap z ks)(hD:s.heap.get? D=some { cls:=.type "list",data:=.seq #[] c0 })(hl:ks.length<=u8)
  (hR:∀s' (acc:Array Value) c',(∀b o,b≠D->s.heap.get? b=some o->s'.heap.get? b=some o)->s'.gens=s.gens->s'.os=s.os->s.toks<=s'.toks->s'.heap.get? D=some { cls:=.type "list",dict:=none,data:=.seq acc c',slots := #[] }->(∀v∈acc.toList,∃x t,v=.str x t)->(acc.toList.map strOf).Perm ks->R (.ok (.ret res)) s') :
  wpAny (model P w) A.in1 (Builtin.List.listExtendWith (.ref D) (.ref z) res) (fun fin s'=>match fin with | .done f=>R (.ok f) s' | .again c'=>c'.quiet=true/\a2D (model P w) A c' R s') (fun e s'=>R (.error e) s') s:=by
 have lD:=j5 hD
 have nDz:D≠z:=fun e=>by
  obtain⟨o,es,ep,t,ho,hx,_⟩:=hS
  rw[<-e,hD]at ho
  cases ho
  exact absurd (Value.type.inj hx.1) (by decide)
 unfold Builtin.List.listExtendWith
 refine b6 (b0k (T := "set") hS.ty ?_)
 have h1:Builtin.List.listSameRef (.ref D) (.ref z)=false:=by simp[Builtin.List.listSameRef,nDz]
 have h2:(Value.type "set" == Value.type "list")=false:=by decide
 have h3:(Value.type "set" == Value.type "tuple")=false:=by decide
 simp only[h1,h2,h3,d0M,a4d,if_false]
 refine b6 (b9F (A':=A.in1) (by simpa using hh) hS fun s1 I k1 g1 o1 t1 lI W=>?_)
 obtain⟨ws,fp,St,W,st,hfp,vs,pm⟩:=W.ex
 have lw:ws.length=ks.length:=by have:=pm.length_eq;rw[a9]at this;exact this
 have Df:D∉fp:=fun h=>by
  rcases hfp D h with e | e
  ·exact nDz e
  ·exact absurd lD (Nat.not_lt.mpr e)
 have D1:=k1 _ _ hD
 have key:∀(h:Heap) (c1:Nat),St 0 h->(∀b o,b≠D->s1.heap.get? b=some o->h.get? b=some o)->h.get? D=some { cls:=.type "list",data:=.seq #[] c1 } ->
   a2D (model P w) A (.builtin "list.extend.loop" ⟨[.ref D,.ref I,res],[]⟩) R { s1 with heap:=h }:=fun h c1 hst hk hD1=>by
  refine codeAny_extend_loopS W.toS (by rw[lw];exact hl) D Df res ws.length 0 _ #[] c1 rfl (L6 _) hst hD1 (ItemsOf.nil _) fun s' acc c' hm hD' hacc=>?_
  have ea:acc.toList=ws:=by
   refine a5k fun i=>?_
   by_cases hi:i<ws.length
   ·have ha:i<acc.size:=by rw[hacc.1];exact hi
    have e1:acc[i]? = some acc[i]:=E3 ha
    rw[L4,e1]
    exact(hacc.2 i _ e1).symm
   ·rw[a2J (by rw[E5,hacc.1];omega),a2J (by omega)]
  refine hR s' acc c' (fun b o nb e=>hm.heap b o (fun hmem=>?_) (hk b o nb (k1 _ _ e))) (hm.gens.trans g1) (hm.os.trans o1) (J5 (c1b t1.symm) hm.toks) hD' (by rw[ea];exact vs) (by rw[ea];exact pm)
  rcases j4.mp hmem with q | q
  ·exact nb q
  ·exact absurd (j5 e) (by rw[d9.mp q];exact Nat.not_lt.mpr lI)
 refine b6 (Y3 (c2f (s:=s1) (hS.stay fun o e=>k1 _ _ e) ?_))
 refine wpAny_ite_split (fun _=>?_) (fun _=>d7 ⟨a3b b3p _,key s1.heap c0 st (fun b o _ e=>e) D1⟩)
 refine b6 (wpAny_rule ?_)
 refine b6 ?_
 show wpAny (model P w) _ (updateSeq D (·.push .none) >>= fun _=>updateSeq D (·.pop)) _ _ _
 refine b6 (wpAny_updateSeq D1 rfl ?_)
 have D2:=W1 (Obj.mapSeq (·.push Value.none)) D1 rfl
 refine wpAny_updateSeq (hz:=by seq_fits) D2 rfl ?_
 have D3:=W1 (Obj.mapSeq (·.pop)) D2 rfl
 have off:∀b o,b≠D->s1.heap.get? b=some o->((s1.heap.update D (Obj.mapSeq (·.push Value.none))).update D (Obj.mapSeq (·.pop))).get? b=some o:=fun b o nb e=>(a2r _ _ (Ne.symm nb)).trans ((a2r _ _ (Ne.symm nb)).trans e)
 exact d7 ⟨a3b b3p _,key _ _ (W.frame 0 _ _ st fun b hb o e=>off b o (fun q=>Df (q ▸ hb)) e) off D3⟩
theorem b3G{R:List Value->i8->Prop}(hh:A.handled=none)(hS:a5h P w s.heap z ks)(hl:ks.length<=u8)
  (h:∀s' (acc:List Value),(∀b o,s.heap.get? b=some o->s'.heap.get? b=some o)->s'.gens=s.gens->s'.os=s.os->s.toks<=s'.toks->(∀v∈acc,∃x t,v=.str x t)->(acc.map strOf).Perm ks->R acc s'):wpAny (model P w) A (collect (.ref z)) R E s:=by
 unfold collect
 refine b6 (wpAny_runValue (a0K entry_proto_collect' ?_))
 rw[Around.under_plainId PySem.F.plain_proto_collect _]
 show wpAny (model P w) A.in1 (newList [] >>= fun l=>again (.builtin "list.__iadd__" ⟨[l,.ref z],[]⟩)) _ _ s
 refine b6 (F7 ?_)
 refine d7 ⟨a3b b4K _,a0K entry_list_iadd' ?_⟩
 rw[Around.under_plainId b4K _]
 have D1:(s.heap.push { cls:=.type "list",data:=.seq ([]:List Value).toArray }).get? s.heap.objs.size=some { cls:=.type "list",data:=.seq #[] }:=l7 _ rfl
 show wpAny (model P w) A.in1 (Builtin.List.listExtendWith (.ref s.heap.objs.size) (.ref z) (.ref s.heap.objs.size)) _ _ _
 have main:=b5m (A:=A) (P:=P) (w:=w) (s:={ s with heap:=s.heap.push { cls:=.type "list",data:=.seq ([]:List Value).toArray } }) (res:=.ref s.heap.objs.size)
  (R:=fun(q:b4N) (s':i8)=>∃(acc:Array Value) (c':Nat),q=.ok (.ret (.ref s.heap.objs.size))/\(∀b o,s.heap.get? b=some o->s'.heap.get? b=some o)/\s'.gens=s.gens/\s'.os=s.os/\s.toks<=s'.toks/\s'.heap.get? s.heap.objs.size=some { cls:=.type "list",dict:=none,data:=.seq acc c',slots := #[] }/\(∀v∈acc.toList,∃x t,v=.str x t)/\(acc.toList.map strOf).Perm ks)
  hh (hS.stay fun o e=>d5 _ e) D1 hl
  (fun s' acc c' k1 g1 o1 t1 e1 v1 p1=>⟨acc,c',rfl,fun b o e=>k1 b o (u9 (j5 e)) (d5 _ e),g1,o1,t1,e1,v1,p1⟩)
 refine a0m main (fun fin s' x=>?_) fun e s' x=>?_
 ·cases fin with
  | done f=>
   obtain⟨acc,c',e,k1,g1,o1,t1,e1,v1,p1⟩:=x
   cases e
   refine b6 (m:=load s.heap.objs.size) (wpAny_load e1 ?_)
   exact d7 (h s' acc.toList k1 g1 o1 t1 v1 p1)
  | again c1=>
   refine⟨x.1,a4f x.2 fun q s2 y=>?_⟩
   obtain⟨acc,c',rfl,k1,g1,o1,t1,e1,v1,p1⟩:=y
   refine b6 (m:=load s.heap.objs.size) (wpAny_load e1 ?_)
   exact d7 (h s2 acc.toList k1 g1 o1 t1 v1 p1)
 ·obtain⟨_,_,e',_⟩:=x
  cases e'
theorem c1Z{Q:Fin->i8->Prop}{acc:List Value}{ss:List Str}(hA:StrsAre acc ss)(hl:acc.length<64)
  (h:∀(h':Heap) (ts:List Str) (out:Array Value) (e:Nat),(∀b o,s.heap.get? b=some o->h'.get? b=some o)->h'.get? s.heap.objs.size=some (seqObj "list" out e)->StrsAre out.toList ts->ts.Perm ss->sortedS ts=true->Q (.done (.ret (.ref s.heap.objs.size))) { s with heap:=h' }) :
  wpAny (model P w) A (do let l <-newList acc;let _ <-a1A [l] (call (.builtin "list.sort") [l] []);ret l) Q E s:=by
 refine b6 (wpAny_newList ?_ (by rw[sizeLine_eq];omega))
 have hL:(s.heap.push (seqObj "list" acc.toArray 0)).get? s.heap.objs.size=some (seqObj "list" acc.toArray 0):=l7 _ rfl
 show wpAny (model P w) _ _ _ _ { s with heap:=s.heap.push (seqObj "list" acc.toArray 0) }
 refine b6 (Y3 (U0 slot_list_sort ⟨_,hL,rfl⟩ entry_list_sort (list_sort_treeK strKind_oneLt hL hA.keysOf (fun v1 v2 a5Q e=>keyKind_strs (by rw[<-e];exact hA)) hl fun st pm so=>⟨_,rfl,?_⟩) (args_list_sort _)))
 refine d7 ?_
 obtain⟨ts,a1,a2,a3⟩:=sorted_out_str hA pm so
 obtain⟨e,he⟩:=sortedHeap_at (out:=(arrOf st).map (·.2)) hL
 refine h _ ts _ e (fun b o q=>?_) he a1 a2 a3
 have l1:=j5 q
 exact(sortedHeap_old (u9 l1) (by rw[size_push'];exact a5q l1)).trans (d5 _ q)
theorem b5l(hh:A.handled=none)(hS:a5h P w s.heap z ks)(hl:ks.length<64)
  (h:∀(s':i8) (p:Addr) (ts:List Str) (out:Array Value) (e:Nat),(∀b o,s.heap.get? b=some o->s'.heap.get? b=some o)->s'.gens=s.gens->s'.os=s.os->s.toks<=s'.toks->z<p->s'.heap.get? p=some (seqObj "list" out e)->StrsAre out.toList ts->ts.Perm ks->sortedS ts=true->Q (.ref p) s') :
  wpAny (model P w) A (call (.builtin "sorted") [.ref z]) Q E s:=by
 refine Calls.call_function_entry kind_sorted plain_sorted entry_sorted (args_sorted1 _) ?_
 unfold a3Q.«sorted»
 refine b6 (m:=checkCount "sorted" 1 1 _) (d7 ?_)
 refine b6 (b3G (by simpa using hh) hS (by rw[sizeLine_eq];omega) fun s1 acc k1 g1 o1 t1 v1 p1=>?_)
 have la:acc.length=ks.length:=by have:=p1.length_eq;rw[a9]at this;exact this
 have hA:=strsAre_map acc v1
 have zl:z<s1.heap.objs.size:=by
  obtain⟨o,_,_,_,ho,_⟩:=hS
  exact j5 (k1 _ _ ho)
 refine c1Z hA (by rw[la];exact hl) fun h' ts out e k2 he a1 a2 a3=>⟨_,rfl,?_⟩
 exact h { s1 with heap:=h' } s1.heap.objs.size ts out e (fun b o q=>k2 _ _ (k1 _ _ q)) g1 o1 t1 zl he a1 (a2.trans p1) a3
end
section
theorem Inv.drw(I:Inv X pins σ H s)(d:Drawn):Inv X pins σ H { s with drawn:=d }:=⟨I.ok,I.os,I.bare,I.base,I.loc,I.cell,I.free,I.freeC,I.pin,I.hok,I.len⟩
def tSS(te:TE):TE:=fun σ H Q=>te σ H fun x H1=>∃(l:Addr) (ss:List Str),x=.ref l/\H1 l=some (.lst (ss.map V.str))/\ss.length<4000/\(∀ds:List Str,ds.Nodup->(∀x∈ds,x∈ss)->ds.length<64) /\
 ∀(p:Addr) (ts:List Str),ts.Nodup->(∀x,x∈ts↔x∈ss)->sortedS ts=true->H1 p=none->Q (.ref p) (upd H1 p (.lst (ts.map V.str)))
theorem d0i{e:Expr}{te:TE}{p p' pos pos':Pos}(hc:X.calm=true)(hg:Gl X "sorted")(hm:X.mg "sorted" = none)(hv:Y5 "sorted" = some (.builtin "sorted"))(hg':Gl X "set")(hm':X.mg "set" = none)(hv':Y5 "set" = some (.type "set"))(he:PE X e te)
  (hs1:j9 [e] X.env=[(false,eval e X.env)]:=by rfl) (hs2:j9 [Expr.Call (.Name "set" p') [e] [] pos'] X.env=[(false,eval (.Call (.Name "set" p') [e] [] pos') X.env)]:=by rfl) :
  PE X (.Call (.Name "sorted" p) [.Call (.Name "set" p') [e] [] pos'] [] pos) (tSS te):=by
 intro pins s σ H Q I h
 refine a1q (a5a I hg hm hv ?_ (by decide) (by decide))
 refine a7C ?_ hs2 rfl
 rw[hs2]
 refine Calls.spliced_cons ?_
 refine a1q (a5a I hg' hm' hv' ?_ (by decide) (by decide))
 refine Q6 ?_ hs1 rfl
 rw[hs1]
 refine Calls.spliced_cons (thn (he pins s σ H _ I h) fun u s1 ⟨x,H1,I1,r1,l,ss,ex,hl,l4,l64,q⟩=>Calls.spliced_nil ?_)
 subst ex
 obtain rfl:u=Value.ref l:=r1
 obtain⟨its,rv,pl,hz⟩:=I1.list (SqL.of hl)
 have hi:=a7a rv (b0H ss)
 have hil:=rv.length
 rw[a9]at hil
 have hh:=I.ok.hd hc
 obtain⟨val,hval⟩:∃val:Nat->Str,val=fun i=>ss.getD i ⟨#[]⟩:=⟨_,rfl⟩
 have mm:∀x,x∈met val its.toArray.size↔x∈ss:=fun x=>by
  rw[b8I,hval]
  constructor
  ·rintro⟨j,hj,rfl⟩
   rw[l5]at hj
   show ss.getD j ⟨#[]⟩∈ss
   rw[a4c,d4 (show j<ss.length by omega)]
   exact E9 _
  ·intro hx
   obtain⟨j,hj,e⟩:=c1i.mp hx
   exact⟨j,by rw[l5];omega,by show ss.getD j ⟨#[]⟩=x;rw[a4c,d4 hj];exact e⟩
 refine b9G hh pl.isList (by simpa using hi) (by rw[l5];show its.length+1<4096;omega) fun h2 tk S2 kp ht lt=>Calls.spliced_nil ?_
 rw[<-hval]at S2
 refine b5l (s:={ s1 with heap:=h2,toks:=tk }) hh S2 (l64 _ (b1p _ _) fun x hx=>(mm x).mp hx) fun s3 a ts out c k3 g3 o3 t3 zl he a1 a2 a3=>?_
 obtain⟨h3,gg,dd,tt,oo⟩:=s3
 have g3:gg=s1.gens:=g3
 have o3:oo=s1.os:=o3
 subst g3 o3
 have fresh:H1 a=none:=I1.hok.fresh (a4a zl)
 have nd:ts.Nodup:=a2.nodup_iff.mpr (b1p _ _)
 have J:=(I1.laid (h':=h3) (t':=tt) (a:=a) (o:=.lst (ts.map V.str)) (fun b u z=>k3 _ _ (kp b u (j5 z) z)) (a4a zl) ⟨by rw[a9,a2.length_eq,sizeLine_eq];have:=l64 _ (b1p val its.toArray.size) fun x hx=>(mm x).mp hx;omega,out.toList,c,b2G a1,he⟩).drw dd
 exact⟨.ref a,_,J,rfl,q a ts nd (fun x=>(a2.mem_iff).trans (mm x)) a3 fresh⟩
end
section
end
section
def c7M:R2:=fun x y H Q=>∃a b xs,x=.ref a/\y=.ref b/\H a=some (.lst xs)/\H b=some (.lst [])/\Q (.bl (!decide (xs.length=0))) H
theorem c5x(hu:X.A.units<cLine):OpR X (A3 .NotEq) c7M:=by
 intro pins s σ H x y v u Q I rx ry h
 obtain⟨a,b,xs,rfl,rfl,ha,hb,q⟩:=h
 by_cases hx:xs.length=0
 ·refine c3g hu pins s σ H (.ref a) (.ref b) v u Q I rx ry ⟨true,?_,by rw[d2G hx]at q;exact q⟩
  rw[a1U.mp hx]at ha
  unfold eqO
  rw[if_neg (by intro z;cases z)]
  simp only[ha,hb]
  rfl
 ·cases rx
  cases ry
  obtain⟨us,r1,t1,_⟩:=I.list (SqL.of ha)
  obtain⟨ws,r2,t2,_⟩:=I.list (SqL.of hb)
  have l1:=r1.length
  have l2:=r2.length
  have hl2:(us.toArray.size != ws.toArray.size)=true:=by
   simp only[l5,<-l1,<-l2,a3r]
   simpa using hx
  rw[d2F hx]at q
  exact SeqAt.RcNeAt.lists_lengths (A:=X.A) t1.isList t2.isList hl2 hu _ _ _ _ ⟨.bl true,H,I,rfl,q⟩
end
end L2
namespace Y
open PySem PySem.Spec PyProof.Rows L2
structure y'E(X:Cx)(e:Expr)(t:TE):Prop where h:PE X e t
structure y'A(X:Cx)(e:List Expr)(t:TA):Prop where h:PA X e t
structure y'S(X:Cx)(e:Stmt)(t:TS):Prop where h:PS X e t
structure b1W(X:Cx)(e:List Stmt)(t:TS):Prop where h:PSs X e t
structure y'T(X:Cx)(e:Expr)(t:TT):Prop where h:PT X e t
structure y'W(X:Cx)(e:Expr)(t:TT):Prop where h:PW X e t
structure c1D(X:Cx)(e:List Expr)(t:TT):Prop where h:PTs X e t
structure b0v(X:Cx)(tg e:Expr)(t:TI):Prop where h:PI X tg e t
structure y'G(X:Cx)(e:Expr)(t:TG):Prop where h:PG X e t
structure c4v(X:Cx)(e:List Expr)(t:TGs):Prop where h:PGs X e t
structure y'O(X:Cx)(e:Option Expr)(t:TO):Prop where h:PO X e t
structure Z5(X:Cx)(f:Value->Value->Sem Value)(r:R2):Prop where h:OpR X f r
structure c6I(X:Cx)(f:Value->Sem Value)(r:V->Hp->VK->Prop):Prop where h:UnR X f r
structure a0v(X:Cx)(f:Value)(r:List V->Hp->VK->Prop):Prop where h:a0k X f r
structure a7J(X:Cx)(id:String)(r:V->List V->Hp->VK->Prop):Prop where h:MtR X id r
structure c1F(X:Cx)(r:R2):Prop where h:IxR X r
structure c1E(X:Cx)(r:V->Option Int->Option Int->Hp->VK->Prop):Prop where h:SlR X r
structure b6O(X:Cx)(t:b2t):Prop where h:c4b X t
structure c1H(X:Cx)(t:V->V->Hp->VK->Prop):Prop where h:c9d X t
structure c1G(X:Cx)(op:b1P)(t:TIp):Prop where h:PIp X op t
section
variable {X:Cx}{st:Stmt}{a5Q:List Stmt}{t u:TS}{e a b c o i:Expr}{es more:List Expr}{te ta tb tc to ti:TE}{tt tu:TT}{tr:TA}{pos p pos':Pos}{x:Str}
theorem u5:b1W X [] F0:=⟨L2.c4Z⟩
theorem c6(h1:y'S X st t)(h2:b1W X a5Q u):b1W X (st::a5Q) (A4 t u):=⟨L2.c2M h1.h h2.h⟩
theorem d3(h1:y'S X st t):b1W X [st] t:=⟨L2.c4Y h1.h⟩
theorem c1u{n:Nat}(hN:X.N.Nodup)(hi:X.N[n]? = some x)(hx:Loc X.env.scope x)(he:y'E X e te)(hs:a3a e (some (.Name x pos')) pos.line X.env=pure false:=by rfl)(hf:X.fn x=true\/X.env.scope.names.lookup x=some .local:=by first | exact .inl rfl | exact .inr rfl) :
  y'S X (.Assign [.Name x pos'] e pos) (K0 te (z8 n)):=⟨L2.c7S hN hi hx he.h hs hf⟩
theorem a4i{tg:Expr}{g:TG}(he:y'E X e te)(hg:y'G X tg g)(hs:swapsWithSole [tg] e pos.line X.env=pure false:=by rfl)(hw:swappedStores [tg] e X.env=pure none:=by rfl)
  (h1:(a1S [tg] X.env).map (·.2)=[b2z tg X.env]:=by rfl):y'S X (.Assign [tg] e pos) (K0 te g):=⟨L2.c7X he.h hg.h hs hw h1⟩
theorem b9l{tget:V->V->Hp->VK->Prop}{tip:TIp}{tset:b2t}{op:b1P}(ho:y'E X o to)(hi:y'E X i ti)(hg:c1H X tget)(he:y'E X e te)(hp:c1G X op tip)(hs:b6O X tset)
  (ha:∀ov iv new,augStore i ov iv new=(do a1A [new,ov,iv] (c7b ov iv new);release [new,ov,iv] [];pure .next):=by intros;rfl):y'S X (.AugAssign (.Subscript o i p) op e pos) (b8w to ti te tget tip tset):=⟨L2.c5c ho.h hi.h hg.h he.h hp.h hs.h ha⟩
theorem b4P{n:Nat}{op:b1P}{tip:TIp}(hN:X.N.Nodup)(hi:X.N[n]? = some x)(hx:Loc X.env.scope x)(he:y'E X e te)(ho:c1G X op tip)(hf:X.fn x=true\/X.env.scope.names.lookup x=some .local:=by first | exact .inl rfl | exact .inr rfl) :
  y'S X (.AugAssign (.Name x pos') op e pos) (c1V n te tip):=⟨L2.c7W hN hi hx he.h ho.h hf⟩
theorem A8{la lb:List Stmt}(hc:y'T X c tt)(ha:b1W X la t)(hb:b1W X lb u):y'S X (.If c la lb pos) (O8 tt t u):=⟨L2.d0f hc.h ha.h hb.h⟩
theorem o0(he:y'E X e te):y'S X (.Return (some e) pos) (K8 te):=⟨L2.c7T he.h⟩
theorem J0(he:y'E X e te)(hs:a3a e none pos.line X.env=pure false:=by rfl):y'S X (.Expr e pos) (Y7 te):=⟨L2.c5a he.h hs⟩
theorem M9{tg:Expr}{wi:TI}{g:TG}{body:List Stmt}(hp:c9A (model X.prog X.w) X.A X.env X.xe)(hc:X.calm=true)(hi:b0v X tg e wi)(hg:y'G X tg g)(hb:b1W X body t)
  (hs:∀x,a0n e X.env x=pure x:=by intro _;rfl):y'S X (.For tg e body [] pos) (a1T wi g t):=⟨L2.c7U hp hc hi.h hg.h hb.h hs⟩
theorem b9m{n:Nat}(hN:X.N.Nodup)(hi:X.N[n]? = some x)(hx:Loc X.env.scope x)(hf:X.fn x=true\/X.env.scope.names.lookup x=some .local:=by first | exact .inl rfl | exact .inr rfl):y'G X (.Name x pos) (z8 n):=⟨L2.b3W hN hi hx hf⟩
theorem a2U:c4v X [] b2p:=⟨L2.b8E⟩
theorem X2{g:TG}{gs:TGs}(h1:y'G X e g)(h2:c4v X es gs)(h:(a1S (e::es) X.env).map (·.2)=b2z e X.env::(a1S es X.env).map (·.2):=by rfl):c4v X (e::es) (a1X g gs):=⟨L2.b1c h1.h h2.h h⟩
theorem a4k{k n:Nat}{gs:TGs}(hc:X.calm=true)(h:c4v X es gs)(hn:(a1S es X.env).length=n:=by rfl)(hst:(a1S es X.env).findIdx? (·.1)=none:=by rfl):y'G X (.Tuple es k pos) (b2o X.K n gs):=⟨L2.c2S hc h.h hn hst⟩
theorem a5D{ts:b2t}(ho:y'E X o to)(hi:y'E X i ti)(hs:b6O X ts)
  (ha:∀v,b2z (.Subscript o i pos) X.env v=(do
   let ov <-a1A [v] (eval o X.env)
   let iv <-a1A [v,ov] (eval i X.env)
   b0m pos
   a1A [v,ov,iv] (c7b ov iv v)
   release [v,ov,iv] []):=by intro _;rfl):y'G X (.Subscript o i pos) (b5X to ti ts):=⟨L2.c8b ho.h hi.h hs.h ha⟩
theorem Q7{tg:Expr}(hg:Gl X "range")(hm:X.mg "range" = none)(ha:y'A X [a] tr)(hs:j9 [a] X.env=[(false,eval a X.env)]:=by rfl):b0v X tg (.Call (.Name "range" p) [a] [] pos) (a2L tr):=⟨L2.c0a hg hm ha.h hs⟩
theorem b4Q{tg:Expr}(hg:Gl X "range")(hm:X.mg "range" = none)(ha:y'A X [a,b] tr)(hs:j9 [a,b] X.env=[(false,eval a X.env),(false,eval b X.env)]:=by rfl)(hs2:j9 [b] X.env=[(false,eval b X.env)]:=by rfl):b0v X tg (.Call (.Name "range" p) [a,b] [] pos) (b8N tr):=⟨L2.b9Z hg hm ha.h hs hs2⟩
theorem F3{tg:Expr}(h:y'E X e te):b0v X tg e (X0 X.K te):=⟨L2.c5g h.h⟩
theorem c1w{tg:Expr}(h:y'E X e te):b0v X tg e (c6b X.K te):=⟨L2.c7Z h.h⟩
theorem R0:y'A X [] j3:=⟨L2.c8q⟩
theorem M0(ha:y'E X e te)(hr:y'A X es tr)(hs:j9 (e::es) X.env=(false,eval e X.env)::j9 es X.env:=by rfl):y'A X (e::es) (b9 te tr):=⟨L2.c5s ha.h hr.h hs⟩
theorem J7:c1D X [] X4:=⟨L2.c4W⟩
theorem b9k(h:y'T X e tt):c1D X [e] tt:=⟨L2.c4V h.h⟩
theorem O1{elt iter:Expr}{px:Pos}{ifs:List Expr}{scope:Scope}{wi:TI}(hc:Q5 X.N X.env.scope scope x)(hcalm:X.calm=true)(hi:b0v X (.Name x px) iter wi)
  (ht:∀cl C fp s3 H3,c1D (a0a X scope cl C x fp s3 H3) ifs tt) (he:∀cl C fp s3 H3,y'E (a0a X scope cl C x fp s3 H3) elt te)
  (hs:∀x,a0n iter X.env x=pure x:=by intro _;rfl):y'E X (.ListComp elt [⟨.Name x px,iter,ifs,0⟩] scope pos) (Y0 wi tt te):=
 ⟨L2.c5o hc hcalm hi.h (fun cl C fp s3 H3=>(ht cl C fp s3 H3).h) (fun cl C fp s3 H3=>(he cl C fp s3 H3).h) hs⟩
theorem a2M{elt iter:Expr}{px py spos:Pos}{ifs:List Expr}{scope:Scope}{wi:TI}{n:Nat}{y:Str}(hN:X.N.Nodup)(hiy:X.N[n]? = some y)(hy:X.env.scope.names.lookup y=some .local)(hc:Q5 X.N X.env.scope scope x)(hcalm:X.calm=true)(hi:b0v X (.Name x px) iter wi)
  (ht:∀cl C fp s3 H3,c1D (a0a X scope cl C x fp s3 H3) ifs tt) (he:∀cl C fp s3 H3,y'E (a0a X scope cl C x fp s3 H3) elt te)
  (hsw:a3a (.ListComp elt [⟨.Name x px,iter,ifs,0⟩] scope pos) (some (.Name y py)) spos.line X.env=pure true:=by rfl)
  (hs:∀x,a0n iter X.env x=pure x:=by intro _;rfl) :
  y'S X (.Assign [.Name y py] (.ListComp elt [⟨.Name x px,iter,ifs,0⟩] scope pos) spos) (fun D σ H=>Y0 wi tt te σ H fun v H1=>D.nx (σ.set n (some v)) H1):=
 ⟨L2.b7t hN hiy hy hc hcalm hi.h (fun cl C fp s3 H3=>(ht cl C fp s3 H3).h) (fun cl C fp s3 H3=>(he cl C fp s3 H3).h) hsw hs⟩
theorem c7{n:Int}{j}:y'E X (.Constant (.int n) j pos) (tC (.int n)):=⟨L2.c8l⟩
theorem O6{v:Bool}{j}:y'E X (.Constant (.bool v) j pos) (tC (.bl v)):=⟨L2.d0o⟩
theorem a4l{j}:y'E X (.Constant .none j pos) (tC .non):=⟨L2.c8i⟩
theorem C3{j}:y'E X (.Constant (.str x) j pos) (tC (.str x)):=⟨L2.c8e⟩
theorem c9(n:Nat)(hN:X.N[n]? = some x:=by rfl)(hv:Vis X.env.scope x:=by first | exact Or.inl rfl | exact Or.inr (Or.inl rfl) | exact Or.inr (Or.inr rfl))(hd:(x == ("__debug__" : Str))=false:=by decide)
  (hcd:(x == ("__classdict__" : Str))=false:=by decide):y'E X (.Name x pos) (c8 n):=⟨L2.c8c hN hv hd hcd⟩
theorem Q9{v:V}{u:Value}(hg:Gl X x)(hm:X.mg x=none)(hv:Y5 x=some u)(r:K5 v u)(hn:x ≠ "__name__" := by decide)(hd:(x == ("__debug__" : Str))=false:=by decide):y'E X (.Name x pos) (tC v):=⟨L2.c5r hg hm hv r hn hd⟩
theorem V5{v:V}(hm:∃u,X.mg x=some u/\K5 v u)(hg:Gl X x)(hd:(x == ("__debug__" : Str))=false:=by decide):y'E X (.Name x pos) (tC v):=by
 obtain⟨u,h1,h2⟩:=hm
 exact⟨L2.c5l hg h1 h2 hd⟩
theorem F5{op:b1P}{r:R2}(ho:Z5 X (a0i op) r)(ha:y'E X a ta)(hb:y'E X b tb):y'E X (.BinOp a op b pos) (tOp r ta tb):=⟨L2.d0k ho.h ha.h hb.h⟩
theorem a7G{op:UnaryOp}{r:V->Hp->VK->Prop}(ho:c6I X (unaryOp op) r)(ha:y'E X a ta):y'E X (.UnaryOp op a pos) (tUn r ta):=⟨L2.d0h ho.h ha.h⟩
theorem b4R(ha:y'E X a ta):y'E X (.UnaryOp .Not a pos) (b2N ta):=⟨L2.c8h ha.h⟩
theorem a2a{op:CmpOp}{r:R2}(ho:Z5 X (A3 op) r)(ha:y'E X a ta)(hb:y'E X b tb)(hm:W3 op b=false):y'E X (.Compare a [op] [b] pos) (tOp r ta tb):=⟨L2.c5p ho.h ha.h hb.h hm⟩
theorem T6{op:CmpOp}{r:R2}(ho:Z5 X (A3 op) r)(ha:y'E X a ta)(hb:y'E X b tb)(hm:W3 op b=false):y'T X (.Compare a [op] [b] pos) (E6 (tOp r ta tb)):=⟨L2.c4X ho.h ha.h hb.h hm⟩
theorem b0r{op op':CmpOp}{r r':R2}(ho:Z5 X (A3 op) r)(ho':Z5 X (A3 op') r')(ha:y'E X a ta)(hb:y'E X b tb)(hc:y'E X c tc)
  (hm:c9z [op,op'] [b,c]=false:=by with_unfolding_all rfl):y'E X (.Compare a [op,op'] [b,c] pos) (a5L r r' ta tb tc):=⟨L2.c2Z ho.h ho'.h ha.h hb.h hc.h hm⟩
theorem b6L{op op':CmpOp}{r r':R2}(ho:Z5 X (A3 op) r)(ho':Z5 X (A3 op') r')(ha:y'E X a ta)(hb:y'E X b tb)(hc:y'E X c tc)
  (hm:c9z [op,op'] [b,c]=false:=by with_unfolding_all rfl):y'T X (.Compare a [op,op'] [b,c] pos) (E6 (a5L r r' ta tb tc)):=⟨L2.c2L ho.h ho'.h ha.h hb.h hc.h hm⟩
theorem Y6{op}(h:y'E X a te):y'E X (.BoolOp op [a] pos) te:=⟨L2.c8g h.h⟩
theorem W7(ha:y'E X a ta)(hb:y'E X (.BoolOp .And (b::more) pos) tb):y'E X (.BoolOp .And (a::b::more) pos) (a1d ta tb):=⟨L2.c8p ha.h hb.h⟩
theorem c4r(ha:y'E X a ta)(hb:y'E X (.BoolOp .Or (b::more) pos) tb):y'E X (.BoolOp .Or (a::b::more) pos) (c4x ta tb):=⟨L2.d0j ha.h hb.h⟩
theorem a4E(hc:y'T X c tt)(ha:y'E X a ta)(hb:y'E X b tb):y'E X (.IfExp c a b pos) (tIf tt ta tb):=⟨L2.c2V hc.h ha.h hb.h⟩
theorem Q8{k}(h:y'A X es tr):y'E X (.Tuple es k pos) (a2E tr):=⟨L2.c8d h.h⟩
theorem D9(h:y'A X es tr):y'E X (.List es pos) (a0o tr):=⟨L2.c8k h.h⟩
theorem a8H:y'O X none a6k:=⟨L2.c5f⟩
theorem a8G(h:y'E X e te):y'O X (some e) (b2M te):=⟨L2.c5e h.h⟩
theorem a6X{lo hi:Option Expr}{tl th:TO}{r:V->Option Int->Option Int->Hp->VK->Prop}(hr:c1E X r)(he:y'E X e te)(hl:y'O X lo tl)(hu:y'O X hi th):y'E X (.Subscript e (.Slice lo hi none p) pos) (tSl r te tl th):=⟨L2.c2T hr.h he.h hl.h hu.h⟩
theorem a6i{r:R2}(hr:c1F X r)(ha:y'E X a ta)(hb:y'E X b tb)(hs:b4E b):y'E X (.Subscript a b pos) (tOp r ta tb):=⟨L2.d0m hr.h ha.h hb.h hs⟩
theorem c1y{k j:Nat}{ps:List Str}{sp:Sp}(C:F6 X.prog X.w X.K X.mg X.base k x ps sp)(hr:V6 j X.A)(hk:k<=j)(hg:Gl X x)(ha:y'A X (e::es) tr)
  (hdb:(x == ("__debug__" : Str))=false:=by decide) (he:j9 (e::es) X.env=(false,eval e X.env)::j9 es X.env:=by rfl) (hpl:(a0u pos (j9 es X.env)).any (·.1)=false:=by rfl) :
  y'E X (.Call (.Name x p) (e::es) [] pos) (C0 sp [] E0 tr):=⟨L2.c8f C hr hk hg ha.h hdb he hpl⟩
theorem l6{id:String}{r:List V->Hp->VK->Prop}(hc:a0v X (.builtin id) r)(hg:Gl X x)(hm:X.mg x=none)(hv:Y5 x=some (.builtin id))(ha:y'A X (e::es) tr)(hn:x ≠ "__name__" := by decide)(hdb:(x == ("__debug__" : Str))=false:=by decide)
  (he:j9 (e::es) X.env=(false,eval e X.env)::j9 es X.env:=by rfl) (hpl:(a0u pos (j9 es X.env)).any (·.1)=false:=by rfl):y'E X (.Call (.Name x p) (e::es) [] pos) (tCB r tr):=⟨L2.c3a hc.h hg hm hv ha.h hn hdb he hpl⟩
theorem W6{id:String}{r:List V->Hp->VK->Prop}(hc:a0v X (.type id) r)(hg:Gl X x)(hm:X.mg x=none)(hv:Y5 x=some (.type id))(ha:y'A X (e::es) tr)(hn:x ≠ "__name__" := by decide)(hdb:(x == ("__debug__" : Str))=false:=by decide)
  (he:j9 (e::es) X.env=(false,eval e X.env)::j9 es X.env:=by rfl) (hpl:(a0u pos (j9 es X.env)).any (·.1)=false:=by rfl):y'E X (.Call (.Name x p) (e::es) [] pos) (tCB r tr):=⟨L2.c0b hc.h hg hm hv ha.h hn hdb he hpl⟩
theorem X1{ty id:String}{name:Str}{r:V->List V->Hp->VK->Prop}{apos:Pos}(pa:c6G ty)(slot:Slot ty name id)(hty:typeOf (.builtin id)=pure (.type "method_descriptor"))(hm:a7J X id r)(ho:y'E X o to)(ha:y'A X (e::es) tr)
  (hbase:a0Z o name X.env (eval o X.env)=eval o X.env:=by rfl)
  (hfew:((a0u pos (j9 (e::es) X.env)).all (fun x => !x.1)&&(a6J pos (a1z [] X.env)).all (fun x=>x.1.isSome)
   && decide ((e::es).length+([]:List b3u).length+(if([]:List b3u).isEmpty then 0 else 1)<30))=true:=by rfl)
  (hline:(apos.endLine == pos.line)=true:=by rfl) (hs:j9 (e::es) X.env=(false,eval e X.env)::j9 es X.env:=by rfl) (hplain:(a0u pos (j9 es X.env)).any (·.1)=false:=by rfl) :
  y'E X (.Call (.Attribute o name apos) (e::es) [] pos) (tBM X.K ty r to tr):=⟨L2.d0n pa slot hty hm.h ho.h ha.h hbase hfew hline hs hplain⟩
theorem O3(ha:y'T X a tt):y'T X (.UnaryOp .Not a pos) (a2t tt):=⟨L2.c7R ha.h⟩
theorem a4h(ha:y'T X a tt):y'W X (.BoolOp .And [a] pos) tt:=⟨L2.c4S ha.h⟩
theorem W5(ha:y'T X a tt):y'W X (.BoolOp .Or [a] pos) tt:=⟨L2.c7O ha.h⟩
theorem a5C(ha:y'T X a tt)(hb:y'W X (.BoolOp .And (b::more) pos) tu):y'W X (.BoolOp .And (a::b::more) pos) (b5i tt tu):=⟨L2.c7P ha.h hb.h⟩
theorem Z2(ha:y'T X a tt)(hb:y'W X (.BoolOp .Or (b::more) pos) tu):y'W X (.BoolOp .Or (a::b::more) pos) (tOr tt tu):=⟨L2.d0e ha.h hb.h⟩
theorem U6(h:y'W X e tt):y'T X e tt:=⟨PW.pt h.h⟩
theorem M8(h:y'E X e te)(he:∀whole,isTrue e X.env whole=(do let v <-whole;b0m e.pos;a1A [v] (truthy v)):=by intro _;rfl):y'T X e (tB te):=⟨L2.c7Q h.h he⟩
theorem T9:Z5 X (a0i .Add) a3m:=⟨L2.c5E⟩
theorem a2V:Z5 X (a0i .Sub) b5z:=⟨L2.c5t⟩
theorem a2W:Z5 X (a0i .Mult) b5A:=⟨L2.c5y⟩
theorem a1r:Z5 X (a0i .Mod) b2f:=⟨L2.c5z⟩
theorem b2F:Z5 X (a0i .FloorDiv) c4R:=⟨L2.c5D⟩
theorem b9n:Z5 X (a0i .Pow) c7L:=⟨L2.c5u⟩
theorem F8{k:Nat}(hr:V6 k X.A):Z5 X (A3 .Eq) qEq:=⟨L2.c8x hr.units0⟩
theorem a5F{k:Nat}(hr:V6 k X.A):Z5 X (A3 .NotEq) qNe:=⟨L2.c3g hr.units0⟩
theorem a0b:a0v X (.type "list") a3H:=⟨L2.b8c⟩
theorem a3h:Z5 X (A3 .Lt) qLt:=⟨L2.c8s⟩
theorem a7H:Z5 X (A3 .LtE) qLe:=⟨L2.c8t⟩
theorem a4o:Z5 X (A3 .Gt) qGt:=⟨L2.c8v⟩
theorem c1C:Z5 X (A3 .GtE) qGe:=⟨L2.c8w⟩
theorem a4n:Z5 X (A3 .In) (qIn false):=⟨L2.c8u⟩
theorem a9y:Z5 X (A3 .NotIn) (qIn true):=⟨L2.c0d⟩
theorem a5G:Z5 X (A3 .IsNot) b0Z:=⟨L2.c0e⟩
theorem b0p:y'E X (.Dict [] [] pos) b0E:=⟨L2.c2X⟩
theorem a6j{k:Nat}(hr:V6 k X.A)(ho:y'E X o to)(hi:y'E X i ti)(hs:c9e i):y'E X (.Subscript o i pos) (b0F to ti):=⟨L2.c5n (b5W hr) ho.h hi.h hs⟩
theorem c1A{k:Nat}(hr:V6 k X.A)(hi:y'E X i ti)(ho:y'E X o to)(h1:W3 .In o=false):y'E X (.Compare i [.In] [o] pos) (b3A ti to):=⟨L2.c8n (L2.c3b (b5W hr) hi.h ho.h) h1⟩
theorem b4O{k:Nat}(hr:V6 k X.A)(hi:y'E X i ti)(ho:y'E X o to)(h1:W3 .In o=false):y'T X (.Compare i [.In] [o] pos) (tB (b3A ti to)):=⟨L2.c2K (L2.c3b (b5W hr) hi.h ho.h) h1⟩
theorem a2T{k:Nat}(hr:V6 k X.A)(ho:y'E X o to)(hi:y'E X i ti)(hv:y'E X e te)(hs:a3a e (some (.Subscript o i pos')) pos.line X.env=pure false:=by rfl):y'S X (.Assign [.Subscript o i pos'] e pos) (a3G to ti te):=⟨L2.c5b (b5W hr) ho.h hi.h hv.h hs⟩
theorem c1x{tg:Expr}(h:y'E X e te):b0v X tg e (c6c te):=⟨L2.c8a h.h⟩
theorem a3x(hc:X.calm=true):a0v X (.builtin "all") b1a:=⟨L2.c0T hc⟩
theorem a5B:c6I X (unaryOp .USub) (rU fun i=>.int (-i)):=⟨L2.c7h⟩
theorem c7d:c1F X qIx:=⟨L2.d1n⟩
theorem c1t:c1E X qSl:=⟨L2.d1b⟩
theorem b9j:c1E X (c7D X.K):=⟨L2.b8y⟩
theorem a6h:b6O X a8U:=⟨L2.c9D⟩
theorem c4t:c1H X b9V:=⟨L2.d0B⟩
theorem b0t:c1G X .Add (ipI fun i j=>i+j):=⟨L2.c8V⟩
theorem A1:a0v X (.builtin "len") Z3:=⟨L2.c0Q⟩
theorem b4X:a0v X (.builtin "abs") c2H:=⟨L2.c0U⟩
theorem M6:a0v X (.builtin "isinstance") a3s:=⟨L2.c0R⟩
theorem M3:a7J X "list.append" U7:=⟨L2.b7J⟩
theorem b6N:a7J X "str.join" b2Z:=⟨L2.c3t⟩
end
theorem b4U{P:C9}{w:World}{K:Fg}{mg:Str->Option Value}{base:Heap}{x qual:Str}{st:Stmt}{f:Addr}{fd:a0G}{N ps:List Str}{k:Nat}{sp:Sp}(F:Fun K x qual st f fd)(y'S:C4 N ps (j8 st))(len:∀vs H Q y'E,sp vs H Q y'E->vs.length=ps.length)
  (hbody:∀(cdv:Value) (y'A:O0) (outer:List Env) (s:i8) (H:Hp) (vs:List V) (Q:VK) (y'E:XK),V6 k (y'A.deeper (b4M qual (j8 st) s.heap.objs.size f cdv))->sp vs H Q y'E ->
   ∃t,b1W (b6e CX0 P w K mg base N qual (j8 st) f cdv y'A outer s H y'E).nox (a1K st) t/\t { nx:=fun _ H'=>Q .non H',rt:=Q } (a7U N vs) H):N4 P w K mg base CX0 (k+1) f fd ps sp:=
 F.ok y'S len fun cdv y'A outer s H vs Q y'E hr h=>let⟨t,a,b⟩:=hbody cdv y'A outer s H vs Q y'E hr h; ⟨t,a.h,b⟩
end Y
namespace Y
open PySem PySem.Spec PyProof.Rows L2
section
variable {X:Cx}{st:Stmt}{a5Q:List Stmt}{t u:TS}{e a b c o i:Expr}{es more:List Expr}{te ta tb tc to ti:TE}{tt tu:TT}{tr:TA}{pos p pos':Pos}{x y:Str}
theorem a4j{elts:List Expr}{x1}{tp:Pos}(hg:Gl X "enumerate")(hm:X.mg "enumerate" = none)(ha:y'A X [a] tr)(hs:j9 [a] X.env=[(false,eval a X.env)]:=by rfl) :
  b0v X (.Tuple elts x1 tp) (.Call (.Name "enumerate" p) [a] [] pos) (a9I X.K tr):=⟨L2.c5h hg hm ha.h hs⟩
theorem c1v{elts:List Expr}{x1}{tp:Pos}(hg:Gl X "zip")(hm:X.mg "zip" = none)(ha:y'A X [a,b] tr)(hs:j9 [a,b] X.env=[(false,eval a X.env),(false,eval b X.env)]:=by rfl)(hs2:j9 [b] X.env=[(false,eval b X.env)]:=by rfl) :
  b0v X (.Tuple elts x1 tp) (.Call (.Name "zip" p) [a,b] [] pos) (c6a X.K tr):=⟨L2.c7Y hg hm ha.h hs hs2⟩
theorem b0q{elt iter:Expr}{px py pt:Pos}{kt}{ifs:List Expr}{scope:Scope}{wi:TI}(hc:a5i X.N X.env.scope scope x y)(hcalm:X.calm=true)(hi:b0v X (.Tuple [.Name x px,.Name y py] kt pt) iter wi)
  (ht:∀cl C fp s3 H3,c1D (X8 X scope cl C x y fp s3 H3) ifs tt) (he:∀cl C fp s3 H3,y'E (X8 X scope cl C x y fp s3 H3) elt te)
  (hs:∀x,a0n iter X.env x=pure x:=by intro _;rfl):y'E X (.ListComp elt [⟨.Tuple [.Name x px,.Name y py] kt pt,iter,ifs,0⟩] scope pos) (b0G X.K wi tt te):=
 ⟨L2.c2Y hc hcalm hi.h (fun cl C fp s3 H3=>(ht cl C fp s3 H3).h) (fun cl C fp s3 H3=>(he cl C fp s3 H3).h) hs⟩
theorem a3e{body:List Stmt}(hp:c9A (model X.prog X.w) X.A X.env X.xe)(hc:y'T X c tt)(hb:b1W X body t):y'S X (.While c body [] pos) (a5K tt t):=⟨L2.c2N hp hc.h hb.h⟩
theorem a3f{e c:Option Expr}:y'S X (.Raise e c pos) (fun _ _ _=>False):=⟨L2.c2O⟩
theorem V3{f:Str}(he:y'E X e te)(hb:a0Z e f X.env (eval e X.env)=eval e X.env:=by rfl):y'E X (.Attribute e f pos) (a3S X.K te f):=⟨L2.c8m he.h hb⟩
theorem b0n{f:Str}(ha:y'E X o to)(hv:y'E X e te)(hs:a3a e (some (.Attribute o f pos')) pos.line X.env=pure false:=by rfl):y'S X (.Assign [.Attribute o f pos'] e pos) (b9R X.K to te f):=⟨L2.c7V ha.h hv.h hs⟩
theorem c4s{k j:Nat}{C:Addr}{ps:List Str}{sp:Sp}(M:b6B X.prog X.w X.K X.mg X.base k x C ps sp)(hr:V6 j X.A)(hk:k+1<=j)(hg:Gl X x)(ha:y'A X (e::es) tr)
  (hdb:(x == ("__debug__" : Str))=false:=by decide) (he:j9 (e::es) X.env=(false,eval e X.env)::j9 es X.env:=by rfl) (hpl:(a0u pos (j9 es X.env)).any (·.1)=false:=by rfl) :
  y'E X (.Call (.Name x p) (e::es) [] pos) (b0D C sp [] E0 tr):=⟨L2.d0l M hr hk hg ha.h hdb he hpl⟩
theorem a3g{pl:Sem Bool}{k j:Nat}{m:Str}{C:Addr}{ps:List Str}{sp:Sp}{apos:Pos}(M:a1N X.prog X.w X.K X.mg X.base k m C ps sp)(hr:V6 j X.A)(hk:k<=j)(ho:y'E X o to)(ha:y'A X (e::es) tr)
  (hst:j9 (e::es) X.env=(false,eval e X.env)::j9 es X.env:=by rfl) (hpl:(a0u pos (j9 es X.env)).any (·.1)=false:=by rfl)
  (ht:eval (.Call (.Attribute o m apos) (e::es) [] pos) X.env=(do
   let ov <-eval o X.env
   b0m apos.atName
   let(f,first) <-a1A [ov] (a7F ov m pl)
   c1f pos f first (a0u pos (j9 (e::es) X.env)) (a6J pos (a1z [] X.env))):=by rfl) :
  y'E X (.Call (.Attribute o m apos) (e::es) [] pos) (a1c C m sp [] E0 to tr):=⟨L2.c8j (pl:=pl) M hr hk ho.h ha.h hst hpl ht⟩
theorem a1Z{pl:Sem Bool}{k j:Nat}{m:Str}{C:Addr}{ps:List Str}{sp:Sp}{apos:Pos}(M:a1N X.prog X.w X.K X.mg X.base k m C ps sp)(hr:V6 j X.A)(hk:k<=j)(ho:y'E X o to)
  (ht:eval (.Call (.Attribute o m apos) [] [] pos) X.env=(do
   let ov <-eval o X.env
   b0m apos.atName
   let(f,first) <-a1A [ov] (a7F ov m pl)
   c1f pos f first (a0u pos (j9 [] X.env)) (a6J pos (a1z [] X.env))):=by rfl) :
  y'E X (.Call (.Attribute o m apos) [] [] pos) (a1c C m sp [] E0 to j3):=⟨L2.c5i (pl:=pl) M hr hk ho.h ht⟩
theorem b0s{ty id:String}{name:Str}{r:V->List V->Hp->VK->Prop}{apos:Pos}(pa:c6G ty)(slot:Slot ty name id)(hty:typeOf (.builtin id)=pure (.type "method_descriptor"))(hm:a7J X id r)(ho:y'E X o to)
  (hbase:a0Z o name X.env (eval o X.env)=eval o X.env:=by rfl) (hline:(apos.endLine == pos.line)=true:=by rfl):y'E X (.Call (.Attribute o name apos) [] [] pos) (b9A X.K ty r to):=⟨L2.c8o pa slot hty hm.h ho.h hbase hline⟩
structure c4u(X:Cx)(pos:Pos)(ks:List (Option Expr))(vs:List Expr)(trs:List (TE×TE)):Prop where h:PPs X pos ks vs trs
theorem b2A:c4u X pos [] [] []:=⟨L2.c5d⟩
theorem b0o{ks:List (Option Expr)}{vs:List Expr}{trs:List (TE×TE)}(hk:y'E X a ta)(hv:y'E X b tb)(hr:c4u X pos ks vs trs):c4u X pos (some a::ks) (b::vs) ((ta,tb)::trs):=⟨L2.c2Q hk.h hv.h hr.h⟩
theorem b2B{keys:List (Option Expr)}{values:List Expr}{trs:List (TE×TE)}(h:c4u X pos keys values trs)(hall:keys.all (·.isSome)=true:=by rfl)(hl:keys.length=values.length:=by rfl)(h0:keys≠[]:=by intro z;cases z)
  (h15:keys.length<=15:=by decide):y'E X (.Dict keys values pos) (b5h trs):=⟨L2.c5m h.h hall hl h0 h15⟩
theorem a0L{k:Nat}(hr:V6 k X.A)(hi:y'E X i ti)(ho:y'E X o to)(h1:W3 .NotIn o=false):y'T X (.Compare i [.NotIn] [o] pos) (tB (a1C ti to)):=⟨L2.c2K (L2.c0c (b5W hr) hi.h ho.h) h1⟩
theorem b4V(hc:X.calm=true):a0v X (.builtin "min") c2E:=⟨L2.c0P hc⟩
theorem b4W(hc:X.calm=true):a0v X (.builtin "any") b7r:=⟨L2.c0S hc⟩
theorem b0u:a0v X (.builtin "sorted") a6v:=⟨L2.b4t⟩
theorem b1U(hc:X.calm=true):a0v X (.type "list") a8V:=⟨L2.b6r hc⟩
theorem b3x:a0v X (.builtin "isinstance") (c2G X.K):=⟨L2.b8e⟩
theorem b4S:a7J X "list.index" a8W:=⟨L2.c0q⟩
theorem a4F:a7J X "list.extend" a3I:=⟨L2.b7I⟩
theorem b9q:a7J X "list.pop" b9U:=⟨L2.c5P⟩
theorem b4T:a7J X "list.clear" a8X:=⟨L2.c0r⟩
theorem b2D{k:Nat}(hr:V6 k X.A):Z5 X (A3 .Eq) (c4P X.K):=⟨L2.c5B hr⟩
theorem a4m{k:Nat}(hr:V6 k X.A):Z5 X (A3 .NotEq) (b7o X.K):=⟨L2.c5v hr⟩
theorem b2E{k:Nat}(hr:V6 k X.A):Z5 X (A3 .Eq) (c4Q X.K):=⟨L2.c5C hr⟩
theorem b2C{k:Nat}(hr:V6 k X.A):Z5 X (A3 .NotEq) (c4O X.K):=⟨L2.c5w hr⟩
theorem b3w:a0v X (.builtin "len") (c2F X.K):=⟨L2.b8d⟩
theorem b1S:a7J X "list.reverse" a4t:=⟨L2.b5P⟩
theorem b9p:Z5 X (A3 .In) (c7N X.K):=⟨L2.c5A⟩
theorem a7I:c1F X (b7q X.K):=⟨L2.d0z⟩
end
end Y
namespace Y
open PySem PySem.Spec PyProof.Rows L2
end Y
namespace Y
open PySem PySem.Spec PyProof.Rows L2
theorem b1V{X:Cx}(hc:X.calm=true):a0v X (.type "dict") b3T:=⟨L2.b6s hc⟩
end Y
namespace Y
open PySem PySem.Spec PyProof.Rows L2
end Y
namespace Y
open PySem PySem.Spec PyProof.Rows L2
end Y
namespace Y
open PySem PySem.Spec PyProof.Rows L2
end Y
namespace Y
open PySem PySem.Spec PyProof.Rows L2
section
variable {X:Cx}{e0 e1 e2 e3 e4:Expr}{t0 t1 t2 t3 t4:TE}
theorem o6(h0:y'E X e0 t0)(s0:j9 [e0] X.env=(false,eval e0 X.env)::j9 [] X.env:=by rfl):y'A X [e0] (b9 t0 j3):=(M0 h0 R0 s0)
theorem C5(h0:y'E X e0 t0)(h1:y'E X e1 t1)(s0:j9 [e0,e1] X.env=(false,eval e0 X.env)::j9 [e1] X.env:=by rfl)(s1:j9 [e1] X.env=(false,eval e1 X.env)::j9 [] X.env:=by rfl):y'A X [e0,e1] (b9 t0 (b9 t1 j3)):=(M0 h0 (M0 h1 R0 s1) s0)
theorem a5E(h0:y'E X e0 t0)(h1:y'E X e1 t1)(h2:y'E X e2 t2)(s0:j9 [e0,e1,e2] X.env=(false,eval e0 X.env)::j9 [e1,e2] X.env:=by rfl)(s1:j9 [e1,e2] X.env=(false,eval e1 X.env)::j9 [e2] X.env:=by rfl)(s2:j9 [e2] X.env=(false,eval e2 X.env)::j9 [] X.env:=by rfl):y'A X [e0,e1,e2] (b9 t0 (b9 t1 (b9 t2 j3))):=(M0 h0 (M0 h1 (M0 h2 R0 s2) s1) s0)
theorem c1B(h0:y'E X e0 t0)(h1:y'E X e1 t1)(h2:y'E X e2 t2)(h3:y'E X e3 t3)(s0:j9 [e0,e1,e2,e3] X.env=(false,eval e0 X.env)::j9 [e1,e2,e3] X.env:=by rfl)(s1:j9 [e1,e2,e3] X.env=(false,eval e1 X.env)::j9 [e2,e3] X.env:=by rfl)(s2:j9 [e2,e3] X.env=(false,eval e2 X.env)::j9 [e3] X.env:=by rfl)(s3:j9 [e3] X.env=(false,eval e3 X.env)::j9 [] X.env:=by rfl):y'A X [e0,e1,e2,e3] (b9 t0 (b9 t1 (b9 t2 (b9 t3 j3)))):=(M0 h0 (M0 h1 (M0 h2 (M0 h3 R0 s3) s2) s1) s0)
theorem b8l(h0:y'E X e0 t0)(h1:y'E X e1 t1)(h2:y'E X e2 t2)(h3:y'E X e3 t3)(h4:y'E X e4 t4)(s0:j9 [e0,e1,e2,e3,e4] X.env=(false,eval e0 X.env)::j9 [e1,e2,e3,e4] X.env:=by rfl)(s1:j9 [e1,e2,e3,e4] X.env=(false,eval e1 X.env)::j9 [e2,e3,e4] X.env:=by rfl)(s2:j9 [e2,e3,e4] X.env=(false,eval e2 X.env)::j9 [e3,e4] X.env:=by rfl)(s3:j9 [e3,e4] X.env=(false,eval e3 X.env)::j9 [e4] X.env:=by rfl)(s4:j9 [e4] X.env=(false,eval e4 X.env)::j9 [] X.env:=by rfl):y'A X [e0,e1,e2,e3,e4] (b9 t0 (b9 t1 (b9 t2 (b9 t3 (b9 t4 j3))))):=(M0 h0 (M0 h1 (M0 h2 (M0 h3 (M0 h4 R0 s4) s3) s2) s1) s0)
end
end Y
local macro_rules | `(tactic| walk_at "sc") => `(tactic| exact ⟨rfl, rfl, rfl, by decide +kernel, rfl, by decide +kernel, by decide +kernel⟩)
namespace Y
open PySem PySem.Spec PyProof.Rows L2
section
variable {X:Cx}{e a b o:Expr}{es:List Expr}{te ta tb to:TE}{tr:TA}{pos p pos':Pos}{x:Str}
theorem A9(n:Nat)(hN:X.N.Nodup)(he:y'E X e te)(hi:X.N[n]? = some x:=by rfl)(hx:Loc X.env.scope x:=by first | exact Or.inl rfl | exact Or.inr rfl)(hs:a3a e (some (.Name x pos')) pos.line X.env=pure false:=by rfl)(hf:X.fn x=true\/X.env.scope.names.lookup x=some .local:=by first | exact .inl rfl | exact .inr rfl) :
  y'S X (.Assign [.Name x pos'] e pos) (K0 te (z8 n)):=c1u hN hi hx he hs hf
theorem Q4(n:Nat)(hN:X.N.Nodup)(hi:X.N[n]? = some x:=by rfl)(hx:Loc X.env.scope x:=by first | exact Or.inl rfl | exact Or.inr rfl)(hf:X.fn x=true\/X.env.scope.names.lookup x=some .local:=by first | exact .inl rfl | exact .inr rfl):y'G X (.Name x pos) (z8 n):=b9m hN hi hx hf
theorem v7{k j:Nat}{ps:List Str}{sp:Sp}(C:F6 X.prog X.w X.K X.mg X.base k x ps sp)(hr:V6 j X.A)(ha:y'A X (e::es) tr)(hk:k<=j:=by decide)(hg:Gl X x:=by rfl)
  (hdb:(x == ("__debug__" : Str))=false:=by decide) (he:j9 (e::es) X.env=(false,eval e X.env)::j9 es X.env:=by rfl) (hpl:(a0u pos (j9 es X.env)).any (·.1)=false:=by rfl) :
  y'E X (.Call (.Name x p) (e::es) [] pos) (C0 sp [] E0 tr):=c1y C hr hk hg ha hdb he hpl
theorem c1z{k j:Nat}{C:Addr}{ps:List Str}{sp:Sp}(M:b6B X.prog X.w X.K X.mg X.base k x C ps sp)(hr:V6 j X.A)(ha:y'A X (e::es) tr)(hk:k+1<=j:=by decide)(hg:Gl X x:=by rfl)
  (hdb:(x == ("__debug__" : Str))=false:=by decide) (he:j9 (e::es) X.env=(false,eval e X.env)::j9 es X.env:=by rfl) (hpl:(a0u pos (j9 es X.env)).any (·.1)=false:=by rfl) :
  y'E X (.Call (.Name x p) (e::es) [] pos) (b0D C sp [] E0 tr):=c4s M hr hk hg ha hdb he hpl
theorem u0(ha:y'E X a ta)(hb:y'E X b tb)(hs:b4E b:=by exact fun _ _=>rfl):y'E X (.Subscript a b pos) (tOp qIx ta tb):=a6i c7d ha hb hs
theorem a6Y{op:CmpOp}{r:R2}(ho:Z5 X (A3 op) r)(ha:y'E X a ta)(hb:y'E X b tb)(hm:W3 op b=false:=by exact a1J _):y'E X (.Compare a [op] [b] pos) (tOp r ta tb):=a2a ho ha hb hm
theorem J4{op:CmpOp}{r:R2}(ho:Z5 X (A3 op) r)(ha:y'E X a ta)(hb:y'E X b tb)(hm:W3 op b=false:=by exact a1J _):y'T X (.Compare a [op] [b] pos) (E6 (tOp r ta tb)):=T6 ho ha hb hm
end
end Y
namespace Y
open PySem PySem.Spec PyProof.Rows L2
section
variable {X:Cx}{e o i:Expr}{te to ti:TE}{t:TS}{pos p:Pos}{k:Nat}
theorem b6M:y'E X (.Dict [] [] pos) b6T:=⟨L2.c2W⟩
theorem b1T(hc:X.calm=true):a0v X (.type "list") b7p:=⟨L2.b6q hc⟩
end
end Y
namespace Y
open PySem PySem.Spec PyProof.Rows L2
end Y
namespace Y
open PySem PySem.Spec PyProof.Rows L2
section
variable {X:Cx}{i o:Expr}{ti to:TE}{pos:Pos}{k:Nat}
end
end Y
namespace Y
open PySem PySem.Spec PyProof.Rows L2
section
variable {X:Cx}{k:Nat}
end
end Y
namespace Y
open PySem PySem.Spec PyProof.Rows L2
section
variable {X:Cx}{e o i:Expr}{te to ti:TE}{t:TS}{pos p:Pos}{k:Nat}
end
end Y
namespace Y
open PySem PySem.Spec PyProof.Rows L2
section
variable {X:Cx}{k:Nat}
theorem c4q{e:Expr}{te:TE}{p p' pos pos':Pos}(hc:X.calm=true)(hg:Gl X "sorted")(hm:X.mg "sorted" = none)(hv:Y5 "sorted" = some (.builtin "sorted"))(hg':Gl X "set")(hm':X.mg "set" = none)(hv':Y5 "set" = some (.type "set"))(he:y'E X e te)
  (hs1:j9 [e] X.env=[(false,eval e X.env)]:=by rfl) (hs2:j9 [Expr.Call (.Name "set" p') [e] [] pos'] X.env=[(false,eval (.Call (.Name "set" p') [e] [] pos') X.env)]:=by rfl) :
  y'E X (.Call (.Name "sorted" p) [.Call (.Name "set" p') [e] [] pos'] [] pos) (tSS te):=⟨L2.d0i hc hg hm hv hg' hm' hv' he.h hs1 hs2⟩
end
end Y
namespace Y
open PySem PySem.Spec PyProof.Rows L2
section
variable {X:Cx}{k:Nat}
theorem b9o(hr:V6 k X.A):Z5 X (A3 .NotEq) c7M:=⟨L2.c5x hr.units0⟩
end
end Y
namespace RD
open PySem PySem.Spec L2
variable{C a b c d dx l na p ra w:Addr}{H H' H0 H1:Hp}{o:HO}{xs ys:List V}{i j m n t0:Nat}{D:b1I}{σ:St}{ta te:TE}{tt:TT}{Q:VK}{v:V}{z:Str}{ss:List Str}{QD:Hp->Prop}{R:It->Hp->Prop}{ks:List (List Key)}{M N:Nt}{ns:List Int}{as ps rs vs:List Addr}{Z:Addr->Prop}{RC:Nat->List V}{Do:Nat->Bool}{kvs:List (Key×V)}
def G0(b:Addr)(H H':Hp):Prop:=(∀a o,H a=some o->a≠b->H' a=some o)/\∀o,H b=some o->∃o',H' b=some o'
theorem G0.refl(b:Addr)(H:Hp):G0 b H H:=⟨fun _ _ h _=>h,fun o h=>⟨o,h⟩⟩
theorem G0.trans{H2:Hp}(x:G0 b H H1)(y:G0 b H1 H2):G0 b H H2:=
 ⟨fun a o h n=>y.1 a o (x.1 a o h n) n,fun o h=>let⟨o',h'⟩:=x.2 o h;y.2 o' h'⟩
theorem G0.upd(b:Addr)(H:Hp)(o:HO):G0 b H (upd H b o):=⟨fun a u h n=>by rw[j7 n];exact h,fun _ _=>⟨o,d8⟩⟩
theorem G0.new(h:H p=none):G0 b H (L2.upd H p o):=
 ⟨fun a u e _=>by rw[j7 (d6 e h)];exact e,fun u e=>⟨u,by rw[j7 (d6 e h)];exact e⟩⟩
theorem G0.of_same(s:A0 H H'):G0 b H H':=⟨fun a o h _=>s a o h,fun o h=>⟨o,s _ _ h⟩⟩
theorem D0(h:H p=none):A0 H (L2.upd H p o):=fun a u e=>by rw[j7 (d6 e h)];exact e
theorem G0.none(k:G0 b H H')(h:H' p=Option.none):H p=Option.none:=by
 cases e:H p with
 | none=>rfl
 | some o=>
  by_cases z:p=b
  ·subst z
   obtain⟨o',h'⟩:=k.2 o e
   rw[h]at h'
   cases h'
  ·rw[k.1 p o e z]at h
   cases h
theorem G0.tup{b a:Addr}{H H':Hp}{xs ys:List V}(k:G0 b H H')(hb:H b=some (.lst ys))(h:H a=some (.tup xs)):H' a=some (.tup xs):=
 k.1 a _ h (S8 h hb (by intro z;cases z))
structure Bag(H:Hp)(b c:Addr):Prop where
 ex:∃(i0 i1 i2:Int) (ns:List Int),H b=some (.lst [.int i0,.int i1,.int i2,.ref c])/\H c=some (.lst (ns.map V.int))/\0<=i0/\0<=i1/\i1<2147483647/\0<=i2/\∀x∈ns,0<=x
theorem Bag.lst{H:Hp}{b c:Addr}(h:Bag H b c):∃xs,H b=some (.lst xs):=by
 obtain⟨i0,i1,i2,ns,h,_⟩:=h.ex
 exact⟨_,h⟩
theorem Bag.same(h:Bag H b c)(s:A0 H H'):Bag H' b c:=by
 obtain⟨i0,i1,i2,ns,h1,h2,r⟩:=h.ex
 exact⟨i0,i1,i2,ns,s _ _ h1,s _ _ h2,r⟩
theorem Bag.new(h:Bag H b c)(n:H p=none):Bag (L2.upd H p o) b c:=h.same (D0 n)
theorem Bag.put(h:Bag H b c)(n1:p≠b)(n2:p≠c):Bag (L2.upd H p o) b c:=by
 obtain⟨i0,i1,i2,ns,h1,h2,r⟩:=h.ex
 exact⟨i0,i1,i2,ns,by rw[j7 n1.symm];exact h1,by rw[j7 n2.symm];exact h2,r⟩
theorem Bag.nb(h:Bag H b c)(n:H p=none):p≠b/\p≠c:=by
 obtain⟨i0,i1,i2,ns,h1,h2,r⟩:=h.ex
 exact⟨(d6 h1 n).symm,(d6 h2 n).symm⟩
theorem G0.put(k:G0 b H H')(n:H p=Option.none):G0 b H (L2.upd H' p o):=
 ⟨fun a u e z=>by rw[j7 (d6 e n)];exact k.1 a u e z,fun u e=>by
  obtain⟨o',h⟩:=k.2 u e
  exact⟨o',by rw[j7 (d6 e n)];exact h⟩⟩
theorem a0p{α:Type}(a:α)(r:List α):atI (a::r) 0=some a:=by
 have := @R5 α (a::r) 0 a rfl
 simpa using this
theorem a2z{α:Type}(a b:α)(r:List α):atI (a::b::r) 1=some b := @R5 α (a::b::r) 1 b rfl
theorem b6x{α:Type}(a b c:α)(r:List α):atI (a::b::c::r) 2=some c := @R5 α (a::b::c::r) 2 c rfl
theorem d0J{α:Type}(a b c d:α)(r:List α):atI (a::b::c::d::r) 3=some d := @R5 α (a::b::c::d::r) 3 d rfl
theorem a3Z{α:Type}{xs:List α}{i:Int}(h0:0<=i)(h1:i<xs.length):∃v,atI xs i=some v/\xs[i.toNat]? = some v:=by
 have hl:i.toNat<xs.length:=by omega
 have e:xs[i.toNat]? = some (xs[i.toNat]'hl):=by simp[hl]
 refine⟨_,?_,e⟩
 have:=R5 e
 rwa [Int.toNat_of_nonneg h0]at this
section
variable {t u:TS}{tb tc to ti:TE}{tu:TT}{tr:TA}{QB:Bool->Hp->Prop}{QA:List V->Hp->Prop}{QO:Option Int->Hp->Prop}{x y:V}{i j:Int}{r r':R2}{K:Fg}
theorem X5(h:t { D with nx:=u D } σ H):A4 t u D σ H:=h
theorem a2K{P:St->Hp->Prop}(tail:∀σ H,P σ H->u D σ H)(main:∀nx:St->Hp->Prop,(∀σ H,P σ H->nx σ H)->t { D with nx:=nx } σ H):A4 t u D σ H:=main _ tail
theorem c2v{g:TG}(h:te σ H fun x H1=>g x σ H1 D.nx):K0 te g D σ H:=h
theorem b3Q{QS:St->Hp->Prop}(h:QS (σ.set n (some v)) H):z8 n v σ H QS:=h
theorem c2r{QS:St->Hp->Prop}{ts:b2t}(h:to σ H fun o H1=>ti σ H1 fun i H2=>ts o i v H2 fun H3=>QS σ H3):b5X to ti ts v σ H QS:=h
theorem c9H(h:te σ H D.rt):K8 te D σ H:=h
theorem b7j(h:te σ H fun _ H1=>D.nx σ H1):Y7 te D σ H:=h
theorem c9N(h:tt σ H fun b H1=>if b=true then t D σ H1 else u D σ H1):O8 tt t u D σ H:=h
theorem c2o(h:D.nx σ H):F0 D σ H:=h
theorem c7n(h:te σ H fun x H'=>∃k,x=.bl k/\QB k H'):E6 te σ H QB:=h
theorem c9G(h:te σ H fun x H'=>∃k,x=.bl k/\QB k H'):tB te σ H QB:=h
theorem c9J(h:tt σ H fun c H1=>QB (!c) H1):a2t tt σ H QB:=h
theorem c9Q(h:tt σ H fun c H1=>if c=true then tu σ H1 QB else QB false H1):b5i tt tu σ H QB:=h
theorem d1f(h:tt σ H fun c H1=>if c=true then QB true H1 else tu σ H1 QB):tOr tt tu σ H QB:=h
theorem c7x(h:ta σ H fun x H1=>∃c,x=.bl c/\if c=true then tb σ H1 Q else Q (.bl false) H1):a1d ta tb σ H Q:=h
theorem c9I(h:ta σ H fun x H1=>∃c,x=.bl c/\if c=true then Q (.bl true) H1 else tb σ H1 Q):c4x ta tb σ H Q:=h
theorem c7r(h:ta σ H fun x H1=>∃c,x=.bl c/\Q (.bl (!c)) H1):b2N ta σ H Q:=h
theorem c9M(h:tt σ H fun c H1=>if c=true then ta σ H1 Q else tb σ H1 Q):tIf tt ta tb σ H Q:=h
theorem c7q(h:ta σ H fun x H1=>tb σ H1 fun y H2=>r x y H2 Q):tOp r ta tb σ H Q:=h
theorem c4J(h:ta σ H fun x H1=>tb σ H1 fun y H2=>r x y H2 fun z H3=>∃k,z=.bl k/\(if k=true then tc σ H3 fun w' H4=>r' y w' H4 Q else Q (.bl false) H3)):a5L r r' ta tb tc σ H Q:=h
theorem d1c{f:V->Hp->VK->Prop}(h:ta σ H fun x H1=>f x H1 Q):tUn f ta σ H Q:=h
theorem c9K(h:Q (.int (-i)) H):rU (fun i=>.int (-i)) (.int i) H Q:=⟨i,rfl,h⟩
theorem a3D(e:σ[n]? = some (some v))(h:Q v H):c8 n σ H Q:=⟨v,e,h⟩
theorem s_c(h:Q v H):tC v σ H Q:=h
theorem a8T(h:te σ H fun x H1=>tr σ H1 fun xs H2=>QA (x::xs) H2):b9 te tr σ H QA:=h
theorem b5v(h:QA [] H):j3 σ H QA:=h
theorem c7v{sp:Sp}{E:XK}(h:tr σ H fun vs H1=>sp (vs++[]) H1 Q E):C0 sp [] E tr σ H Q:=h
theorem c9O{f:List V->Hp->VK->Prop}(h:tr σ H fun vs H1=>f vs H1 Q):tCB f tr σ H Q:=h
def New(o:HO)(n:Nat)(H:Hp)(Q:VK):Prop:=n<=u8/\∀p,H p=none->Q (.ref p) (upd H p o)
theorem E7(hl:n<=100000)(h:∀p H',H p=none->H' p=some o->A0 H H'->Q (.ref p) H'):New o n H Q:=
 ⟨J5 hl (by rw[a4D];decide),fun p hp=>h p _ hp d8 (D0 hp)⟩
theorem c6N(h:tr σ H fun xs H1=>New (.tup xs) xs.length H1 Q):a2E tr σ H Q:=h
theorem c9L(h:tr σ H fun xs H1=>New (.lst xs) xs.length H1 Q):a0o tr σ H Q:=h
theorem d1e{f:V->Option Int->Option Int->Hp->VK->Prop}{tl th:TO}(h:te σ H fun x H1=>tl σ H1 fun l H2=>th σ H2 fun u H3=>f x l u H3 Q):tSl f te tl th σ H Q:=h
theorem c7p(h:te σ H fun x H1=>∃i,x=.int i/\QO (some i) H1):b2M te σ H QO:=h
theorem c2n(h:QO none H):a6k σ H QO:=h
theorem b7f(h:QB true H):X4 σ H QB:=h
theorem a4O{f:V->List V->Hp->VK->Prop}(h:to σ H fun x H1=>tyV K "list" x H1/\tr σ H1 fun xs H2=>f x xs H2 Q):tBM K "list" f to tr σ H Q:=h
theorem c9P{s:Str}{f:V->List V->Hp->VK->Prop}(h:tr σ H fun xs H2=>f (.str s) xs H2 Q):tBM K "str" f (tC (.str s)) tr σ H Q:=⟨rfl,h⟩
theorem c7w{tget:V->V->Hp->VK->Prop}{tip:TIp}{tset:b2t}(h:to σ H fun o H1=>ti σ H1 fun i H2=>tget o i H2 fun x H3=>te σ H3 fun y H4=>tip x y H4 fun z H5=>tset o i z H5 fun H6=>D.nx σ H6):b8w to ti te tget tip tset D σ H:=h
theorem d0c(h:Q (.int (i+j)) H):a3m (.int i) (.int j) H Q:=h
theorem b7m{a b:Str}(hl:a.length+b.length<=u8)(h:Q (.str (a++b)) H):a3m (.str a) (.str b) H Q:=⟨hl,h⟩
theorem b7n(ha:H a=some (.lst xs))(hb:H b=some (.lst ys))(h:New (.lst (xs++ys)) (xs.length+ys.length) H Q):a3m (.ref a) (.ref b) H Q:=by
 unfold a3m
 simp only[ha,hb]
 exact h
theorem c7I{g:Int->Int->V}(h:Q (g i j) H):b5B g (.int i) (.int j) H Q:=h
theorem a2w{C:Int->Int->Prop}{g:Int->Int->V}(hc:C i j)(h:Q (g i j) H):q2I C g (.int i) (.int j) H Q:=⟨hc,h⟩
theorem d1k{f:Int->Int->Int}(h:Q (.int (f i j)) H):ipI f (.int i) (.int j) H Q:=⟨i,j,rfl,rfl,h⟩
theorem F1(hp:H p=some (.lst xs))(he:atI xs i=some v)(h:Q v H):qIx (.ref p) (.int i) H Q:=by
 unfold qIx
 simp only[hp]
 exact⟨v,he,h⟩
theorem M7(hp:H p=some (.tup xs))(he:atI xs i=some v)(h:Q v H):qIx (.ref p) (.int i) H Q:=by
 unfold qIx
 simp only[hp]
 exact⟨v,he,h⟩
theorem c2C{c:Nat}(hz:z.length<=u8)(he:atI z.cps.toList i=some c)(h:Q (.str ⟨#[c]⟩) H):qIx (.str z) (.int i) H Q:=⟨hz,c,he,h⟩
theorem b8B{QH:Hp->Prop}{k:Nat}(hp:H p=some (.lst xs))(he:ixN xs.length i=some k)(h:QH (upd H p (.lst (xs.set k v)))):a8U (.ref p) (.int i) v H QH:=by
 unfold a8U
 simp only[hp]
 exact⟨k,he,h⟩
theorem d0a(hp:H p=some (.lst xs))(h0:0<=i)(he:xs[i.toNat]? = some v)(h:Q v H):b9V (.ref p) (.int i) H Q:=by
 unfold b9V
 simp only[hp]
 exact⟨h0,v,he,h⟩
theorem R6(hp:H p=some (.lst xs))(h:Q (.int xs.length) H):Z3 [.ref p] H Q:=by
 unfold Z3
 simp only[hp]
 exact h
theorem a5R(hp:H p=some (.tup xs))(h:Q (.int xs.length) H):Z3 [.ref p] H Q:=by
 unfold Z3
 simp only[hp]
 exact h
theorem c7G(hz:z.length<=u8)(h:Q (.int z.length) H):Z3 [.str z] H Q:=⟨hz,h⟩
theorem d0d(h:Q (.int (if i<0 then -i else i)) H):c2H [.int i] H Q:=h
theorem d1l(hs:b5n x y=true)(h:Q (.bl (decide (x=y))) H):qEq x y H Q:=⟨_,if_pos hs,h⟩
theorem d1j(hs:b5n x y=true)(h:Q (.bl (!decide (x=y))) H):qNe x y H Q:=⟨_,if_pos hs,h⟩
theorem b8R(ha:H a=some (.lst xs))(hb:H b=some (.lst ys))(fx:xs.all V4=true)(fy:ys.all V4=true):eqO (.ref a) (.ref b) H=some (a1m xs ys):=by
 unfold eqO
 rw[if_neg (by intro z;cases z)]
 simp only[ha,hb]
 rw[if_pos ⟨fx,fy⟩]
theorem a8h(hp:H p=some (.tup xs))(hx:V4 x=true)(ha:xs.all V4=true)(h:Q (.bl (inV x xs)) H):qIn false x (.ref p) H Q:=by
 unfold qIn
 cases x <;> first | (simp only[hp];exact⟨hx,ha,h⟩) | cases hx
theorem c7F(hp:H p=some (.lst xs))(hx:V4 x=true)(ha:xs.all V4=true)(h:Q (.bl (!inV x xs)) H):qIn true x (.ref p) H Q:=by
 unfold qIn
 cases x <;> first | (simp only[hp];exact⟨hx,ha,h⟩) | cases hx
theorem Y9(hp:H l=some (.lst xs))(hl:xs.length<u8)(h:Q .non (upd H l (.lst (xs++[y])))):U7 (.ref l) [y] H Q:=by
 unfold U7
 simp only[hp]
 exact⟨hl,h⟩
theorem c9W{lo hi:Option Int}(ha:H a=some (.tup xs))(hw:¬(HT.sIx xs.length 0 lo=0/\HT.sIx xs.length xs.length hi=xs.length))(h:∀p H',H p=none->H' p=some (.tup (a7v xs lo hi))->A0 H H'->Q (.ref p) H'):qSl (.ref a) lo hi H Q:=by
 unfold qSl
 simp only[ha]
 exact⟨hw,fun p hp=>h p _ hp d8 (D0 hp)⟩
theorem c9X{lo hi:Option Int}(ha:H a=some (.lst xs))(h:∀p H',H p=none->H' p=some (.lst (a7v xs lo hi))->A0 H H'->Q (.ref p) H'):qSl (.ref a) lo hi H Q:=by
 unfold qSl
 simp only[ha]
 exact fun p hp=>h p _ hp d8 (D0 hp)
theorem a1W{s c:String}(e:a1B x H=some s)(hc:c∈a9i)(h:Q (.bl (b7S s c)) H):a3s [x,.ty c] H Q:=⟨s,e,hc,h⟩
theorem c7H{s:Str}(hp:H l=some (.lst xs))(e:a3T xs=some ss)(hl:(ss.map (·.length)).sum+ss.length * s.length<=16777216)(h:Q (.str (Txt.join s ss)) H):b2Z (.str s) [.ref l] H Q:=by
 unfold b2Z
 simp only[hp]
 exact⟨ss,e,hl,h⟩
end
section
variable {D:Addr}{K:Fg}
theorem a4y{lo:Int}(Pv:Nat->List V->Hp->Prop)(h0:Pv 0 [] (upd H1 D (.lst [])))(hP:∀i ys H,Pv i ys H->H D=some (.lst ys))
  (step:∀i ys H2,i<n->Pv i ys H2->∀R:VK,(∀y H5,H5 D=some (.lst ys)->ys.length<u8->Pv (i+1) (ys++[y]) (upd H5 D (.lst (ys++[y])))->R y H5)->te (some (.int (lo+i))::σ) H2 R)
  (done:∀ys H2,Pv n ys H2->QD H2) :
  ∃W:Nat->Nat->List V->Hp->Prop,(∃m,W 0 m [] (upd H1 D (.lst [])))/\∀i m ys H2,W i m ys H2->H2 D=some (.lst ys) /\
   (((Itr lo n).stop i H2 /\ QD H2) \/ ((Itr lo n).go i H2 /\ ∀ x H3,(Itr lo n).yld i H2 x H3 -> X4 (some x :: σ) H3 fun ok H4 => if ok = true then
     te (some x::σ) H4 (fun y H5=>H5 D=some (.lst ys)/\ys.length<u8/\∃m',m'<m/\W (i+1) m' (ys++[y]) (upd H5 D (.lst (ys++[y]))))
     else ∃m',m'<m/\W (i+1) m' ys H4)):=by
 refine⟨fun i m ys H=>m=n - i/\i<=n/\Pv i ys H,⟨n,rfl,L6 _,h0⟩,?_⟩
 rintro i m ys H2 ⟨rfl,hi,p⟩
 refine⟨hP i ys H2 p,?_⟩
 by_cases hlt:i<n
 ·refine .inr ⟨hlt,fun x H3 y=>?_⟩
  obtain⟨e,y⟩:=y
  subst e y
  refine b7f ?_
  rw[if_pos rfl]
  exact step i ys _ hlt p _ fun y H5 h1 h2 h3=>⟨h1,h2,n - (i+1),by omega,rfl,hlt,h3⟩
 ·have e:i=n:=by omega
  subst e
  exact .inl ⟨j6 _,done ys H2 p⟩
theorem Z0(Pv:Nat->List V->Hp->Prop)(h0:Pv 0 [] (upd H1 D (.lst [])))(hP:∀i ys H,Pv i ys H->H D=some (.lst ys))(hl:∀i ys H,i<=xs.length->Pv i ys H->SqL K H a xs)
  (step:∀i x ys H2,xs[i]? = some x->Pv i ys H2->∀R:VK,(∀y H5,H5 D=some (.lst ys)->ys.length<u8->Pv (i+1) (ys++[y]) (upd H5 D (.lst (ys++[y])))->R y H5)->te (some x::σ) H2 R)
  (done:∀ys H2,Pv xs.length ys H2->QD H2) :
  ∃W:Nat->Nat->List V->Hp->Prop,(∃m,W 0 m [] (upd H1 D (.lst [])))/\∀i m ys H2,W i m ys H2->H2 D=some (.lst ys) /\
   (((Itl K a).stop i H2 /\ QD H2) \/ ((Itl K a).go i H2 /\ ∀ x H3,(Itl K a).yld i H2 x H3 -> X4 (some x :: σ) H3 fun ok H4 => if ok = true then
     te (some x::σ) H4 (fun y H5=>H5 D=some (.lst ys)/\ys.length<u8/\∃m',m'<m/\W (i+1) m' (ys++[y]) (upd H5 D (.lst (ys++[y]))))
     else ∃m',m'<m/\W (i+1) m' ys H4)):=by
 refine⟨fun i m ys H=>m=xs.length - i/\i<=xs.length/\Pv i ys H,⟨xs.length,rfl,L6 _,h0⟩,?_⟩
 rintro i m ys H2 ⟨rfl,hi,p⟩
 refine⟨hP i ys H2 p,?_⟩
 have q:=hl i ys H2 hi p
 by_cases hlt:i<xs.length
 ·refine .inr ⟨⟨xs,xs[i],q,by simp[hlt]⟩,fun x H3 y=>?_⟩
  obtain⟨e,y⟩:=y
  subst e
  refine b7f ?_
  rw[if_pos rfl]
  exact step i x ys _ (y xs q) p _ fun y H5 h1 h2 h3=>⟨h1,h2,xs.length - (i+1),by omega,rfl,hlt,h3⟩
 ·have e:i=xs.length:=by omega
  subst e
  exact .inl ⟨⟨xs,q,j6 _⟩,done ys H2 p⟩
theorem Z9{wi:TI}(h:wi σ H1 fun J H1=>∀D,H1 D=none->∃W:Nat->Nat->List V->Hp->Prop,
 (∃m,W 0 m [] (upd H1 D (.lst [])))/\∀i m ys H2,W i m ys H2->H2 D=some (.lst ys) /\
  ((J.stop i H2 /\ Q (.ref D) H2) \/ (J.go i H2 /\ ∀ x H3,J.yld i H2 x H3 -> tt (some x :: σ) H3 fun ok H4 => if ok = true then
    te (some x::σ) H4 (fun y H5=>H5 D=some (.lst ys)/\ys.length<u8/\∃m',m'<m/\W (i+1) m' (ys++[y]) (upd H5 D (.lst (ys++[y]))))
    else ∃m',m'<m/\W (i+1) m' ys H4))):Y0 wi tt te σ H1 Q:=h
theorem a2b{ta:TA}(h:ta σ H1 fun vs H2=>∃j:Int,vs=[.int j] /\ -(2 ^ 62)<=j/\j<2 ^ 62/\R (Itr 0 j.toNat) H2):a2L ta σ H1 R:=h
theorem W9(h:ta σ H1 fun x H2=>∃a,x=.ref a/\(∃xs,SqL K H2 a xs)/\R (Itl K a) H2):X0 K ta σ H1 R:=h
theorem a0E{wi:TI}{g:TG}{tb:TS}{D:b1I}(h:wi σ H1 fun J H1=>∃W:Nat->Nat->St->Hp->Prop,(∃m,W 0 m σ H1)/\∀i m σ H,W i m σ H ->
 (J.stop i H/\D.nx σ H)\/(J.go i H/\∃N:St->Hp->Prop,(∀σ' H',N σ' H'->∃m',m'<m/\W (i+1) m' σ' H')/\∀x H',J.yld i H x H'->g x σ H' fun σ2 H2=>tb { D with nx:=N,ct:=N,bk:=D.nx } σ2 H2)):a1T wi g tb D σ H1:=h
end
def L0(H H':Hp):Prop:=∀a xs,H a=some (.tup xs)->H' a=some (.tup xs)
theorem L0.trans{H2:Hp}(x:L0 H H1)(y:L0 H1 H2):L0 H H2:=fun a xs h=>y a xs (x a xs h)
theorem L0.put(h:H p=some (.lst ys)):L0 H (upd H p o):=fun a xs e=>by
 rw[j7 (S8 e h (by intro z;cases z))];exact e
theorem A0.ts(s:A0 H H'):L0 H H':=fun a xs h=>s a _ h
theorem G0.ts(k:G0 b H H')(hB:Bag H b c):L0 H H':=fun a xs h=>by
 obtain⟨ys,hb⟩:=hB.lst
 exact k.tup hb h
def OpV(v:V):Prop:=(∃s,v=.str s)\/∃n:Int,v=.int n/\0<=n/\n<1000000000000
def c9k(H:Hp)(p:Addr):Prop:=∃k v1 v2,H p=some (.tup [.str k,v1,v2])/\OpV v1/\OpV v2/\k∈(["plus","minus","times","less","same"]:List Str)
inductive b3o(H:Hp):List V->Prop
 | set (n:Str) (p:Addr):c9k H p->b3o H [.str "set",.str n,.ref p]
 | copy (n:Str) (v:V):OpV v->b3o H [.str "copy",.str n,v]
 | take (n:Str):b3o H [.str "take",.str n]
 | tell (v:V):OpV v->b3o H [.str "tell",v]
 | ask (v:V):OpV v->b3o H [.str "ask",v]
 | skip:b3o H [.str "skip"]
structure d1x(H:Hp)(a:Addr):Prop where
 ex:∃ss:List Str,H a=some (.lst (ss.map V.str))/\ss≠[]/\ss.length<=8
theorem small(h:n<=100000):n<=u8:=J5 h (by rw[a4D];decide)
theorem J8(h:n<100000):n<u8:=D7 h (by rw[a4D];decide)
theorem K9{c:Bool}{A B:Prop}(hc:c=true)(h:A):if c=true then A else B:=by rw[if_pos hc];exact h
theorem C7{c:Bool}{A B:Prop}(hc:c=false)(h:B):if c=true then A else B:=by rw[hc];exact L2.c8U h
section
variable {t u:TS}{tb tc to ti:TE}{tu:TT}{tr:TA}{QB:Bool->Hp->Prop}{QA:List V->Hp->Prop}{x y:V}{i j:Int}{K:Fg}
theorem c2s(h:∀p H',H p=none->H' p=some (.dK [])->A0 H H'->Q (.ref p) H'):b0E σ H Q:=fun p hp=>h p _ hp d8 (D0 hp)
theorem c2t(h:ti σ H fun y H1=>to σ H1 fun x H2=>∃a o,x=.ref a/\a3u H2 a y o/\Q (.bl o.isSome) H2):b3A ti to σ H Q:=h
theorem a3k(h:ti σ H fun y H1=>to σ H1 fun x H2=>∃a o,x=.ref a/\a3u H2 a y o/\Q (.bl (!o.isSome)) H2):a1C ti to σ H Q:=h
theorem a8R(h:te σ H fun v H1=>to σ H1 fun x H2=>ti σ H2 fun y H3=>∃a H4,x=.ref a/\a9U H3 a y v H4/\D.nx σ H4):a3G to ti te D σ H:=h
theorem a1V{f:Str}(h:ta σ H fun x H1=>∃a C dx fs v,x=.ref a/\H1 a=some (.ins C dx fs)/\Cls K C/\a3p K C f/\fs.lookup f=some v/\Q v H1):a3S K ta f σ H Q:=h
theorem b7h{f:Str}(h:te σ H fun y H1=>ta σ H1 fun x H2=>∃a C dx fs,x=.ref a/\H2 a=some (.ins C dx fs)/\Cls K C/\a3p K C f/\fs.length<1000/\D.nx σ (upd H2 a (.ins C dx (a3t f y fs)))):b9R K ta te f D σ H:=h
theorem a1G{m:Str}{sp:Sp}{E:XK}(h:ta σ H fun x H1=>∃a dx fs,x=.ref a/\H1 a=some (.ins C dx fs)/\fs.lookup m=none/\tr σ H1 fun vs H2=>sp (x::(vs++[])) H2 Q E):a1c C m sp [] E ta tr σ H Q:=h
theorem c2q{sp:Sp}{E:XK}(h:tr σ H fun vs H1=>∀x dx,H1 x=none->H1 dx=none->dx≠x ->
 sp (.ref x::(vs++[])) (upd (upd H1 dx (.own x)) x (.ins C dx [])) (fun v H2=>v=.non/\Q (.ref x) H2) E):b0D C sp [] E tr σ H Q:=h
theorem c2u{f:V->List V->Hp->VK->Prop}(h:to σ H fun x H1=>tyV K "list" x H1/\f x [] H1 Q):b9A K "list" f to σ H Q:=h
theorem V7(h:H p=some (.lst xs)):tyV K "list" (.ref p) H:=.inl ⟨rfl,xs,SqL.of h⟩
theorem a6t{a b:Nat}{QS:St->Hp->Prop}(hp:SqT K H p [x,y])(h:QS ((σ.set a (some x)).set b (some y)) H):b2o K 2 (a1X (z8 a) (a1X (z8 b) b2p)) (.ref p) σ H QS:=
 ⟨p,_,rfl,hp,rfl,_,_,rfl,_,_,rfl,rfl,h⟩
theorem a8d(h:tr σ H fun vs H1=>∃a,vs=[.ref a]/\(∃xs,SqL K H1 a xs)/\R (Ite K a) H1):a9I K tr σ H R:=h
theorem c7s(h:tr σ H fun vs H1=>∃a b,vs=[.ref a,.ref b]/\(∃xs,SqL K H1 a xs)/\(∃xs,SqL K H1 b xs)/\R (Itz K a b) H1):c6a K tr σ H R:=h
theorem a8a(h:∃W:Nat->St->Hp->Prop,(∃m,W m σ H)/\∀m σ H,W m σ H ->
 tt σ H fun b H1=>if b=true then ∃N:St->Hp->Prop,(∀σ' H',N σ' H'->∃m',m'<m/\W m' σ' H')/\t { D with nx:=N,ct:=N,bk:=D.nx } σ H1 else D.nx σ H1):a5K tt t D σ H:=h
theorem b7i(h:te σ H fun v H1=>D.nx (σ.set n (some v)) H1):(fun D σ H=>te σ H fun v H1=>(D:b1I).nx (σ.set n (some v)) H1:TS) D σ H:=h
theorem b8z{wi:TI}(h:wi σ H1 fun J H1=>∀D,H1 D=none->∃W:Nat->Nat->List V->Hp->Prop,
 (∃m,W 0 m [] (upd H1 D (.lst [])))/\∀i m ys H2,W i m ys H2->H2 D=some (.lst ys) /\
  ((J.stop i H2 /\ Q (.ref D) H2) \/ (J.go i H2 /\ ∀ x H3,J.yld i H2 x H3 -> ∃ a u v,x = .ref a /\ SqT K H3 a [u,v] /\ tt (some u :: some v :: σ) H3 fun ok H4 => if ok = true then
    te (some u::some v::σ) H4 (fun y H5=>H5 D=some (.lst ys)/\ys.length<u8/\∃m',m'<m/\W (i+1) m' (ys++[y]) (upd H5 D (.lst (ys++[y]))))
    else ∃m',m'<m/\W (i+1) m' ys H4))):b0G K wi tt te σ H1 Q:=h
theorem c3S{J:It}{D:Addr}(n:Nat)(Pv:Nat->List V->Hp->Prop)(h0:Pv 0 [] (upd H1 D (.lst [])))(hP:∀i ys H,Pv i ys H->H D=some (.lst ys))(stop:∀ys H,Pv n ys H->J.stop n H/\QD H)(go:∀i ys H,i<n->Pv i ys H->J.go i H)
  (step:∀i ys H2,i<n->Pv i ys H2->∀x H3,J.yld i H2 x H3->∃a u v,x=.ref a/\SqT K H3 a [u,v]/\∀(R:VK) (S:Hp->Prop),(∀y H5,H5 D=some (.lst ys)->ys.length<u8->Pv (i+1) (ys++[y]) (upd H5 D (.lst (ys++[y])))->R y H5)->(∀H4,Pv (i+1) ys H4->S H4) ->
   tt (some u::some v::σ) H3 fun ok H4=>if ok=true then te (some u::some v::σ) H4 R else S H4) :
  ∃W:Nat->Nat->List V->Hp->Prop,(∃m,W 0 m [] (upd H1 D (.lst [])))/\∀i m ys H2,W i m ys H2->H2 D=some (.lst ys) /\
   ((J.stop i H2 /\ QD H2) \/ (J.go i H2 /\ ∀ x H3,J.yld i H2 x H3 -> ∃ a u v,x = .ref a /\ SqT K H3 a [u,v] /\ tt (some u :: some v :: σ) H3 fun ok H4 => if ok = true then
     te (some u::some v::σ) H4 (fun y H5=>H5 D=some (.lst ys)/\ys.length<u8/\∃m',m'<m/\W (i+1) m' (ys++[y]) (upd H5 D (.lst (ys++[y]))))
     else ∃m',m'<m/\W (i+1) m' ys H4)):=by
 refine⟨fun i m ys H=>m=n - i/\i<=n/\Pv i ys H,⟨n,rfl,L6 _,h0⟩,?_⟩
 rintro i m ys H2 ⟨rfl,hi,p⟩
 refine⟨hP i ys H2 p,?_⟩
 by_cases hlt:i<n
 ·refine .inr ⟨go i ys H2 hlt p,fun x H3 hy=>?_⟩
  obtain⟨a,u,v,e,hs,st⟩:=step i ys H2 hlt p x H3 hy
  exact⟨a,u,v,e,hs,st _ _ (fun y H5 h1 h2 h3=>⟨h1,h2,n - (i+1),by omega,rfl,hlt,h3⟩) fun H4 h4=>⟨n - (i+1),by omega,rfl,hlt,h4⟩⟩
 ·have e:i=n:=by omega
  subst e
  exact .inl (stop ys H2 p)
theorem b8Q{J:It}{g:TG}{tb:TS}(n:Nat)(Pv:Nat->St->Hp->Prop)(h0:Pv 0 σ H)(stop:∀σ H,Pv n σ H->J.stop n H/\D.nx σ H)(go:∀i σ H,i<n->Pv i σ H->J.go i H)
  (hs:∀i σ H,i<n->Pv i σ H->∀x H',J.yld i H x H'->g x σ H' fun σ2 H2=>tb { D with nx:=Pv (i+1),ct:=Pv (i+1),bk:=D.nx } σ2 H2) :
  ∃W:Nat->Nat->St->Hp->Prop,(∃m,W 0 m σ H)/\∀i m σ H,W i m σ H ->
   (J.stop i H/\D.nx σ H)\/(J.go i H/\∃N:St->Hp->Prop,(∀σ' H',N σ' H'->∃m',m'<m/\W (i+1) m' σ' H')/\∀x H',J.yld i H x H'->g x σ H' fun σ2 H2=>tb { D with nx:=N,ct:=N,bk:=D.nx } σ2 H2):=by
 refine⟨fun i m σ H=>m=n - i/\i<=n/\Pv i σ H,⟨n,rfl,L6 _,h0⟩,?_⟩
 rintro i m σ H ⟨rfl,hi,p⟩
 by_cases hlt:i<n
 ·exact .inr ⟨go i σ H hlt p,Pv (i+1),fun σ' H' p'=>⟨n - (i+1),by omega,rfl,hlt,p'⟩,fun x H' hy=>hs i σ H hlt p x H' hy⟩
 ·have e:i=n:=by omega
  subst e
  exact .inl (stop σ H p)
theorem c9Z(h:Q (.int (if j<i then j else i)) H):c2E [.int i,.int j] H Q:=h
theorem a9K(bs:List Bool):a0d (bs.map V.bl)=some bs:=by
 induction bs with
 | nil=>rfl
 | cons s r ih=>simp[a0d,ih]
theorem d0b{bs:List Bool}(hl:H l=some (.lst (bs.map V.bl)))(h:Q (.bl (bs.any id)) H):b7r [.ref l] H Q:=by
 unfold b7r
 simp only[hl]
 exact⟨bs,a9K bs,h⟩
theorem c2D{bs:List Bool}(hl:H l=some (.lst (bs.map V.bl)))(h:Q (.bl (bs.all id)) H):b1a [.ref l] H Q:=by
 unfold b1a
 simp only[hl]
 exact⟨bs,a9K bs,h⟩
theorem b0Y{zs:List V}(hl:H l=some (.lst xs))(hb:H b=some (.lst zs))(hz:xs.length+zs.length<=u8)(h:Q .non (upd H l (.lst (xs++zs)))):a3I (.ref l) [.ref b] H Q:=by
 unfold a3I
 simp only[hl,hb]
 exact⟨hz,h⟩
theorem c9Y(hl:H l=some (.lst (xs++[y])))(h:Q y (upd H l (.lst xs))):b9U (.ref l) [] H Q:=by
 unfold b9U
 simp only[hl]
 refine⟨y,by simp,?_⟩
 simpa using h
theorem c4N(hl:H l=some (.lst xs))(h:Q .non (upd H l (.lst []))):a8X (.ref l) [] H Q:=by
 unfold a8X
 simp only[hl]
 exact h
theorem a6u(hp:H p=some (.lst ys))(h:∀l H',H l=none->H' l=some (.lst ys)->A0 H H'->Q (.ref l) H'):a3H [.ref p] H Q:=by
 unfold a3H
 simp only[hp]
 exact fun l hl=>h l _ hl d8 (D0 hl)
end
def IL(l:List Nat):List V:=l.map fun(n:Nat)=>V.int (n:Int)
theorem R7(l:List Nat):(IL l).length=l.length:=by simp[IL]
theorem b4F(l:List Nat):(IL l).all V4=true:=by
 rw[P9]
 intro x hx
 obtain⟨s,_,rfl⟩:=C8.mp hx
 rfl
def KS(ks:List Nat):List (Key×V):=ks.map fun(k:Nat)=>(Sum.inl (k:Int),V.bl true)
theorem c4c(ks:List Nat)(k:Nat):(a3R (KS ks) (Sum.inl (k:Int))).isSome=decide (k∈ks):=by
 induction ks with
 | nil=>rfl
 | cons a r ih=>
  by_cases e:a=k
  ·subst e
   rw[show KS (a::r)=(Sum.inl (a:Int),V.bl true)::KS r from rfl,a7K rfl]
   simp
  ·rw[show KS (a::r)=(Sum.inl (a:Int),V.bl true)::KS r from rfl,a7L (by intro z;have:=Sum.inl.inj z;exact e (by omega)),ih]
   have:(k∈a::r)↔k∈r:=by
    rw[j4]
    exact⟨fun h=>h.elim (fun z=>absurd z.symm e) id,.inr⟩
   simp[this]
def a5S(ks:List Nat)(k:Nat):List Nat:=if k∈ks then ks else ks++[k]
theorem c9f(ks:List Nat)(k:Nat):a1g (KS ks) (Sum.inl (k:Int)) (V.bl true)=KS (a5S ks k):=by
 unfold a1g a5S
 rw[a2s,c4c]
 by_cases h:k∈ks
 ·rw[if_pos (d2G h),if_pos h]
  unfold KS
  rw[V0]
  apply a1w
  intro a _
  show(if(Sum.inl (a:Int):Key)=Sum.inl (k:Int)then ((Sum.inl (a:Int):Key),V.bl true)else ((Sum.inl (a:Int):Key),V.bl true))=_
  split <;> rfl
 ·rw[if_neg (by simpa using h),if_neg h]
  simp[KS]
theorem a0P{ks:List Nat}{k:Nat}:j∈a5S ks k↔j∈ks\/j=k:=by
 unfold a5S
 split
 ·rename_i h
  exact⟨.inl,fun q=>q.elim id fun z=>z ▸ h⟩
 ·simp
theorem b0a{ks:List Nat}{k:Nat}(h:ks.Nodup):(a5S ks k).Nodup:=by
 unfold a5S
 split
 ·exact h
 ·rename_i hk
  rw[a0W]
  exact⟨h,by simp,fun a ha b hb=>by rw[d9.mp hb];intro z;exact hk (z ▸ ha)⟩
theorem c9g(ks:List Nat):(KS ks).length=ks.length:=by simp[KS]
theorem a4v:∀(n:Nat) (ks:List Nat),ks.Nodup->(∀k∈ks,k<n)->ks.length<=n:=by
 intro n
 induction n with
 | zero=>
  intro ks _ h
  cases ks with
  | nil=>exact j6 _
  | cons a r=>exact absurd (h a F4) (a3v _)
 | succ n ih=>
  intro ks nd h
  by_cases hn:n∈ks
  ·have:=ih (ks.erase n) (nd.erase n) fun k hk=>by
    have h1:=(List.Nodup.mem_erase_iff nd).mp hk
    have:=h k h1.2
    have:=h1.1
    omega
   rw[a5r hn]at this
   omega
  ·have:=ih ks nd fun k hk=>by
    have:=h k hk
    have:k≠n:=fun z=>hn (z ▸ hk)
    omega
   omega
theorem a6x{ks:List Nat}(h:H d=some (.dK (KS ks)))(k:Nat):∃o,a3u H d (.int (k:Int)) o/\o.isSome=decide (k∈ks):=⟨_,a3u.k (k:=Sum.inl (k:Int)) h,c4c ks k⟩
theorem b4n{ks:List Nat}(h:H d=some (.dK (KS ks)))(hl:ks.length<100000)(k:Nat):a9U H d (.int (k:Int)) (.bl true) (upd H d (.dK (KS (a5S ks k)))):=by
 rw[<-c9f]
 exact a9U.k (k:=Sum.inl (k:Int)) h (J8 (by rw[c9g];exact hl))
end RD
namespace RD
variable{C a b c d dx l na p ra w:Addr}{H H' H0 H1:Hp}{o:HO}{xs ys:List V}{i j m n t0:Nat}{D:b1I}{σ:St}{ta te:TE}{tt:TT}{Q:VK}{v:V}{z:Str}{ss:List Str}{QD:Hp->Prop}{R:It->Hp->Prop}{ks:List (List Key)}{M N:Nt}{ns:List Int}{as ps rs vs:List Addr}{Z:Addr->Prop}{RC:Nat->List V}{Do:Nat->Bool}{kvs:List (Key×V)}
theorem c3q:∀(l m:List Nat),l.Nodup->(∀x∈l,x∈m)->l.length<=m.length
 | [],_,_,_=>L6 _
 | a::r,m,nd,h=>by
  have ha:=h a F4
  have:=c3q r (m.erase a) (Y2.mp nd).2 fun x hx=>(c1j (show x≠a from fun z=>(Y2.mp nd).1 (z ▸ hx))).mpr (h x (F9 _ hx))
  rw[a5r ha]at this
  have:=a6B ha
  rw[A2]
  omega
inductive Gd(N:Nt):Nat->Prop
 | stop {k:Nat}:N[k]? = some []->Gd N k
 | step {k t:Nat} {l:List Nat}:N[k]? = some l->t∈l->Gd N t->Gd N k
inductive Rc(N:Nt):Nat->Prop
 | zero:Rc N 0
 | step {k t:Nat} {l:List Nat}:Rc N k->N[k]? = some l->t∈l->Rc N t
structure a1j(N:Nt):Prop where
 pos:0<N.length
 le:N.length<=400
 two:∀l∈N,l.length<=2
 lt:∀l∈N,∀t∈l,t<N.length
 rc:∀k,k<N.length->Rc N k
 gd:∀k,k<N.length->Gd N k
def a3J(N:Nt)(G:List Nat):List (List Nat):=(J2 N.length).map fun k=>if k∈G then N.getD k [] else (N.length - 1)::(N.getD k []).drop 1
theorem b3c(N:Nt)(G:List Nat):(a3J N G).length=N.length:=by simp[a3J]
theorem b1q{G:List Nat}{k:Nat}(h:k<N.length):(a3J N G)[k]? = some (if k∈G then N.getD k [] else (N.length - 1)::(N.getD k []).drop 1):=by
 unfold a3J
 rw[b8,a8D h]
 rfl
theorem a8k{G:List Nat}{k:Nat}{l:List Nat}(h:N[k]? = some l)(hk:k∈G):(a3J N G)[k]? = some l:=by
 have hl:=(u6.mp h).1
 rw[b1q hl,if_pos hk]
 simp[O4,h]
theorem b3b{G:List Nat}{k:Nat}{l:List Nat}(h:N[k]? = some l)(hk:¬k∈G):(a3J N G)[k]? = some ((N.length - 1)::l.drop 1):=by
 have hl:=(u6.mp h).1
 rw[b1q hl,if_neg hk]
 simp[O4,h]
theorem c6f{G:List Nat}(hG:∀k∈G,Gd N k)(hl:N[N.length - 1]? = some [])(hm:N.length - 1∈G):∀k,k<N.length->Gd (a3J N G) k:=by
 have last:Gd (a3J N G) (N.length - 1):=.stop (a8k hl hm)
 have out:∀k,k<N.length->¬k∈G->Gd (a3J N G) k:=fun k hk h=>.step (b3b (l:=N[k]) (by simp) h) F4 last
 have go:∀k,Gd N k->Gd (a3J N G) k:=by
  intro k h
  induction h with
  | @stop k h=>
   by_cases hk:k∈G
   ·exact .stop (a8k h hk)
   ·exact out k (u6.mp h).1 hk
  | @step k t l h ht _ ih=>
   by_cases hk:k∈G
   ·exact .step (a8k h hk) ht ih
   ·exact out k (u6.mp h).1 hk
 intro k hk
 by_cases h:k∈G
 ·exact go k (hG k h)
 ·exact out k hk h
theorem b5S{G:List Nat}(hp:0<N.length)(hs:∀l∈N,l.length<=2/\∀t∈l,t<N.length)(hl:N[N.length - 1]? = some [])(hm:N.length - 1∈G):∀l∈a3J N G,l.length<=2/\∀t∈l,t<N.length:=by
 intro l hl'
 obtain⟨k,hk⟩:=v6.mp hl'
 have hkl:k<N.length:=by have:=(u6.mp hk).1;rwa [b3c]at this
 rw[b1q hkl]at hk
 have e:N.getD k []=N[k]:=by simp[O4,hkl]
 rw[e]at hk
 obtain⟨h1,h2⟩:=hs N[k] (E9 _)
 by_cases hg:k∈G
 ·rw[if_pos hg]at hk
  cases hk
  exact⟨h1,h2⟩
 ·rw[if_neg hg]at hk
  cases hk
  refine⟨?_,fun t ht=>?_⟩
  ·rw[A2,b1R];omega
  ·rcases j4.mp ht with z | z
   ·omega
   ·exact h2 t (List.drop_subset _ _ z)
def a6Z(N:Nt)(O:List Nat):List (List Nat):=O.map fun k=>(N.getD k []).map fun t=>O.idxOf t
theorem c3F{O:List Nat}{t:Nat}(h:t∈O):O.idxOf t<O.length:=b6I.mpr h
theorem b3B{O:List Nat}{k:Nat}{l:List Nat}(hk:k∈O)(h:N[k]? = some l):(a6Z N O)[O.idxOf k]? = some (l.map fun t=>O.idxOf t):=by
 unfold a6Z
 have:O[O.idxOf k]? = some k:=by
  rw[d4 (c3F hk)]
  simp
 rw[b8,this]
 simp[O4,h]
theorem b7V{O:List Nat}(h0:0∈O)(hs:O.Pairwise (· <= ·)):O.idxOf 0=0:=by
 cases O with
 | nil=>cases h0
 | cons a r=>
  have:a=0:=by
   rcases j4.mp h0 with z | z
   ·exact z.symm
   ·have:=(c4n.mp hs).1 0 z
    omega
  subst this
  simp
theorem b9v{O:List Nat}(h0:0∈O)(hs:O.Pairwise (· <= ·))(hnd:O.Nodup)(hlt:∀k∈O,k<N.length)(hN:N.length<=400)(hcl:∀k∈O,∀l,N[k]? = some l->∀t∈l,t∈O)(hrc:∀k∈O,Rc N k)
  (hsm:∀l∈N,l.length<=2) (hgd:∀k,k<N.length->Gd N k):a1j (a6Z N O):=by
 have hlen:(a6Z N O).length=O.length:=by simp[a6Z]
 have rc:∀k,Rc N k->k∈O/\Rc (a6Z N O) (O.idxOf k):=by
  intro k h
  induction h with
  | zero=>
   refine⟨h0,?_⟩
   rw[b7V h0 hs]
   exact .zero
  | @step k t l _ hl ht ih=>
   obtain⟨i1,i2⟩:=ih
   exact⟨hcl k i1 l hl t ht,.step i2 (b3B i1 hl) (C8.mpr ⟨t,ht,rfl⟩)⟩
 have gd:∀k,Gd N k->k∈O->Gd (a6Z N O) (O.idxOf k):=by
  intro k h
  induction h with
  | @stop k h=>
   intro hk
   exact .stop (by rw[b3B hk h];rfl)
  | @step k t l h ht _ ih=>
   intro hk
   exact .step (b3B hk h) (C8.mpr ⟨t,ht,rfl⟩) (ih (hcl k hk l h t ht))
 have at_:∀i,i<O.length->∃k∈O,O.idxOf k=i:=fun i hi=>⟨O[i],E9 _,hnd.idxOf_getElem i hi⟩
 have mem:∀l∈a6Z N O,∃k∈O,∃l',N[k]? = some l'/\l=l'.map fun t=>O.idxOf t:=by
  intro l hl
  obtain⟨k,hk,rfl⟩:=C8.mp hl
  refine⟨k,hk,N[k]'(hlt k hk),by simp[hlt k hk],?_⟩
  simp[O4,hlt k hk]
 refine⟨?_,?_,fun l hl=>?_,fun l hl t ht=>?_,fun i hi=>?_,fun i hi=>?_⟩
 ·rw[hlen]
  exact a6B h0
 ·rw[hlen]
  exact J5 (a4v _ _ hnd hlt) hN
 ·obtain⟨k,hk,l',e,rfl⟩:=mem l hl
  rw[a9]
  exact hsm l' (X3 e)
 ·obtain⟨k,hk,l',e,rfl⟩:=mem l hl
  obtain⟨t',ht',rfl⟩:=C8.mp ht
  rw[hlen]
  exact c3F (hcl k hk l' e t' ht')
 ·rw[hlen]at hi
  obtain⟨k,hk,rfl⟩:=at_ i hi
  exact(rc k (hrc k hk)).2
 ·rw[hlen]at hi
  obtain⟨k,hk,rfl⟩:=at_ i hi
  exact gd k (hgd k (hlt k hk)) hk
end RD
namespace RD
open PySem PySem.Spec PyProof.Rows L2
variable{C a b c d dx l na p ra w:Addr}{H H' H0 H1:Hp}{o:HO}{xs ys:List V}{i j m n t0:Nat}{D:b1I}{σ:L2.St}{ta te:TE}{tt:TT}{Q:VK}{v:V}{z:Str}{ss:List Str}{QD:Hp->Prop}{R:It->Hp->Prop}{ks:List (List Key)}{M N:Nt}{ns:List Int}{as ps rs vs:List Addr}{Z:Addr->Prop}{RC:Nat->List V}{Do:Nat->Bool}{kvs:List (Key×V)}
structure Cn where
 K6:Addr
 a5l:Addr
 V9:Addr
structure a2I(K:Fg)(c:Cn):Prop where
 L3:Cls K c.K6
 a0B:a3p K c.K6 "entries"
 L7:a3p K c.K6 "nexts"
 a0g:a3p K c.K6 "rows"
 b4H:∀H,SqT K H c.a5l [.str "plus",.str "minus",.str "times",.str "less",.str "same"]
 a0X:∀H,SqT K H c.V9 [.int (-1),.int (0)]
def spD(n m:Nat)(t:TS):Sp:=fun vs H Q _=>vs.length=n/\t { nx:=fun _ H'=>Q .non H',rt:=Q } (vs.map some++C6 (m - vs.length) none) H
def c6M(K:Fg):TS:=K8 (a0o (b9 (tC (.int 0)) (b9 (tC (.int 1234567891)) (b9 (tC (.int 0)) (b9 (Y0 (X0 K (tSl (c7D K) (c8 0) a6k (b2M (tC (.int 63))))) X4 (tCB c2H (b9 (c8 0) j3))) j3)))))
def b3E(K:Fg):Sp:=spD 1 1 (c6M K)
def c1Q(K:Fg):TS:=A4 (O8 (E6 (tOp qEq (tOp qIx (c8 0) (tC (.int 0))) (tC (.int 0)))) (A4 (K0 (tC (.int 12345)) (z8 2)) (A4 (O8 (E6 (tOp qLt (tOp qIx (c8 0) (tC (.int 2))) (tCB Z3 (b9 (tOp qIx (c8 0) (tC (.int 3))) j3)))) (A4 (K0 (tOp qIx (tOp qIx (c8 0) (tC (.int 3))) (tOp qIx (c8 0) (tC (.int 2)))) (z8 3)) (A4 (b8w (c8 0) (tC (.int 2)) (tC (.int 1)) b9V (ipI fun i j=>i+j) a8U) (A4 (O8 (E6 (tOp qGe (c8 3) (tC (.int 1000000000000000000)))) (K0 (c8 3) (b5X (c8 0) (tC (.int 0)) a8U)) F0) (K0 (tOp a3m (tOp b2f (c8 3) (tC (.int 2147483647))) (tC (.int 1))) (z8 2))))) F0) (K0 (tOp b2f (tOp a3m (tOp b5A (tOp qIx (c8 0) (tC (.int 1))) (tC (.int 48271))) (c8 2)) (tC (.int 2147483647))) (b5X (c8 0) (tC (.int 1)) a8U)))) F0) (A4 (O8 (E6 (tOp qGt (tOp qIx (c8 0) (tC (.int 0))) (tC (.int 0)))) (A4 (K0 (tOp b2f (tOp qIx (c8 0) (tC (.int 0))) (c8 1)) (z8 4)) (A4 (K0 (tOp c4R (tOp qIx (c8 0) (tC (.int 0))) (c8 1)) (b5X (c8 0) (tC (.int 0)) a8U)) (K8 (c8 4)))) F0) (A4 (K0 (tOp b2f (tOp b5A (tOp qIx (c8 0) (tC (.int 1))) (tC (.int 39373))) (tC (.int 1000000007))) (z8 5)) (A4 (K0 (tOp b2f (tOp b5A (c8 5) (tC (.int 30011))) (tC (.int 998244353))) (z8 6)) (A4 (O8 (E6 (tOp qGt (c8 1) (tC (.int 1000000)))) (K8 (tOp b2f (tOp a3m (tOp b5A (c8 6) (tC (.int 1000000000))) (c8 5)) (c8 1))) F0) (K8 (tOp b2f (tOp c4R (c8 6) (tC (.int 3))) (c8 1)))))))
def M4(K:Fg):Sp:=spD 2 7 (c1Q K)
def c6L(K:Fg):TS:=A4 (K0 (a0o j3) (z8 2)) (A4 (a1T (a2L (b9 (c8 1) j3)) (z8 3) (A4 (K0 (tCB c2E (b9 (tOp a3m (c8 3) (tC (.int 1))) (b9 (tOp b5z (c8 1) (tC (.int 1))) j3))) (z8 4)) (A4 (K0 (a0o (b9 (c8 4) (b9 (C0 (M4 K) [] E0 (b9 (c8 0) (b9 (c8 1) j3))) j3))) (z8 5)) (A4 (K0 (C0 (M4 K) [] E0 (b9 (c8 0) (b9 (tC (.int 8)) j3))) (z8 6)) (A4 (O8 (E6 (tOp qLt (c8 6) (tC (.int 3)))) (K0 (a0o (b9 (tOp qIx (c8 5) (tC (.int 1))) (b9 (c8 4) j3))) (z8 5)) F0) (A4 (O8 (E6 (tOp qEq (c8 6) (tC (.int 3)))) (K0 (a0o (b9 (tOp qIx (c8 5) (tC (.int 1))) (b9 (C0 (M4 K) [] E0 (b9 (c8 0) (b9 (c8 1) j3))) j3))) (z8 5)) F0) (A4 (O8 (tOr (b5i (E6 (tOp qGt (c8 6) (tC (.int 3)))) (E6 (tOp qLt (c8 6) (tC (.int 7))))) (E6 (tOp qEq (c8 1) (tC (.int 1))))) (K0 (a0o (b9 (c8 4) j3)) (z8 5)) F0) (A4 (O8 (b5i (E6 (tOp qEq (c8 6) (tC (.int 7)))) (E6 (tOp qGt (c8 1) (tC (.int 1))))) (K0 (a0o (b9 (tOp qIx (c8 5) (tC (.int 1))) j3)) (z8 5)) F0) (A4 (O8 (tOr (E6 (tOp qEq (c8 3) (tOp b5z (c8 1) (tC (.int 1))))) (b5i (E6 (tOp qEq (c8 6) (tC (.int 6)))) (E6 (tOp qEq (C0 (M4 K) [] E0 (b9 (c8 0) (b9 (tC (.int 4)) j3))) (tC (.int 0)))))) (K0 (a0o j3) (z8 5)) F0) (Y7 (tBM K "list" U7 (c8 2) (b9 (c8 5) j3)))))))))))) (K8 (c8 2)))
def b3D(K:Fg):Sp:=spD 2 7 (c6L K)
def b5d(K:Fg):TS:=A4 (K0 b0E (z8 1)) (A4 (a1T (a2L (b9 (tCB Z3 (b9 (c8 0) j3)) j3)) (z8 2) (a1T (a2L (b9 (tCB Z3 (b9 (c8 0) j3)) j3)) (z8 3) (O8 (tOr (E6 (tOp qEq (tOp qIx (c8 0) (c8 3)) (a0o j3))) (tB (tCB b7r (b9 (Y0 (X0 K (tOp qIx (c8 0) (c8 3))) X4 (b3A (c8 0) (c8 2))) j3)))) (a3G (c8 1) (c8 3) (tC (.bl true))) F0))) (A4 (K0 (Y0 (a2L (b9 (tCB Z3 (b9 (c8 0) j3)) j3)) X4 (tIf (tB (b3A (c8 0) (c8 2))) (tOp qIx (c8 1) (c8 0)) (tOp a3m (a0o (b9 (tOp b5z (tCB Z3 (b9 (c8 1) j3)) (tC (.int 1))) j3)) (tSl qSl (tOp qIx (c8 1) (c8 0)) (b2M (tC (.int 1))) a6k)))) (z8 0)) (A4 (K0 (b5h ((tC (.int 0),tC (.bl true))::[])) (z8 4)) (A4 (a1T (a2L (b9 (tCB Z3 (b9 (c8 0) j3)) j3)) (z8 2) (a1T (a2L (b9 (tCB Z3 (b9 (c8 0) j3)) j3)) (z8 3) (O8 (tB (b3A (c8 3) (c8 4))) (a1T (X0 K (tOp qIx (c8 0) (c8 3))) (z8 5) (a3G (c8 4) (c8 5) (tC (.bl true)))) F0))) (A4 (K0 (tCB a6v (b9 (tCB a8V (b9 (c8 4) j3)) j3)) (z8 6)) (K8 (Y0 (X0 K (c8 6)) X4 (Y0 (X0 K (tOp qIx (c8 1) (c8 0))) X4 (tBM K "list" a8W (c8 8) (b9 (c8 0) j3))))))))))
def a6p(K:Fg):Sp:=spD 1 7 (b5d K)
def c1R(K:Fg):TS:=A4 (K0 (tC (.str "abcdefghijklmnopqrstuvwxyz")) (z8 1)) (A4 (K0 (tOp a3m (c8 1) (tC (.str "0123456789"))) (z8 2)) (K8 (tOp a3m (tOp qIx (c8 1) (C0 (M4 K) [] E0 (b9 (c8 0) (b9 (tC (.int 26)) j3)))) (tBM K "str" b2Z (tC (.str "")) (b9 (Y0 (a2L (b9 (C0 (M4 K) [] E0 (b9 (c8 0) (b9 (tC (.int 8)) j3))) j3)) X4 (tOp qIx (c8 3) (C0 (M4 K) [] E0 (b9 (c8 1) (b9 (tC (.int 36)) j3))))) j3)))))
def a9W(K:Fg):Sp:=spD 1 3 (c1R K)
def b8u(K:Fg):TS:=A4 (K0 (a0o (b9 (tC (.str "a")) (b9 (tC (.str "k0")) (b9 (tC (.str "ab")) (b9 (tC (.str "set")) (b9 (tC (.str "abc")) (b9 (tC (.str "k1")) (b9 (tC (.str "abcdefgh")) (b9 (tC (.str "b")) j3))))))))) (z8 1)) (A4 (K0 (tOp a3m (c8 1) (a0o (b9 (tC (.str "ask")) (b9 (tC (.str "x9")) (b9 (tC (.str "a1")) (b9 (tC (.str "abcdefg")) (b9 (tC (.str "plus")) (b9 (tC (.str "ba")) (b9 (tC (.str "k10")) (b9 (tC (.str "z")) j3)))))))))) (z8 1)) (A4 (K0 (C0 (M4 K) [] E0 (b9 (c8 0) (b9 (tC (.int 16)) j3))) (z8 2)) (A4 (K0 (tOp a3m (tC (.int 1)) (tOp b5A (tC (.int 2)) (C0 (M4 K) [] E0 (b9 (c8 0) (b9 (tC (.int 8)) j3))))) (z8 3)) (A4 (K0 (a0o j3) (z8 4)) (A4 (a1T (a2L (b9 (tOp a3m (tC (.int 2)) (C0 (M4 K) [] E0 (b9 (c8 0) (b9 (tC (.int 3)) j3)))) j3)) (z8 5) (A4 (K0 (tOp qIx (c8 1) (tOp b2f (tOp a3m (c8 2) (tOp b5A (c8 5) (c8 3))) (tC (.int 16)))) (z8 6)) (A4 (O8 (E6 (tOp qEq (C0 (M4 K) [] E0 (b9 (c8 0) (b9 (tC (.int 3)) j3))) (tC (.int 0)))) (K0 (C0 (a9W K) [] E0 (b9 (c8 0) j3)) (z8 6)) F0) (O8 (E6 (tOp (qIn true) (c8 6) (c8 4))) (Y7 (tBM K "list" U7 (c8 4) (b9 (c8 6) j3))) F0)))) (K8 (c8 4)))))))
def a7Y(K:Fg):Sp:=spD 1 7 (b8u K)
def b8s(K:Fg):TS:=K8 (tOp qIx (a0o (b9 (tC (.int 0)) (b9 (tC (.int 1)) (b9 (tOp b5z (tOp b5z (tOp c7L (tC (.int 10)) (tC (.int 12))) (tC (.int 1))) (C0 (M4 K) [] E0 (b9 (c8 0) (b9 (tC (.int 3)) j3)))) (b9 (C0 (M4 K) [] E0 (b9 (c8 0) (b9 (tC (.int 1000000000000)) j3))) j3))))) (C0 (M4 K) [] E0 (b9 (c8 0) (b9 (tC (.int 4)) j3))))
def a7W(K:Fg):Sp:=spD 1 1 (b8s K)
def b2J(K:Fg):TS:=A4 (O8 (E6 (tOp qEq (C0 (M4 K) [] E0 (b9 (c8 0) (b9 (tC (.int 4)) j3))) (tC (.int 0)))) (K8 (C0 (a7W K) [] E0 (b9 (c8 0) j3))) F0) (K8 (tOp qIx (c8 1) (C0 (M4 K) [] E0 (b9 (c8 0) (b9 (tCB Z3 (b9 (c8 1) j3)) j3)))))
def a0M(K:Fg):Sp:=spD 2 2 (b2J K)
def c1T(K:Fg):TS:=A4 (K0 (tOp qIx (a0o (b9 (tC (.str "plus")) (b9 (tC (.str "minus")) (b9 (tC (.str "times")) (b9 (tC (.str "less")) (b9 (tC (.str "same")) j3)))))) (C0 (M4 K) [] E0 (b9 (c8 0) (b9 (tC (.int 5)) j3)))) (z8 2)) (A4 (K0 (C0 (a0M K) [] E0 (b9 (c8 0) (b9 (c8 1) j3))) (z8 3)) (A4 (K0 (C0 (a0M K) [] E0 (b9 (c8 0) (b9 (c8 1) j3))) (z8 4)) (A4 (O8 (E6 (tOp qEq (C0 (M4 K) [] E0 (b9 (c8 0) (b9 (tC (.int 6)) j3))) (tC (.int 0)))) (K0 (c8 3) (z8 4)) F0) (K8 (a2E (b9 (c8 2) (b9 (c8 3) (b9 (c8 4) j3))))))))
def a9X(K:Fg):Sp:=spD 2 5 (c1T K)
def c6K(K:Fg):TS:=A4 (O8 (E6 (tOp qEq (c8 3) (tC (.int 2)))) (K8 (a2E (b9 (tC (.str "ask")) (b9 (C0 (a0M K) [] E0 (b9 (c8 0) (b9 (c8 1) j3))) j3)))) F0) (A4 (K0 (C0 (M4 K) [] E0 (b9 (c8 0) (b9 (tC (.int 8)) j3))) (z8 4)) (A4 (K0 (tOp qIx (c8 1) (C0 (M4 K) [] E0 (b9 (c8 0) (b9 (tCB Z3 (b9 (c8 1) j3)) j3)))) (z8 5)) (A4 (O8 (E6 (tOp qLt (c8 4) (tC (.int 5)))) (K8 (a2E (b9 (tC (.str "set")) (b9 (c8 5) (b9 (tOp qIx (c8 2) (C0 (M4 K) [] E0 (b9 (c8 0) (b9 (tCB Z3 (b9 (c8 2) j3)) j3)))) j3))))) F0) (A4 (O8 (E6 (tOp qEq (c8 4) (tC (.int 5)))) (K8 (a2E (b9 (tC (.str "copy")) (b9 (c8 5) (b9 (C0 (a0M K) [] E0 (b9 (c8 0) (b9 (c8 1) j3))) j3))))) F0) (A4 (O8 (E6 (tOp qEq (c8 4) (tC (.int 6)))) (K8 (a2E (b9 (tC (.str "take")) (b9 (c8 5) j3)))) F0) (K8 (tOp qIx (a0o (b9 (a2E (b9 (tC (.str "tell")) (b9 (C0 (a0M K) [] E0 (b9 (c8 0) (b9 (c8 1) j3))) j3))) (b9 (a2E (b9 (tC (.str "skip")) j3)) j3))) (C0 (M4 K) [] E0 (b9 (c8 0) (b9 (tC (.int 2)) j3))))))))))
def b3C(K:Fg):Sp:=spD 4 6 (c6K K)
def b8v(K:Fg):TS:=A4 (K0 (tOp a3m (tC (.int 1)) (C0 (M4 K) [] E0 (b9 (c8 0) (b9 (tC (.int 9)) j3)))) (z8 1)) (A4 (O8 (E6 (tOp qEq (C0 (M4 K) [] E0 (b9 (c8 0) (b9 (tC (.int 8)) j3))) (tC (.int 0)))) (K0 (tOp a3m (tC (.int 15)) (C0 (M4 K) [] E0 (b9 (c8 0) (b9 (tC (.int 10)) j3)))) (z8 1)) F0) (A4 (K0 (C0 (a6p K) [] E0 (b9 (C0 (b3D K) [] E0 (b9 (c8 0) (b9 (c8 1) j3))) j3)) (z8 2)) (A4 (K0 (C0 (a7Y K) [] E0 (b9 (c8 0) j3)) (z8 3)) (A4 (K0 (Y0 (a2L (b9 (tOp a3m (tC (.int 1)) (C0 (M4 K) [] E0 (b9 (c8 0) (b9 (tC (.int 3)) j3)))) j3)) X4 (C0 (a9X K) [] E0 (b9 (c8 1) (b9 (c8 4) j3)))) (z8 4)) (K8 (a2E (b9 (Y0 (X0 K (c8 2)) X4 (C0 (b3C K) [] E0 (b9 (c8 1) (b9 (c8 4) (b9 (c8 5) (b9 (tCB Z3 (b9 (c8 0) j3)) j3)))))) (b9 (c8 2) j3))))))))
def a5N(K:Fg):Sp:=spD 1 5 (b8v K)
def a3y(K:Fg):TS:=K8 (tCB a3H (b9 (tOp qIx (a3S K (c8 0) "entries") (c8 1)) j3))
def Y8(K:Fg):Sp:=spD 2 2 (a3y K)
def b0y(K:Fg)(c:Cn):TS:=A4 (K0 (a0o (b9 (tC (.ref c.V9)) j3)) (z8 1)) (A4 (a1T (a9I K (b9 (c8 0) j3)) (b2o K 2 (a1X (z8 2) (a1X (z8 3) (b2p)))) (Y7 (tBM K "list" a3I (c8 1) (b9 (Y0 (a2L (b9 (tCB Z3 (b9 (c8 3) j3)) j3)) X4 (a2E (b9 (c8 3) (b9 (c8 0) j3)))) j3)))) (K8 (c8 1)))
def a2v(K:Fg)(c:Cn):Sp:=spD 1 4 (b0y K c)
def a7Q(K:Fg)(c:Cn):TS:=K8 (C0 (a2v K c) [] E0 (b9 (a3S K (c8 0) "nexts") j3))
def a1f(K:Fg)(c:Cn):Sp:=spD 1 1 (a7Q K c)
def a5m(K:Fg)(c:Cn):TS:=A4 (O8 (E6 (tOp (c4Q K) (c8 1) (tC (.ref c.V9)))) (K8 (tC (.int 0))) F0) (K8 (tOp qIx (tOp qIx (a3S K (c8 0) "nexts") (tOp qIx (c8 1) (tC (.int 0)))) (tOp qIx (c8 1) (tC (.int 1)))))
def R1(K:Fg)(c:Cn):Sp:=spD 2 2 (a5m K c)
def a6M(K:Fg):TS:=A4 (K0 (tOp qIx (c8 0) (tC (.int 0))) (z8 1)) (A4 (O8 (E6 (tOp qEq (c8 1) (tC (.str "set")))) (K8 (a0o (b9 (tOp qIx (tOp qIx (c8 0) (tC (.int 2))) (tC (.int 1))) (b9 (tOp qIx (tOp qIx (c8 0) (tC (.int 2))) (tC (.int 2))) j3)))) F0) (A4 (O8 (E6 (tOp qEq (c8 1) (tC (.str "copy")))) (K8 (a0o (b9 (tOp qIx (c8 0) (tC (.int 2))) j3))) F0) (A4 (O8 (E6 (tOp (qIn false) (c8 1) (a2E (b9 (tC (.str "tell")) (b9 (tC (.str "ask")) j3))))) (K8 (a0o (b9 (tOp qIx (c8 0) (tC (.int 1))) j3))) F0) (K8 (a0o j3)))))
def a1E(K:Fg):Sp:=spD 1 2 (a6M K)
def b0z(K:Fg):TS:=A4 (K0 (a0o j3) (z8 1)) (A4 (a1T (X0 K (C0 (a1E K) [] E0 (b9 (c8 0) j3))) (z8 2) (O8 (b5i (tB (tCB a3s (b9 (c8 2) (b9 (tC (.ty "str")) j3)))) (E6 (tOp (qIn true) (c8 2) (c8 1)))) (Y7 (tBM K "list" U7 (c8 1) (b9 (c8 2) j3))) F0)) (K8 (c8 1)))
def a3A(K:Fg):Sp:=spD 1 3 (b0z K)
def b5c(K:Fg):TS:=K8 (tIf (E6 (tOp (qIn false) (tOp qIx (c8 0) (tC (.int 0))) (a2E (b9 (tC (.str "set")) (b9 (tC (.str "copy")) (b9 (tC (.str "take")) j3)))))) (tOp qIx (c8 0) (tC (.int 1))) (tC .non))
def a4p(K:Fg):Sp:=spD 1 1 (b5c K)
def a7R(K:Fg):TS:=A4 (K0 (a0o j3) (z8 1)) (A4 (a1T (X0 K (a3S K (c8 0) "rows")) (z8 2) (A4 (Y7 (tBM K "list" a3I (c8 1) (b9 (C0 (a3A K) [] E0 (b9 (c8 2) j3)) j3))) (O8 (E6 (tOp b0Z (C0 (a4p K) [] E0 (b9 (c8 2) j3)) (tC .non))) (Y7 (tBM K "list" U7 (c8 1) (b9 (C0 (a4p K) [] E0 (b9 (c8 2) j3)) j3))) F0))) (K8 (tSS (c8 1))))
def a2j(K:Fg):Sp:=spD 1 3 (a7R K)
def a8K(K:Fg):TS:=K8 (tIf (E6 (tOp qEq (tOp qIx (c8 0) (tC (.int 0))) (tC (.str "set")))) (tOp qIx (c8 0) (tC (.int 2))) (tC .non))
def a3j(K:Fg):Sp:=spD 1 1 (a8K K)
def a7S(K:Fg):TS:=A4 (K0 b6T (z8 1)) (A4 (a1T (X0 K (a3S K (c8 0) "rows")) (z8 2) (A4 (K0 (C0 (a3j K) [] E0 (b9 (c8 2) j3)) (z8 3)) (O8 (E6 (tOp b0Z (c8 3) (tC .non))) (a3G (c8 1) (c8 3) (tC (.bl true))) F0))) (K8 (tCB b7p (b9 (c8 1) j3))))
def a2k(K:Fg):Sp:=spD 1 4 (a7S K)
def b0x(K:Fg):TS:=K8 (b0G K (a9I K (b9 (c8 0) j3)) (E6 (tOp qEq (tCB Z3 (b9 (c8 1) j3)) (tC (.int 0)))) (c8 0))
def a2u(K:Fg):Sp:=spD 1 1 (b0x K)
def a7P(K:Fg):TS:=K8 (C0 (a2u K) [] E0 (b9 (a3S K (c8 0) "nexts") j3))
def a0C(K:Fg):Sp:=spD 1 1 (a7P K)
def c1P(K:Fg)(c:Cn):TS:=A4 (fun D σ H=>(Y0 (a2L (b9 (c8 1) j3)) X4 (a1c c.K6 "steps_into" (Y8 K) [] E0 (c8 1) (b9 (c8 0) j3))) σ H fun v H1=>D.nx (σ.set 2 (some v)) H1) (A4 (fun D σ H=>(Y0 (X0 K (a1c c.K6 "steps" (a1f K c) [] E0 (c8 0) j3)) X4 (a1c c.K6 "leads_to" (R1 K c) [] E0 (c8 1) (b9 (c8 0) j3))) σ H fun v H1=>D.nx (σ.set 3 (some v)) H1) (K8 (a0o (b9 (a1c c.K6 "steps" (a1f K c) [] E0 (c8 0) j3) (b9 (c8 2) (b9 (c8 3) (b9 (a1c c.K6 "stops" (a0C K) [] E0 (c8 0) j3) (b9 (a1c c.K6 "deeds" (a2k K) [] E0 (c8 0) j3) (b9 (a1c c.K6 "names" (a2j K) [] E0 (c8 0) j3) j3)))))))))
def a4G(K:Fg)(c:Cn):Sp:=spD 2 4 (c1P K c)
def c1U(K:Fg):TS:=A4 (fun D σ H=>(Y0 (X0 K (c8 0)) X4 (tCB a3H (b9 (c8 0) j3))) σ H fun v H1=>D.nx (σ.set 1 (some v)) H1) (A4 (K0 (Y0 (X0 K (tOp qIx (c8 0) (tC (.int 1)))) X4 (tCB a3H (b9 (c8 0) j3))) (b5X (c8 1) (tC (.int 1)) a8U)) (K8 (c8 1)))
def a9Y(K:Fg):Sp:=spD 1 2 (c1U K)
def b8t(K:Fg):TS:=A4 (K0 (C0 (M4 K) [] E0 (b9 (c8 0) (b9 (tCB Z3 (b9 (c8 1) j3)) j3))) (z8 3)) (A4 (K0 (a2E (b9 (tC (.str "skip")) j3)) (b5X (c8 1) (c8 3) a8U)) (A4 (Y7 (tBM K "list" U7 (c8 1) (b9 (a2E (b9 (tC (.str "take")) (b9 (tC (.str "x")) j3))) j3))) (A4 (Y7 (tBM K "list" U7 (tOp qIx (c8 2) (c8 3)) (b9 (tC (.int 0)) j3))) (A4 (Y7 (b9A K "list" a8X (tOp qIx (c8 2) (tC (.int 0))))) (Y7 (tBM K "list" U7 (c8 2) (b9 (a0o j3) j3)))))))
def a7X(K:Fg):Sp:=spD 3 4 (b8t K)
def b8r(K:Fg):TS:=K8 (a1d (tCB a3s (b9 (c8 0) (b9 (tC (.ty "int")) j3))) (b2N (tCB a3s (b9 (c8 0) (b9 (tC (.ty "bool")) j3)))))
def a7V(K:Fg):Sp:=spD 1 1 (b8r K)
def b5g(K:Fg):TS:=A4 (O8 (tOr (a2t (tB (tCB a3s (b9 (a3S K (c8 0) "rows") (b9 (tC (.ty "list")) j3))))) (tOr (E6 (tOp (b7o K) (a3S K (c8 0) "rows") (c8 1))) (a2t (tB (tCB a3s (b9 (a3S K (c8 0) "nexts") (b9 (tC (.ty "list")) j3))))))) (K8 (tC (.bl false))) F0) (A4 (O8 (E6 (tOp (b7o K) (a3S K (c8 0) "nexts") (c8 2))) (K8 (tC (.bl false))) F0) (A4 (a1T (X0 K (a3S K (c8 0) "rows")) (z8 3) (O8 (a2t (tB (tCB a3s (b9 (c8 3) (b9 (tC (.ty "tuple")) j3))))) (K8 (tC (.bl false))) F0)) (A4 (a1T (X0 K (a3S K (c8 0) "nexts")) (z8 4) (A4 (O8 (a2t (tB (tCB a3s (b9 (c8 4) (b9 (tC (.ty "list")) j3))))) (K8 (tC (.bl false))) F0) (a1T (X0 K (c8 4)) (z8 5) (O8 (a2t (tB (C0 (a7V K) [] E0 (b9 (c8 5) j3)))) (K8 (tC (.bl false))) F0)))) (K8 (tC (.bl true))))))
def a4r(K:Fg):Sp:=spD 3 6 (b5g K)
def b5b(K:Fg)(c:Cn):TS:=A4 (K0 (a0o (b9 (b0F (c8 0) (c8 1)) j3)) (z8 2)) (A4 (a5K (E6 (tOp (c4O K) (tOp qIx (c8 2) (tUn (rU fun i=>.int (-i)) (tC (.int 1)))) (tC (.ref c.V9)))) (Y7 (tBM K "list" U7 (c8 2) (b9 (b0F (c8 0) (tOp qIx (tOp qIx (c8 2) (tUn (rU fun i=>.int (-i)) (tC (.int 1)))) (tC (.int 0)))) j3)))) (A4 (Y7 (b9A K "list" a4t (c8 2))) (K8 (c8 2))))
def a6o(K:Fg)(c:Cn):Sp:=spD 2 3 (b5b K c)
def b4Y(K:Fg)(c:Cn):TS:=A4 (K0 (b5h ((tC (.int 0),tC (.ref c.V9))::[])) (z8 2)) (A4 (K0 (a0o (b9 (tC (.int 0)) j3)) (z8 3)) (A4 (K0 (tC (.int 0)) (z8 4)) (A4 (a5K (tB (a1C (c8 1) (c8 2))) (A4 (K0 (tOp qIx (c8 3) (c8 4)) (z8 5)) (A4 (c1V 4 (tC (.int 1)) (ipI fun i j=>i+j)) (a1T (a9I K (b9 (tOp qIx (a3S K (c8 0) "nexts") (c8 5)) j3)) (b2o K 2 (a1X (z8 6) (a1X (z8 7) (b2p)))) (O8 (tB (a1C (c8 7) (c8 2))) (A4 (a3G (c8 2) (c8 7) (a2E (b9 (c8 5) (b9 (c8 6) j3)))) (Y7 (tBM K "list" U7 (c8 3) (b9 (c8 7) j3)))) F0))))) (K8 (C0 (a6o K c) [] E0 (b9 (c8 2) (b9 (c8 1) j3)))))))
def a6l(K:Fg)(c:Cn):Sp:=spD 2 8 (b4Y K c)
def b6R(K:Fg):TS:=K8 (a1d (tCB a3s (b9 (c8 0) (b9 (tC (.ty "int")) j3))) (b2N (tCB a3s (b9 (c8 0) (b9 (tC (.ty "bool")) j3)))))
def a0N(K:Fg):Sp:=spD 1 1 (b6R K)
def b0B(K:Fg):TS:=K8 (a1d (C0 (a0N K) [] E0 (b9 (c8 0) j3)) (a5L qLe qLt (tC (.int 0)) (c8 0) (c8 1)))
def a1s(K:Fg):Sp:=spD 2 2 (b0B K)
def b2K(K:Fg)(c:Cn):TS:=A4 (O8 (tOr (a2t (tB (tCB (c2G K) (b9 (c8 1) (b9 (tC (.ty "tuple")) j3))))) (E6 (tOp qNe (tCB (c2F K) (b9 (c8 1) j3)) (tC (.int 2))))) (K8 (tC (.bl false))) F0) (A4 (O8 (tOr (a2t (tB (C0 (a0N K) [] E0 (b9 (tOp (b7q K) (c8 1) (tC (.int 0))) j3)))) (a2t (tB (C0 (a0N K) [] E0 (b9 (tOp (b7q K) (c8 1) (tC (.int 1))) j3))))) (K8 (tC (.bl false))) F0) (A4 (O8 (E6 (tOp (c4Q K) (c8 1) (tC (.ref c.V9)))) (K8 (tC (.bl true))) F0) (K8 (a1d (C0 (a1s K) [] E0 (b9 (tOp (b7q K) (c8 1) (tC (.int 0))) (b9 (tCB Z3 (b9 (a3S K (c8 0) "nexts") j3)) j3))) (C0 (a1s K) [] E0 (b9 (tOp (b7q K) (c8 1) (tC (.int 1))) (b9 (tCB Z3 (b9 (tOp qIx (a3S K (c8 0) "nexts") (tOp (b7q K) (c8 1) (tC (.int 0)))) j3)) j3)))))))
def a4H(K:Fg)(c:Cn):Sp:=spD 2 2 (b2K K c)
def b5e(K:Fg)(c:Cn):TS:=A4 (O8 (tOr (a2t (tB (tCB a3s (b9 (c8 1) (b9 (tC (.ty "list")) j3))))) (E6 (tOp qEq (tCB Z3 (b9 (c8 1) j3)) (tC (.int 0))))) (K8 (tC (.bl false))) F0) (A4 (O8 (a2t (tB (tCB b1a (b9 (Y0 (X0 K (c8 1)) X4 (C0 (a4H K c) [] E0 (b9 (c8 1) (b9 (c8 0) j3)))) j3)))) (K8 (tC (.bl false))) F0) (K8 (tCB b1a (b9 (Y0 (b8N (b9 (tC (.int 1)) (b9 (tCB Z3 (b9 (c8 1) j3)) j3))) X4 (tOp qEq (a1c c.K6 "leads_to" (R1 K c) [] E0 (c8 1) (b9 (tOp qIx (c8 2) (tOp b5z (c8 0) (tC (.int 1)))) j3)) (tOp qIx (tOp qIx (c8 2) (c8 0)) (tC (.int 0))))) j3))))
def a4q(K:Fg)(c:Cn):Sp:=spD 2 2 (b5e K c)
def a9A(K:Fg)(c:Cn):TS:=K8 (Y0 (X0 K (c8 1)) X4 (a1c c.K6 "leads_to" (R1 K c) [] E0 (c8 1) (b9 (c8 0) j3)))
def a1D(K:Fg)(c:Cn):Sp:=spD 2 2 (a9A K c)
def b0C(K:Fg)(c:Cn):TS:=A4 (K0 (a0o j3) (z8 3)) (A4 (K0 (b0F (c8 1) (c8 2)) (z8 4)) (A4 (a5K (E6 (tOp b0Z (c8 4) (tC .non))) (A4 (Y7 (tBM K "list" U7 (c8 3) (b9 (c8 4) j3))) (K0 (b0F (c8 1) (a1c c.K6 "leads_to" (R1 K c) [] E0 (c8 0) (b9 (c8 4) j3))) (z8 4)))) (K8 (c8 3))))
def a3C(K:Fg)(c:Cn):Sp:=spD 3 5 (b0C K c)
def b4Z(K:Fg)(c:Cn):TS:=A4 (K0 (tCB b3T (b9 (Y0 (X0 K (a1c c.K6 "stops" (a0C K) [] E0 (c8 0) j3)) X4 (a2E (b9 (c8 0) (b9 (tC .non) j3)))) j3)) (z8 2)) (A4 (K0 (a1c c.K6 "stops" (a0C K) [] E0 (c8 0) j3) (z8 3)) (A4 (K0 (tC (.int 0)) (z8 4)) (A4 (a5K (tB (a1C (c8 1) (c8 2))) (A4 (K0 (tOp qIx (c8 3) (c8 4)) (z8 5)) (A4 (c1V 4 (tC (.int 1)) (ipI fun i j=>i+j)) (a1T (X0 K (a1c c.K6 "steps_into" (Y8 K) [] E0 (c8 0) (b9 (c8 5) j3))) (z8 6) (O8 (b5i (E6 (tOp (c4O K) (c8 6) (tC (.ref c.V9)))) (tB (a1C (tOp qIx (c8 6) (tC (.int 0))) (c8 2)))) (A4 (a3G (c8 2) (tOp qIx (c8 6) (tC (.int 0))) (c8 6)) (Y7 (tBM K "list" U7 (c8 3) (b9 (tOp qIx (c8 6) (tC (.int 0))) j3)))) F0))))) (K8 (C0 (a3C K c) [] E0 (b9 (c8 0) (b9 (c8 2) (b9 (c8 1) j3))))))))
def a6m(K:Fg)(c:Cn):Sp:=spD 2 7 (b4Z K c)
def a9z(K:Fg)(c:Cn):TS:=A4 (a1T (a2L (b9 (c8 1) j3)) (z8 2) (A4 (K0 (C0 (a6l K c) [] E0 (b9 (c8 0) (b9 (c8 2) j3))) (z8 3)) (A4 (O8 (tOr (a2t (tB (C0 (a4q K c) [] E0 (b9 (c8 0) (b9 (c8 3) j3))))) (E6 (tOp qNe (tOp qIx (C0 (a1D K c) [] E0 (b9 (c8 0) (b9 (c8 3) j3))) (tUn (rU fun i=>.int (-i)) (tC (.int 1)))) (c8 2)))) (K8 (tC (.bl false))) F0) (A4 (K0 (C0 (a6m K c) [] E0 (b9 (c8 0) (b9 (c8 2) j3))) (z8 4)) (O8 (E6 (tOp c7M (c8 4) (a0o j3))) (A4 (K0 (tOp qIx (C0 (a1D K c) [] E0 (b9 (c8 0) (b9 (c8 4) j3))) (tUn (rU fun i=>.int (-i)) (tC (.int 1)))) (z8 5)) (O8 (tOr (a2t (tB (C0 (a4q K c) [] E0 (b9 (c8 0) (b9 (tOp a3m (c8 3) (c8 4)) j3))))) (E6 (tOp qNe (tOp qIx (a3S K (c8 0) "nexts") (c8 5)) (a0o j3)))) (K8 (tC (.bl false))) F0)) F0))))) (K8 (tC (.bl true)))
def a2N(K:Fg)(c:Cn):Sp:=spD 2 6 (a9z K c)
def a5J(K:Fg):TS:=A4 (O8 (tOr (a2t (tB (tCB a3s (b9 (c8 0) (b9 (tC (.ty "list")) j3))))) (E6 (tOp qLt (tCB Z3 (b9 (c8 0) j3)) (c8 2)))) (fun _ _ _=>False) F0) (O8 (E6 (tOp qGt (tCB Z3 (b9 (c8 0) j3)) (tC (.int 400)))) (fun _ _ _=>False) F0)
def a1l(K:Fg):Sp:=spD 3 3 (a5J K)
def a8J(K:Fg):TS:=A4 (O8 (tOr (a2t (tB (tCB a3s (b9 (c8 0) (b9 (tC (.ty "str")) j3))))) (a2t (E6 (a5L qLe qLe (tC (.int 1)) (tCB Z3 (b9 (c8 0) j3)) (tC (.int 8)))))) (K8 (tC (.bl false))) F0) (K8 (a1d (tOp (qIn false) (tOp qIx (c8 0) (tC (.int 0))) (tC (.str "abcdefghijklmnopqrstuvwxyz"))) (tCB b1a (b9 (Y0 (c6c (c8 0)) X4 (tOp (qIn false) (c8 0) (tOp a3m (tC (.str "abcdefghijklmnopqrstuvwxyz")) (tC (.str "0123456789"))))) j3))))
def a0x(K:Fg):Sp:=spD 1 1 (a8J K)
def b0A(K:Fg):TS:=K8 (a1d (C0 (a0N K) [] E0 (b9 (c8 0) j3)) (a5L qLe qLt (tC (.int 0)) (c8 0) (tC (.int 1000000000000))))
def a3B(K:Fg):Sp:=spD 1 1 (b0A K)
def a7M(K:Fg):TS:=K8 (c4x (C0 (a0x K) [] E0 (b9 (c8 0) j3)) (C0 (a3B K) [] E0 (b9 (c8 0) j3)))
def a0j(K:Fg):Sp:=spD 1 1 (a7M K)
def b2L(K:Fg)(c:Cn):TS:=A4 (O8 (tOr (a2t (tB (tCB a3s (b9 (c8 0) (b9 (tC (.ty "tuple")) j3))))) (E6 (tOp qNe (tCB Z3 (b9 (c8 0) j3)) (tC (.int 3))))) (K8 (tC (.bl false))) F0) (K8 (a1d (tOp (c7N K) (tOp qIx (c8 0) (tC (.int 0))) (tC (.ref c.a5l))) (a1d (C0 (a0j K) [] E0 (b9 (tOp qIx (c8 0) (tC (.int 1))) j3)) (C0 (a0j K) [] E0 (b9 (tOp qIx (c8 0) (tC (.int 2))) j3)))))
def a4I(K:Fg)(c:Cn):Sp:=spD 1 1 (b2L K c)
def b5f(K:Fg)(c:Cn):TS:=A4 (O8 (tOr (a2t (tB (tCB a3s (b9 (c8 0) (b9 (tC (.ty "tuple")) j3))))) (E6 (tOp qEq (tCB Z3 (b9 (c8 0) j3)) (tC (.int 0))))) (K8 (tC (.bl false))) F0) (A4 (K0 (tOp qIx (c8 0) (tC (.int 0))) (z8 1)) (A4 (K0 (tSl qSl (c8 0) (b2M (tC (.int 1))) a6k) (z8 2)) (A4 (O8 (E6 (tOp qEq (c8 1) (tC (.str "set")))) (K8 (a1d (tOp qEq (tCB Z3 (b9 (c8 2) j3)) (tC (.int 2))) (a1d (C0 (a0x K) [] E0 (b9 (tOp qIx (c8 2) (tC (.int 0))) j3)) (C0 (a4I K c) [] E0 (b9 (tOp qIx (c8 2) (tC (.int 1))) j3))))) F0) (A4 (O8 (E6 (tOp qEq (c8 1) (tC (.str "copy")))) (K8 (a1d (tOp qEq (tCB Z3 (b9 (c8 2) j3)) (tC (.int 2))) (a1d (C0 (a0x K) [] E0 (b9 (tOp qIx (c8 2) (tC (.int 0))) j3)) (C0 (a0j K) [] E0 (b9 (tOp qIx (c8 2) (tC (.int 1))) j3))))) F0) (A4 (O8 (E6 (tOp qEq (c8 1) (tC (.str "take")))) (K8 (a1d (tOp qEq (tCB Z3 (b9 (c8 2) j3)) (tC (.int 1))) (C0 (a0x K) [] E0 (b9 (tOp qIx (c8 2) (tC (.int 0))) j3)))) F0) (A4 (O8 (E6 (tOp (qIn false) (c8 1) (a2E (b9 (tC (.str "tell")) (b9 (tC (.str "ask")) j3))))) (K8 (a1d (tOp qEq (tCB Z3 (b9 (c8 2) j3)) (tC (.int 1))) (C0 (a0j K) [] E0 (b9 (tOp qIx (c8 2) (tC (.int 0))) j3)))) F0) (K8 (a1d (tOp qEq (c8 1) (tC (.str "skip"))) (tOp qEq (tCB Z3 (b9 (c8 2) j3)) (tC (.int 0)))))))))))
def a6q(K:Fg)(c:Cn):Sp:=spD 1 3 (b5f K c)
def a7O(K:Fg):TS:=a1T (a9I K (b9 (c8 0) j3)) (b2o K 2 (a1X (z8 1) (a1X (z8 2) (b2p)))) (O8 (a2t (tB (c8 2))) (fun _ _ _=>False) F0)
def a1e(K:Fg):Sp:=spD 1 3 (a7O K)
def a9B(K:Fg):TS:=A4 (O8 (a2t (tB (tCB a3s (b9 (c8 1) (b9 (tC (.ty "list")) j3))))) (K8 (tC (.bl false))) F0) (A4 (K0 (tIf (E6 (tOp qEq (tOp qIx (c8 0) (tC (.int 0))) (tC (.str "ask")))) (a2E (b9 (tC (.int 2)) j3)) (a2E (b9 (tC (.int 0)) (b9 (tC (.int 1)) j3)))) (z8 3)) (K8 (a1d (tOp (qIn false) (tCB Z3 (b9 (c8 1) j3)) (c8 3)) (tCB b1a (b9 (Y0 (X0 K (c8 1)) X4 (C0 (a1s K) [] E0 (b9 (c8 0) (b9 (c8 3) j3)))) j3)))))
def a2O(K:Fg):Sp:=spD 3 4 (a9B K)
def a6N(K:Fg):TS:=A4 (O8 (tOr (a2t (tB (tCB a3s (b9 (c8 1) (b9 (tC (.ty "list")) j3))))) (E6 (tOp qNe (tCB Z3 (b9 (c8 1) j3)) (tCB Z3 (b9 (c8 0) j3))))) (fun _ _ _=>False) F0) (Y7 (C0 (a1e K) [] E0 (b9 (b0G K (c6a K (b9 (c8 0) (b9 (c8 1) j3))) X4 (C0 (a2O K) [] E0 (b9 (c8 0) (b9 (c8 1) (b9 (tCB Z3 (b9 (c8 2) j3)) j3))))) j3)))
def a1F(K:Fg):Sp:=spD 2 2 (a6N K)
def b2I(K:Fg):TS:=A4 (K0 b0E (z8 2)) (A4 (K0 (tCB a3H (b9 (c8 0) j3)) (z8 3)) (A4 (a5K (E6 (tOp qGt (tCB Z3 (b9 (c8 3) j3)) (tC (.int 0)))) (A4 (K0 (b9A K "list" b9U (c8 3)) (z8 4)) (O8 (tB (a1C (c8 4) (c8 2))) (A4 (a3G (c8 2) (c8 4) (tC (.bl true))) (Y7 (tBM K "list" a3I (c8 3) (b9 (tOp qIx (c8 1) (c8 4)) j3)))) F0))) (K8 (c8 2))))
def a3i(K:Fg):Sp:=spD 2 5 (b2I K)
def b5a(K:Fg):TS:=A4 (fun D σ H=>(Y0 (X0 K (c8 0)) X4 (a0o j3)) σ H fun v H1=>D.nx (σ.set 1 (some v)) H1) (A4 (a1T (a9I K (b9 (c8 0) j3)) (b2o K 2 (a1X (z8 2) (a1X (z8 3) (b2p)))) (a1T (X0 K (c8 3)) (z8 4) (Y7 (tBM K "list" U7 (tOp qIx (c8 1) (c8 4)) (b9 (c8 2) j3))))) (K8 (c8 1)))
def a6n(K:Fg):Sp:=spD 1 5 (b5a K)
def a7N(K:Fg):TS:=A4 (K0 (C0 (a3i K) [] E0 (b9 (a0o (b9 (tC (.int 0)) j3)) (b9 (c8 0) j3))) (z8 1)) (A4 (K0 (C0 (a3i K) [] E0 (b9 (C0 (a2u K) [] E0 (b9 (c8 0) j3)) (b9 (C0 (a6n K) [] E0 (b9 (c8 0) j3)) j3))) (z8 2)) (a1T (a2L (b9 (tCB Z3 (b9 (c8 0) j3)) j3)) (z8 3) (O8 (tOr (tB (a1C (c8 3) (c8 1))) (tB (a1C (c8 3) (c8 2)))) (fun _ _ _=>False) F0)))
def a2i(K:Fg):Sp:=spD 1 4 (a7N K)
def a9C(K:Fg)(c:Cn):TS:=A4 (Y7 (C0 (a1l K) [] E0 (b9 (c8 1) (b9 (tC (.int 0)) (b9 (tC (.int 1)) j3))))) (A4 (Y7 (C0 (a1e K) [] E0 (b9 (Y0 (X0 K (c8 1)) X4 (C0 (a6q K c) [] E0 (b9 (c8 0) j3))) j3))) (A4 (Y7 (C0 (a1F K) [] E0 (b9 (c8 1) (b9 (c8 2) j3)))) (A4 (Y7 (C0 (a2i K) [] E0 (b9 (c8 2) j3))) (A4 (b9R K (c8 0) (tCB a3H (b9 (c8 1) j3)) "rows") (A4 (b9R K (c8 0) (Y0 (X0 K (c8 2)) X4 (tCB a3H (b9 (c8 0) j3))) "nexts") (A4 (b9R K (c8 0) (Y0 (X0 K (c8 1)) X4 (a0o j3)) "entries") (a1T (X0 K (C0 (a2v K c) [] E0 (b9 (a3S K (c8 0) "nexts") j3))) (z8 3) (Y7 (tBM K "list" U7 (tOp qIx (a3S K (c8 0) "entries") (a1c c.K6 "leads_to" (R1 K c) [] E0 (c8 0) (b9 (c8 3) j3))) (b9 (c8 3) j3))))))))))
def a0U(K:Fg)(c:Cn):Sp:=spD 3 4 (a9C K c)
def c1S(K:Fg)(c:Cn):TS:=A4 (K0 (C0 (b3E K) [] E0 (b9 (c8 0) j3)) (z8 1)) (A4 (K0 (a0o (b9 (C0 (a5N K) [] E0 (b9 (c8 1) j3)) (b9 (C0 (a5N K) [] E0 (b9 (c8 1) j3)) j3))) (z8 2)) (A4 (K0 (a0o j3) (z8 3)) (A4 (K0 (a0o j3) (z8 4)) (A4 (a1T (X0 K (c8 2)) (b2o K 2 (a1X (z8 5) (a1X (z8 6) (b2p)))) (A4 (K0 (a0o (b9 (tCB a3H (b9 (c8 5) j3)) (b9 (Y0 (X0 K (c8 6)) X4 (tCB a3H (b9 (c8 0) j3))) j3))) (z8 7)) (A4 (Y7 (tBM K "list" U7 (c8 3) (b9 (b0D c.K6 (a0U K c) [] E0 (b9 (tOp qIx (c8 7) (tC (.int 0))) (b9 (tOp qIx (c8 7) (tC (.int 1))) j3))) j3))) (A4 (O8 (E6 (tOp (b7o K) (c8 7) (a0o (b9 (c8 5) (b9 (c8 6) j3))))) (K8 (tC (.bl false))) F0) (A4 (K0 (C0 (a4G K c) [] E0 (b9 (tOp qIx (c8 3) (tUn (rU fun i=>.int (-i)) (tC (.int 1)))) (b9 (tCB Z3 (b9 (c8 5) j3)) j3))) (z8 8)) (A4 (Y7 (tBM K "list" U7 (c8 4) (b9 (a2E (b9 (c8 8) (b9 (C0 (a9Y K) [] E0 (b9 (c8 8) j3)) j3))) j3))) (Y7 (C0 (a7X K) [] E0 (b9 (c8 1) (b9 (tOp qIx (c8 7) (tC (.int 0))) (b9 (tOp qIx (c8 7) (tC (.int 1))) j3))))))))))) (A4 (a1T (c6b K (a2E (b9 (tC (.int 1)) (b9 (tC (.int 0)) (b9 (tC (.int 1)) j3))))) (z8 9) (A4 (K0 (tOp qIx (c8 2) (c8 9)) (b2o K 2 (a1X (z8 5) (a1X (z8 6) (b2p))))) (A4 (O8 (tOr (a2t (tB (C0 (a4r K) [] E0 (b9 (tOp qIx (c8 3) (c8 9)) (b9 (c8 5) (b9 (c8 6) j3)))))) (E6 (tOp (b7o K) (C0 (a4G K c) [] E0 (b9 (tOp qIx (c8 3) (c8 9)) (b9 (tCB Z3 (b9 (c8 5) j3)) j3))) (tOp qIx (tOp qIx (c8 4) (c8 9)) (tC (.int 1)))))) (K8 (tC (.bl false))) F0) (O8 (a2t (tB (C0 (a2N K c) [] E0 (b9 (tOp qIx (c8 3) (c8 9)) (b9 (tCB Z3 (b9 (c8 5) j3)) j3))))) (K8 (tC (.bl false))) F0)))) (A4 (K0 (b0D c.K6 (a0U K c) [] E0 (b9 (tOp qIx (tOp qIx (c8 2) (tC (.int 0))) (tC (.int 0))) (b9 (tOp qIx (tOp qIx (c8 2) (tC (.int 0))) (tC (.int 1))) j3))) (z8 10)) (A4 (O8 (tOr (E6 (tOp (b7o K) (C0 (a4G K c) [] E0 (b9 (c8 10) (b9 (tCB Z3 (b9 (tOp qIx (tOp qIx (c8 2) (tC (.int 0))) (tC (.int 0))) j3)) j3))) (tOp qIx (tOp qIx (c8 4) (tC (.int 0))) (tC (.int 1))))) (a2t (tB (C0 (a4r K) [] E0 (b9 (c8 10) (b9 (tOp qIx (tOp qIx (c8 2) (tC (.int 0))) (tC (.int 0))) (b9 (tOp qIx (tOp qIx (c8 2) (tC (.int 0))) (tC (.int 1))) j3))))))) (K8 (tC (.bl false))) F0) (K8 (a1d (tOp (c4P K) (tOp qIx (tOp qIx (c8 4) (tC (.int 0))) (tC (.int 0))) (tOp qIx (tOp qIx (c8 4) (tC (.int 0))) (tC (.int 1)))) (tOp (c4P K) (tOp qIx (tOp qIx (c8 4) (tC (.int 1))) (tC (.int 0))) (tOp qIx (tOp qIx (c8 4) (tC (.int 1))) (tC (.int 1)))))))))))))
def b0I(K:Fg):Sp:=fun vs H Q _=>vs.length=1/\∀c,a2I K c->c1S K c { nx:=fun _ H'=>Q .non H',rt:=Q } (vs.map some++C6 (11 - vs.length) none) H
end RD
local macro_rules | `(tactic| walk_at "st") => `(tactic| (with_reducible first
 | refine RD.c2v ?_ | refine RD.b3Q ?_ | refine RD.c2r ?_ | refine RD.c9H ?_ | refine RD.b7j ?_ | refine RD.c9N ?_ | refine RD.c2o ?_ | refine RD.c7n ?_ | refine RD.c9G ?_ | refine RD.c9J ?_ | refine RD.c9Q ?_ | refine RD.d1f ?_ | refine RD.c7x ?_ | refine RD.c9I ?_ | refine RD.c7r ?_ | refine RD.c9M ?_ | refine RD.c7q ?_ | refine RD.c4J ?_ | refine RD.d1c ?_ | refine RD.c9K ?_ | refine RD.s_c ?_ | refine RD.a8T ?_ | refine RD.b5v ?_ | refine RD.c7v ?_ | refine RD.c9O ?_ | refine RD.c6N ?_ | refine RD.c9L ?_ | refine RD.d1e ?_ | refine RD.c7p ?_ | refine RD.c2n ?_ | refine RD.s_rev ?_ | refine RD.b7f ?_ | refine RD.c7w ?_ | refine RD.c9P ?_
 | refine RD.a3D (by with_unfolding_all rfl) ?_ | refine Exists.intro _ (And.intro (Eq.refl (L2.V.bl _)) ?_) | refine Exists.intro _ (And.intro (Eq.refl (L2.V.int _)) ?_)
 | refine RD.d0c ?_ | refine RD.c7I ?_ | refine RD.d1k ?_ | refine RD.d0d ?_ | refine RD.d1l rfl ?_ | refine RD.d1j rfl ?_))
local macro_rules | `(tactic| walk_at "ev") => `(tactic| repeat walk_at "st")
local macro_rules | `(tactic| walk_at "go") => `(tactic| repeat (first | with_reducible refine RD.X5 ?_ | walk_at "st"))
local macro_rules | `(tactic| ext) => `(tactic| walk_at "ev")
local macro_rules | `(tactic| exists $t:term) => `(tactic| (refine $t; walk_at "ev"))
local macro_rules | `(tactic| specialize $t:term) => `(tactic| (with_reducible refine $t; walk_at "ev"))
local macro_rules | `(tactic| exact_mod_cast $t:term) => `(tactic| with_reducible refine $t)
local macro_rules | `(tactic| nofun) => `(tactic| (with_reducible refine RD.X5 ?_; walk_at "ev"))
namespace RD
open PySem PySem.Spec L2
variable{C a b c d dx l na p ra w:Addr}{H H' H0 H1:Hp}{o:HO}{xs ys:List V}{i j m n t0:Nat}{D:b1I}{σ:St}{ta te:TE}{tt:TT}{Q:VK}{v:V}{z:Str}{ss:List Str}{QD:Hp->Prop}{R:It->Hp->Prop}{ks:List (List Key)}{M N:Nt}{ns:List Int}{as ps rs vs:List Addr}{Z:Addr->Prop}{RC:Nat->List V}{Do:Nat->Bool}{kvs:List (Key×V)}
section
variable {D:Addr}
theorem c7u(h:ta σ H fun v H2=>∃x,v=.str x/\R (Its x) H2):c6c ta σ H R:=h
theorem c3R{x:Str}(Pv:Nat->List V->Hp->Prop)(h0:Pv 0 [] (upd H1 D (.lst [])))(hP:∀i ys H,Pv i ys H->H D=some (.lst ys))
  (step:∀i c ys H2,x.cps[i]? = some c->Pv i ys H2->∀(R:VK) (R':Hp->Prop),(∀y H5,H5 D=some (.lst ys)->ys.length<u8->Pv (i+1) (ys++[y]) (upd H5 D (.lst (ys++[y])))->R y H5)->(∀H4,Pv (i+1) ys H4->R' H4) ->
   tt (some (.str ⟨#[c]⟩)::σ) H2 fun ok H4=>if ok=true then te (some (.str ⟨#[c]⟩)::σ) H4 R else R' H4)
  (done:∀ys H2,Pv x.length ys H2->QD H2) :
  ∃W:Nat->Nat->List V->Hp->Prop,(∃m,W 0 m [] (upd H1 D (.lst [])))/\∀i m ys H2,W i m ys H2->H2 D=some (.lst ys) /\
   (((Its x).stop i H2 /\ QD H2) \/ ((Its x).go i H2 /\ ∀ v H3,(Its x).yld i H2 v H3 -> tt (some v :: σ) H3 fun ok H4 => if ok = true then
     te (some v::σ) H4 (fun y H5=>H5 D=some (.lst ys)/\ys.length<u8/\∃m',m'<m/\W (i+1) m' (ys++[y]) (upd H5 D (.lst (ys++[y]))))
     else ∃m',m'<m/\W (i+1) m' ys H4)):=by
 refine⟨fun i m ys H=>m=x.length - i/\i<=x.length/\Pv i ys H,⟨x.length,rfl,L6 _,h0⟩,?_⟩
 rintro i m ys H2 ⟨rfl,hi,p⟩
 refine⟨hP i ys H2 p,?_⟩
 by_cases hlt:i<x.length
 ·refine .inr ⟨hlt,fun v H3 y=>?_⟩
  obtain⟨e,c,hc,ev⟩:=y
  subst e ev
  exact step i c ys _ hc p _ _ (fun y H5 h1 h2 h3=>⟨h1,h2,x.length - (i+1),by omega,rfl,hlt,h3⟩) fun H4 h=>⟨x.length - (i+1),by omega,rfl,hlt,h⟩
 ·have e:i=x.length:=by omega
  subst e
  exact .inl ⟨j6 _,done ys H2 p⟩
end
def sgn(S:Str)(c:Nat):Bool := !(Builtin.Str.occurrences S ⟨#[c]⟩ 0 S.length 1).isEmpty
theorem c6R{S:Str}{c:Nat}(h:Q (.bl (sgn S c)) H):qIn false (.str ⟨#[c]⟩) (.str S) H Q:=h
abbrev LET:Str := "abcdefghijklmnopqrstuvwxyz"
abbrev SGN:Str := "abcdefghijklmnopqrstuvwxyz0123456789"
theorem c2b:LET++("0123456789" : Str)=SGN:=by decide +kernel
def a5n(z:Str):Bool:=decide (1<=z.length)&&decide (z.length<=8)&&(match z.cps[0]? with | some c=>sgn LET c | none=>false)&&z.cps.toList.all (sgn SGN)
theorem b5U{K:Fg}{E:XK}(hz:z.length<=100)(k:∀H',A0 H H'->Q (.bl (a5n z)) H'):a0x K [.str z] H Q E:=by
 refine⟨rfl,?_⟩
 unfold a8J
 have hz':=small (show z.length<=100000 by omega)
 nofun
 exists a1W (s := "str") rfl (by decide) ?_
 exists C7 (by decide) ?_
 exists c7G hz' ?_
 by_cases h1:1<=z.length
 case neg=>
  exists C7 (d2F (by omega)) ?_
  exists K9 rfl ?_
  have e:a5n z=false:=by unfold a5n;rw[d2F h1];simp
  rw[<-e]
  exact k H (A0.refl _)
 exists K9 (d2G (by omega)) ?_
 by_cases h8:z.length<=8
 case neg=>
  rw[d2F (show ¬((z.length:Int)<=8) by omega)]
  exists K9 rfl ?_
  have e:a5n z=false:=by unfold a5n;rw[d2F h8];simp
  rw[<-e]
  exact k H (A0.refl _)
 rw[d2G (show(z.length:Int)<=8 by omega)]
 exists C7 rfl ?_
 have hl:z.cps.toList.length=z.length:=E5
 obtain⟨c0,hc0,hc1⟩:=a3Z (xs:=z.cps.toList) (i:=0) (by decide) (by omega)
 have hc2:z.cps[0]? = some c0:=by rw[<-L4];exact hc1
 exists c2C hz' hc0 ?_
 have en:a5n z=(sgn LET c0&&z.cps.toList.all (sgn SGN)):=by
  unfold a5n
  rw[d2G h1,d2G h8,hc2]
  simp
 refine c6R (S:=LET) ?_
 refine⟨_,rfl,?_⟩
 cases hs:sgn LET c0 with
 | false=>
  refine c8U ?_
  have e:a5n z=false:=by rw[en,hs];rfl
  rw[<-e]
  exact k H (A0.refl _)
 | true=>
  exists b5T ?_
  specialize Z9 (c7u ?_)
  refine⟨z,rfl,fun D hD=>?_⟩
  refine c3R (fun i ys H2=>ys=(z.cps.toList.take i).map (fun c=>V.bl (sgn SGN c))/\H2=upd H D (.lst ys)) ⟨by simp,rfl⟩ ?_ ?_ ?_
  ·rintro i ys _ ⟨_,rfl⟩
   exact d8
  ·rintro i c ys _ hc ⟨rfl,rfl⟩ R R' hR hR'
   have hc':z.cps.toList[i]? = some c:=by rw[L4];exact hc
   ext
   exists b5T ?_
   refine b7m (small (by decide +kernel)) ?_
   have e:(("abcdefghijklmnopqrstuvwxyz" : Str)++("0123456789" : Str))=SGN:=c2b
   rw[e]
   refine c6R (S:=SGN) ?_
   refine hR (.bl (sgn SGN c)) _ d8 (J8 ?_) ⟨?_,?_⟩
   ·rw[a9,L9];omega
   ·rw[O2,hc'];simp
   ·rw[a9V]
  ·rintro ys _ ⟨rfl,rfl⟩
   ext
   have eb:a0d ((z.cps.toList.take z.length).map (fun c=>V.bl (sgn SGN c)))=some ((z.cps.toList.take z.length).map (sgn SGN)):=by
    generalize z.cps.toList.take z.length=l
    induction l with
    | nil=>rfl
    | cons a r ih=>simp[a0d,ih]
   have ea:((z.cps.toList.take z.length).map (sgn SGN)).all id=a5n z:=by
    rw[en,hs,d0L,a2p (by omega),List.all_map]
    rfl
   refine(show b1a [.ref D] _ _ from ?_)
   unfold b1a
   simp only[d8]
   refine⟨_,eb,?_⟩
   rw[ea]
   exact k _ (D0 hD)
def NmS(s:Str):Prop:=a5n s=true/\s.length<=8
def OpN(v:V):Prop:=(∃s,v=.str s/\NmS s)\/∃n:Int,v=.int n/\0<=n/\n<1000000000000
theorem OpN.flat{v:V}(h:OpN v):V4 v=true:=by
 rcases h with ⟨s,rfl,_⟩ | ⟨n,rfl,_⟩ <;> rfl
abbrev c4d:List Str:=["plus","minus","times","less","same"]
def a6U(H:Hp)(p:Addr):Prop:=∃k v1 v2,H p=some (.tup [.str k,v1,v2])/\OpN v1/\OpN v2/\k∈c4d
theorem a6U.ts(h:a6U H p)(t:L0 H H'):a6U H' p:=by
 obtain⟨k,v1,v2,h,a,b,c⟩:=h
 exact⟨k,v1,v2,t _ _ h,a,b,c⟩
inductive a5u(H:Hp):List V->Prop
 | set (n:Str) (p:Addr):NmS n->a6U H p->a5u H [.str "set",.str n,.ref p]
 | copy (n:Str) (v:V):NmS n->OpN v->a5u H [.str "copy",.str n,v]
 | take (n:Str):NmS n->a5u H [.str "take",.str n]
 | tell (v:V):OpN v->a5u H [.str "tell",v]
 | ask (v:V):OpN v->a5u H [.str "ask",v]
 | skip:a5u H [.str "skip"]
theorem a5u.ts(h:a5u H xs)(t:L0 H H'):a5u H' xs:=by
 cases h with
 | set n p a d=>exact .set n p a (d.ts t)
 | copy n v a o=>exact .copy n v a o
 | take n a=>exact .take n a
 | tell v o=>exact .tell v o
 | ask v o=>exact .ask v o
 | skip=>exact .skip
def a9T(H:Hp)(v:V)(ask:Bool):Prop:=∃p xs,v=.ref p/\H p=some (.tup xs)/\a5u H xs/\(∃k r,xs=.str k::r/\decide ((k:Str) = "ask")=ask)
theorem a9T.ts{a:Bool}(h:a9T H v a)(t:L0 H H'):a9T H' v a:=by
 obtain⟨p,xs,rfl,h,r,q⟩:=h
 exact⟨p,xs,rfl,t _ _ h,r.ts t,q⟩
theorem c8W{n:Int}(k:Q (.bl true) H) :
  K8 (a1d (tCB a3s (b9 (c8 0) (b9 (tC (.ty "int")) j3))) (b2N (tCB a3s (b9 (c8 0) (b9 (tC (.ty "bool")) j3))))) { nx:=fun _ H'=>Q .non H',rt:=Q } [some (.int n)] H:=by
 ext
 exists a1W (s := "int") rfl (by decide) ?_
 exists K9 (by decide) ?_
 exists a1W (s := "int") rfl (by decide) ?_
 exact k
theorem a2P{K:Fg}{n:Int}{E:XK}(k:Q (.bl true) H):a0N K [.int n] H Q E:=⟨rfl,c8W k⟩
theorem b4j{K:Fg}{n:Int}{E:XK}(h0:0<=n)(h1:n<1000000000000)(k:Q (.bl true) H):a3B K [.int n] H Q E:=by
 refine⟨rfl,?_⟩
 unfold b0A
 ext
 refine a2P ?_
 exists ⟨_,rfl,b5T ?_⟩
 exists K9 (d2G h0) ?_
 show Q (.bl (decide (n<1000000000000))) H
 rw[d2G h1]
 exact k
theorem a5c{K:Fg}{n m:Int}{E:XK}(h0:0<=n)(h1:n<m)(k:Q (.bl true) H):a1s K [.int n,.int m] H Q E:=by
 refine⟨rfl,?_⟩
 unfold b0B
 ext
 refine a2P ?_
 exists ⟨_,rfl,b5T ?_⟩
 exists K9 (d2G h0) ?_
 show Q (.bl (decide (n<m))) H
 rw[d2G h1]
 exact k
theorem a5b{K:Fg}{E:XK}(h:NmS z)(k:∀H',A0 H H'->Q (.bl true) H'):a0x K [.str z] H Q E:=by
 refine b5U (by have:=h.2;omega) fun H' s=>?_
 rw[h.1]
 exact k H' s
theorem b5V{K:Fg}{n:Int}{E:XK}(k:Q (.bl false) H):a0x K [.int n] H Q E:=by
 refine⟨rfl,?_⟩
 unfold a8J
 nofun
 exists a1W (s := "int") rfl (by decide) ?_
 refine K9 (by decide) ?_
 exists K9 rfl ?_
 exact k
theorem a1h{K:Fg}{E:XK}(h:OpN v)(k:∀H',A0 H H'->Q (.bl true) H'):a0j K [v] H Q E:=by
 refine⟨rfl,?_⟩
 unfold a7M
 ext
 rcases h with ⟨s,rfl,hs⟩ | ⟨n,rfl,h0,h1⟩
 ·refine a5b hs fun G s=>?_
  exact⟨_,rfl,b5T (k G s)⟩
 ·refine b5V ?_
  exists ⟨_,rfl,c8U ?_⟩
  exact b4j h0 h1 (k H (A0.refl _))
theorem c3A{k:Str}(h:k∈c4d):inV (.str k) [.str "plus",.str "minus",.str "times",.str "less",.str "same"]=true:=by
 simp only[c4d,j4,v8,or_false]at h
 rcases h with rfl | rfl | rfl | rfl | rfl <;> decide +kernel
theorem b7R{K:Fg}{c:Cn}{E:XK}(ck:a2I K c)(h:a6U H p)(k:∀H',A0 H H'->Q (.bl true) H'):a4I K c [.ref p] H Q E:=by
 obtain⟨kd,v1,v2,hp,o1,o2,hk⟩:=h
 refine⟨rfl,?_⟩
 unfold b2L
 nofun
 exists a1W (s := "tuple") (by simp only[a1B,hp]) (by decide) ?_
 exists C7 (by decide) ?_
 exists a5R hp ?_
 exists C7 (by simp) ?_
 exists M7 hp (a0p _ _) ?_
 refine⟨_,_,rfl,ck.b4H H,rfl,rfl,?_⟩
 exists ⟨_,rfl,K9 (c3A hk) ?_⟩
 exists M7 hp (a2z _ _ _) ?_
 refine a1h o1 fun G1 s1=>?_
 exists ⟨_,rfl,b5T ?_⟩
 exists M7 (s1 _ _ hp) (b6x _ _ _ _) ?_
 exact a1h o2 fun G2 s2=>k G2 (s1.trans s2)
theorem d0I(a:V)(r:List V):a7v (a::r) (some 1) none=r:=by
 unfold a7v
 have e:HT.sIx (a::r).length 0 (some 1)=1:=by
  have:=HT.b3S (a::r).length 0 1
  rw[show((1:Nat):Int)=1 from rfl]at this
  rw[this,A2]
  omega
 rw[e]
 show List.take ((a::r).length - 1) r=r
 rw[a2p (by simp)]
theorem c3m(a:V)(r:List V):¬(HT.sIx (a::r).length 0 (some 1)=0/\HT.sIx (a::r).length (a::r).length none=(a::r).length):=by
 intro h
 have e:HT.sIx (a::r).length 0 (some 1)=1:=by
  have:=HT.b3S (a::r).length 0 1
  rw[show((1:Nat):Int)=1 from rfl]at this
  rw[this,A2]
  omega
 omega
theorem c0B{K:Fg}{c:Cn}{a:Bool}{E:XK}(ck:a2I K c)(h:a9T H v a)(k:∀H',A0 H H'->Q (.bl true) H'):a6q K c [v] H Q E:=by
 obtain⟨p,xs,rfl,hp,hr,kd,r,rfl,_⟩:=h
 refine⟨rfl,?_⟩
 unfold b5f
 nofun
 exists a1W (s := "tuple") (by simp only[a1B,hp]) (by decide) ?_
 exists C7 (by decide) ?_
 exists a5R hp ?_
 exists C7 (d2F (by intro z;have:=V.int.inj z;rw[A2]at this;omega)) ?_
 nofun
 exists M7 hp (a0p _ _) ?_
 nofun
 refine c9W hp (c3m _ _) fun q G hq e s=>?_
 rw[d0I]at e
 ext
 have hr:=hr.ts (A0.ts s)
 cases hr with
 | set n d hn hd=>
  nofun
  exists K9 (by decide) ?_
  exists a5R e ?_
  exists K9 (by simp) ?_
  exists M7 e (a0p _ _) ?_
  refine a5b hn fun G1 s1=>?_
  exists ⟨_,rfl,b5T ?_⟩
  exists M7 (s1 _ _ e) (a2z _ _ _) ?_
  exact b7R ck (hd.ts (A0.ts s1)) fun G2 s2=>k G2 ((s.trans s1).trans s2)
 | copy n v hn ho=>
  nofun
  exists C7 (by decide) ?_
  nofun
  exists K9 (by decide) ?_
  exists a5R e ?_
  exists K9 (by simp) ?_
  exists M7 e (a0p _ _) ?_
  refine a5b hn fun G1 s1=>?_
  exists ⟨_,rfl,b5T ?_⟩
  exists M7 (s1 _ _ e) (a2z _ _ _) ?_
  exact a1h ho fun G2 s2=>k G2 ((s.trans s1).trans s2)
 | take n hn=>
  nofun
  exists C7 (by decide) ?_
  nofun
  exists C7 (by decide) ?_
  nofun
  exists K9 (by decide) ?_
  exists a5R e ?_
  exists K9 (by simp) ?_
  exists M7 e (a0p _ _) ?_
  exact a5b hn fun G1 s1=>k G1 (s.trans s1)
 | tell v ho=>
  nofun
  exists C7 (by decide) ?_
  nofun
  exists C7 (by decide) ?_
  nofun
  exists C7 (by decide) ?_
  nofun
  refine E7 (by simp) fun q2 G2 hq2 e2 s2=>?_
  exists a8h e2 rfl rfl ?_
  exists K9 (by decide +kernel) ?_
  exists a5R (s2 _ _ e) ?_
  exists K9 (by simp) ?_
  exists M7 (s2 _ _ e) (a0p _ _) ?_
  exact a1h ho fun G1 s1=>k G1 ((s.trans s2).trans s1)
 | ask v ho=>
  nofun
  exists C7 (by decide) ?_
  nofun
  exists C7 (by decide) ?_
  nofun
  exists C7 (by decide) ?_
  nofun
  refine E7 (by simp) fun q2 G2 hq2 e2 s2=>?_
  exists a8h e2 rfl rfl ?_
  exists K9 (by decide +kernel) ?_
  exists a5R (s2 _ _ e) ?_
  exists K9 (by simp) ?_
  exists M7 (s2 _ _ e) (a0p _ _) ?_
  exact a1h ho fun G1 s1=>k G1 ((s.trans s2).trans s1)
 | skip=>
  nofun
  exists C7 (by decide) ?_
  nofun
  exists C7 (by decide) ?_
  nofun
  exists C7 (by decide) ?_
  nofun
  refine E7 (by simp) fun q2 G2 hq2 e2 s2=>?_
  exists a8h e2 rfl rfl ?_
  exists C7 (by decide +kernel) ?_
  exists K9 (by decide) ?_
  exists a5R (s2 _ _ e) ?_
  have e0:decide (V.int ((([]:List V).length:Nat):Int)=V.int 0)=true:=by decide
  rw[e0]
  exact k G2 (s.trans s2)
theorem ix0{α:Type}(a b c d:α):ixN [a,b,c,d].length 0=some 0:=by
 show ixN 4 0=some 0
 decide
theorem ix1{α:Type}(a b c d:α):ixN [a,b,c,d].length 1=some 1:=by
 show ixN 4 1=some 1
 decide
theorem ix2{α:Type}(a b c d:α):ixN [a,b,c,d].length 2=some 2:=by
 show ixN 4 2=some 2
 decide
structure b1K(H:Hp)(b:Addr)(i0 i1 i2:Int)(c:Addr)(ns:List Int):Prop where
 hb:H b=some (.lst [.int i0,.int i1,.int i2,.ref c])
 hc:H c=some (.lst (ns.map V.int))
 p0:0<=i0
 p1:0<=i1
 p1':i1<2147483647
 p2:0<=i2
 pn:∀x∈ns,0<=x
theorem b1K.bag{i0 i1 i2:Int}(h:b1K H b i0 i1 i2 c ns):Bag H b c:=⟨i0,i1,i2,ns,h.hb,h.hc,h.p0,h.p1,h.p1',h.p2,h.pn⟩
theorem Bag.parts(h:Bag H b c):∃i0 i1 i2 ns,b1K H b i0 i1 i2 c ns:=by
 obtain⟨i0,i1,i2,ns,h1,h2,h3,h4,h5,h6,h7⟩:=h.ex
 exact⟨i0,i1,i2,ns,h1,h2,h3,h4,h5,h6,h7⟩
theorem b1K.ne{i0 i1 i2:Int}(h:b1K H b i0 i1 i2 c ns):c≠b:=S8 h.hc h.hb (by
  intro z
  have z:=HO.lst.inj z
  cases ns with
  | nil=>cases z
  | cons a r=>cases r with
   | nil=>cases z
   | cons a2 r=>cases r with
    | nil=>cases z
    | cons a3 r=>cases r with
     | nil=>cases z
     | cons a4 r=>simp at z)
theorem b1K.put{i0 i1 i2 j0 j1 j2:Int}(h:b1K H b i0 i1 i2 c ns)(q0:0<=j0)(q1:0<=j1)(q1':j1<2147483647)(q2:0<=j2) :
  b1K (upd H b (.lst [.int j0,.int j1,.int j2,.ref c])) b j0 j1 j2 c ns:=⟨d8,by rw[j7 h.ne];exact h.hc,q0,q1,q1',q2,h.pn⟩
theorem O9{K:Fg}{many:Int}{E:XK}(hB:Bag H b c)(h0:0<many)(h1:many<2 ^ 64)
  (k:∀n H',0<=n->n<many->Bag H' b c->G0 b H H'->Q (.int n) H'):M4 K [.ref b,.int many] H Q E:=by
 obtain⟨i0,i1,i2,ns,B⟩:=hB.parts
 refine⟨rfl,?_⟩
 unfold c1Q
 refine a2K (P:=fun σ H1=>∃x2 x3 j0 j1 j2,σ=[some (.ref b),some (.int many),x2,x3,none,none,none]/\b1K H1 b j0 j1 j2 c ns/\G0 b H H1) ?_ ?_
 ·-- the second part
  rintro _ H1 ⟨x2,x3,j0,j1,j2,rfl,B1,k1⟩
  refine a2K (P:=fun σ H2=>H2=H1/\σ=[some (.ref b),some (.int many),x2,x3,none,none,none]) ?_ ?_
  ·rintro _ _ ⟨rfl,rfl⟩
   walk_at "go"
   refine F1 B1.hb (a2z _ _ _) ?_
   walk_at "go"
   refine a2w (.inr (by omega)) ?_
   walk_at "go"
   refine a2w (by omega) ?_
   walk_at "go"
   have g1:=a0t (j1 * 39373) (show(1000000007:Int)≠0 by decide)
   have g2:=a0f (j1 * 39373) (show(0:Int)<1000000007 by decide)
   refine a2w (.inr (by omega)) ?_
   walk_at "go"
   refine a2w (by omega) ?_
   walk_at "go"
   have g3:=a0t (j1 * 39373 % 1000000007 * 30011) (show(998244353:Int)≠0 by decide)
   have g4:=a0f (j1 * 39373 % 1000000007 * 30011) (show(0:Int)<998244353 by decide)
   refine a2e (fun _=>?_) (fun _=>?_)
   ·walk_at "go"
    refine a2w (.inr (by omega)) ?_
    walk_at "go"
    refine a2w h0 ?_
    exact k _ _ (a0t _ (by omega)) (a0f _ h0) B1.bag k1
   ·walk_at "go"
    refine a2w (by omega) ?_
    walk_at "go"
    refine a2w h0 ?_
    exact k _ _ (a0t _ (by omega)) (a0f _ h0) B1.bag k1
  ·intro nx hnx
   walk_at "go"
   refine F1 B1.hb (a0p _ _) ?_
   walk_at "go"
   refine a2e (fun _=>?_) (fun _=>?_)
   ·walk_at "go"
    refine F1 B1.hb (a0p _ _) ?_
    walk_at "go"
    refine a2w h0 ?_
    walk_at "go"
    refine F1 B1.hb (a0p _ _) ?_
    walk_at "go"
    refine a2w ⟨h0,h1⟩ ?_
    walk_at "go"
    refine b8B B1.hb (ix0 _ _ _ _) ?_
    walk_at "go"
    refine k _ _ (a0t _ (by omega)) (a0f _ h0) (B1.put (Int.ediv_nonneg B1.p0 (by omega)) B1.p1 B1.p1' B1.p2).bag (k1.trans (G0.upd _ _ _))
   ·walk_at "go"
    exact hnx _ _ ⟨rfl,rfl⟩
 ·intro nx hnx
  walk_at "go"
  refine F1 B.hb (a0p _ _) ?_
  walk_at "go"
  refine a2e (fun e=>?_) (fun _=>?_)
  ·have e:i0=0:=by simpa using e
   subst e
   nofun
   exact_mod_cast a2K (P:=fun σ H1=>∃m x3 j0 j2,σ=[some (.ref b),some (.int many),some (.int m),x3,none,none,none]/\b1K H1 b j0 i1 j2 c ns/\G0 b H H1/\0<=m) ?_ ?_
   ·rintro _ H1 ⟨m,x3,j0,j2,rfl,B1,k1,hm⟩
    walk_at "go"
    refine F1 B1.hb (a2z _ _ _) ?_
    walk_at "go"
    refine a2w (.inr (by omega)) ?_
    walk_at "go"
    refine a2w (by omega) ?_
    walk_at "go"
    refine b8B B1.hb (ix1 _ _ _ _) ?_
    have g1:=a0t (i1 * 48271+m) (show(2147483647:Int)≠0 by decide)
    have g2:=a0f (i1 * 48271+m) (show(0:Int)<2147483647 by decide)
    exact hnx _ _ ⟨_,x3,j0,_,j2,rfl,B1.put B1.p0 g1 g2 B1.p2,k1.trans (G0.upd _ _ _)⟩
   ·intro nx2 hnx2
    walk_at "go"
    refine F1 B.hb (b6x _ _ _ _) ?_
    walk_at "go"
    refine F1 B.hb (d0J _ _ _ _ _) ?_
    walk_at "go"
    refine R6 B.hc ?_
    walk_at "go"
    refine a2e (fun e=>?_) (fun _=>?_)
    ·have e:i2<(ns.length:Int):=by simpa using e
     obtain⟨v,ev,ev2⟩:=a3Z (xs:=ns.map V.int) B.p2 (by simpa using e)
     obtain⟨z,ez,rfl⟩:∃z,ns[i2.toNat]? = some z/\v=V.int z:=by
      rw[b8]at ev2
      cases q:ns[i2.toNat]? with
      | none=>rw[q]at ev2;cases ev2
      | some z=>rw[q]at ev2;exact⟨z,rfl,(Option.some.inj ev2).symm⟩
     have hz:0<=z:=B.pn z (mI ez)
     walk_at "go"
     refine F1 B.hb (d0J _ _ _ _ _) ?_
     walk_at "go"
     refine F1 B.hb (b6x _ _ _ _) ?_
     walk_at "go"
     refine F1 B.hc ev ?_
     walk_at "go"
     exists d0a B.hb (by decide) rfl ?_
     refine b8B B.hb (ix2 _ _ _ _) ?_
     have B2:=B.put (j0:=0) (j1:=i1) (j2:=i2+1) (Int.le_refl _) B.p1 B.p1' (by have:=B.p2;omega)
     exact_mod_cast a2K (P:=fun σ H1=>∃j0,σ=[some (.ref b),some (.int many),some (.int 12345),some (.int z),none,none,none]/\b1K H1 b j0 i1 (i2+1) c ns/\G0 b H H1) ?_ ?_
     ·rintro _ H1 ⟨j0,rfl,B1,k1⟩
      walk_at "go"
      refine a2w (by omega) ?_
      walk_at "go"
      have g1:=a0t z (show(2147483647:Int)≠0 by decide)
      exact hnx2 _ _ ⟨_,_,j0,_,rfl,B1,k1,by omega⟩
     ·intro nx3 hnx3
      walk_at "go"
      refine a2e (fun _=>?_) (fun _=>?_)
      ·walk_at "go"
       refine b8B B2.hb (ix0 _ _ _ _) ?_
       refine hnx3 _ _ ⟨z,rfl,?_,(G0.upd _ _ _).trans (G0.upd _ _ _)⟩
       exact B2.put hz B.p1 B.p1' (by have:=B.p2;omega)
      ·walk_at "go"
       exact hnx3 _ _ ⟨0,rfl,B2,G0.upd _ _ _⟩
    ·walk_at "go"
     exact hnx2 _ _ ⟨_,_,0,i2,rfl,B,G0.refl _ _,by decide⟩
  ·walk_at "go"
   exact hnx _ _ ⟨_,_,i0,i1,i2,rfl,B,G0.refl _ _⟩
theorem c8Z{K:Fg}{E:XK}(hS:SqL K H a (ns.map V.int))(hl:ns.length<=63)
  (k:∀b c H',Bag H' b c->A0 H H'->H b=none->Q (.ref b) H'):b3E K [.ref a] H Q E:=by
 refine⟨rfl,?_⟩
 unfold c6M
 walk_at "go"
 exact_mod_cast Z9 (W9 ?_)
 walk_at "go"
 refine⟨a,_,rfl,hS,fun p hp=>⟨p,rfl,⟨_,SqL.of d8⟩,fun D hD=>?_⟩⟩
 have hcut:a7v (ns.map V.int) none (some 63)=ns.map V.int:=by
  unfold a7v
  have e:HT.sIx (ns.map V.int).length 0 none=0:=rfl
  have e2:HT.sIx (ns.map V.int).length (ns.map V.int).length (some 63)=ns.length:=by
   have:=HT.b3S (ns.map V.int).length (ns.map V.int).length 63
   rw[a9]at this ⊢
   rw[show((63:Nat):Int)=63 from rfl]at this
   rw[this];omega
  rw[e,e2,List.drop_zero,Nat.sub_zero,a2p (by simp)]
 rw[hcut]at hD ⊢
 have s1:A0 H (upd H p (.lst (ns.map V.int))):=D0 hp
 refine Z0 (xs:=ns.map V.int) (fun i ys H2=>ys=(ns.take i).map (fun x=>V.int (if x<0 then -x else x))/\H2=upd (upd H p (.lst (ns.map V.int))) D (.lst ys)) ⟨by simp,rfl⟩ ?_ ?_ ?_ ?_
 ·rintro i ys _ ⟨_,rfl⟩
  exact d8
 ·rintro i ys _ _ ⟨_,rfl⟩
  refine SqL.of ?_
  rw[j7 (d6 d8 hD),d8]
 ·rintro i x ys _ hx ⟨rfl,rfl⟩ R hR
  rw[b8]at hx
  cases e:ns[i]? with
  | none=>rw[e]at hx;cases hx
  | some z=>
   rw[e]at hx
   cases hx
   ext
   refine hR _ _ d8 (J8 ?_) ⟨?_,?_⟩
   ·rw[a9,L9];omega
   ·rw[O2,e];simp
   ·rw[a9V]
 ·rintro ys _ ⟨rfl,rfl⟩
  ext
  refine E7 (by simp) fun b H4 hb hb4 s4=>?_
  rw[a9,a2p (j6 _)]at hb s4
  refine k b D _ ⟨0,1234567891,0,ns.map (fun x=>if x<0 then -x else x),hb4,?_,by decide,by decide,by decide,by decide,?_⟩ ?_ ?_
  ·rw[s4 D _ d8,V0];rfl
  ·intro x hx
   obtain⟨y,_,rfl⟩:=C8.mp hx
   split <;> omega
  ·exact(s1.trans (D0 hD)).trans s4
  ·exact(s1.trans (D0 hD)).free hb
structure a7z(H:Hp)(a:Addr):Prop where
 ex:∃ss:List Str,H a=some (.lst (ss.map V.str))/\ss≠[]/\ss.length<=8/\∀s∈ss,NmS s
theorem a7z.kept(h:a7z H a)(hB:Bag H b c)(k:G0 b H H'):a7z H' a/\a≠b:=by
 obtain⟨ss,h1,h2,h3,h4⟩:=h.ex
 obtain⟨i0,i1,i2,ns,hb,_⟩:=hB.ex
 have ne:a≠b:=S8 h1 hb (by
  intro z
  have z:=HO.lst.inj z
  cases ss with
  | nil=>exact h2 rfl
  | cons s r=>cases z)
 exact⟨⟨ss,k.1 a _ h1 ne,h2,h3,h4⟩,ne⟩
theorem c4B:∀c∈LET.cps.toList,sgn LET c=true:=by decide +kernel
theorem c4A:∀c∈SGN.cps.toList,sgn SGN c=true:=by decide +kernel
theorem c5R:∀c∈LET.cps.toList,sgn SGN c=true:=by decide +kernel
theorem b7P(cs:List Nat):Txt.join (Str.ofString "") (cs.map fun k=>(⟨#[k]⟩:Str))=⟨cs.toArray⟩:=by
 show Builtin.Str.glued ("") _=_
 rw[StrLaws.glued_eq_join]
 exact PyProof.Rows.join_ones cs
theorem d0x{ch:Nat}{cs:List Nat}(h1:ch∈LET.cps.toList)(h2:∀c∈cs,c∈SGN.cps.toList)(hl:cs.length<=7):NmS ((⟨#[ch]⟩:Str)++⟨cs.toArray⟩):=by
 have hlen:((⟨#[ch]⟩:Str)++⟨cs.toArray⟩).length=cs.length+1:=by
  rw[Str.length_append]
  show 1+cs.toArray.size=_
  rw[l5];omega
 have hc:((⟨#[ch]⟩:Str)++⟨cs.toArray⟩).cps=(ch::cs).toArray:=by
  rw[Str.cps_append]
  show #[ch]++cs.toArray=_
  simp
 refine⟨?_,by omega⟩
 unfold a5n
 rw[hlen,hc]
 have e0:(ch::cs).toArray[0]? = some ch:=by simp
 rw[e0]
 simp only[Z7,decide_eq_true_eq,P9]
 refine⟨⟨⟨by omega,by omega⟩,c4B ch h1⟩,?_⟩
 intro c hcc
 have hcc:c∈ch::cs:=by simpa using hcc
 rcases j4.mp hcc with q | q
 ·subst q;exact c5R _ h1
 ·exact c4A c (h2 c q)
theorem c4z{s:Str}(h:∀s∈ss,NmS s)(hs:NmS s):∀t∈ss++[s],NmS t:=by
 intro t ht
 rcases t5.mp ht with q | q
 ·exact h t q
 ·rw[d9.mp q];exact hs
structure b6z(H:Hp)(a:Addr):Prop where
 ex:∃ps:List Addr,H a=some (.lst (ps.map V.ref))/\ps≠[]/\ps.length<=8/\∀p∈ps,a6U H p
theorem a2m(hB:Bag H b c)(h:H a=some (.lst (as.map V.ref))):a≠b:=by
 obtain⟨i0,i1,i2,ns,hb,_⟩:=hB.ex
 refine S8 h hb ?_
 intro z
 have z:=HO.lst.inj z
 cases as with
 | nil=>cases z
 | cons s r=>cases z
theorem b0M(hB:Bag H b c)(h:H a=some (.lst xs))(hl:xs.length<=3):a≠b:=by
 obtain⟨i0,i1,i2,ns,hb,_⟩:=hB.ex
 refine S8 h hb ?_
 intro z
 have z:=HO.lst.inj z
 rw[z]at hl
 simp at hl
theorem b6z.kept(h:b6z H a)(hB:Bag H b c)(k:G0 b H H'):b6z H' a:=by
 obtain⟨ps,h1,h2,h3,h4⟩:=h.ex
 exact⟨ps,k.1 a _ h1 (a2m hB h1),h2,h3,fun p hp=>(h4 p hp).ts (G0.ts k hB)⟩
structure K7(H:Hp)(a:Addr)(N:Nt):Prop where
 ex:∃as:List Addr,H a=some (.lst (as.map V.ref))/\as.length=N.length/\∀(i:Nat) x l,as[i]? = some x->N[i]? = some l->H x=some (.lst (IL l))
theorem K7.same(h:K7 H a N)(k:A0 H H'):K7 H' a N:=by
 obtain⟨as,h1,h2,h3⟩:=h.ex
 exact⟨as,k a _ h1,h2,fun i x l e1 e2=>k _ _ (h3 i x l e1 e2)⟩
theorem K7.kept(h:K7 H a N)(hB:Bag H b c)(hN:∀l∈N,l.length<=2)(k:G0 b H H'):K7 H' a N:=by
 obtain⟨as,h1,h2,h3⟩:=h.ex
 refine⟨as,k.1 a _ h1 (a2m hB h1),h2,fun i x l e1 e2=>?_⟩
 have q:=h3 i x l e1 e2
 refine k.1 _ _ q (b0M hB q ?_)
 rw[R7]
 have:=hN l (mI e2)
 omega
theorem K7.at(h:K7 H a N){k:Nat}{l:List Nat}(e:N[k]? = some l):∃(xs:List V) (x:Addr),H a=some (.lst xs)/\atI xs (k:Int)=some (.ref x)/\H x=some (.lst (IL l))/\xs.length=N.length:=by
 obtain⟨as,h1,h2,h3⟩:=h.ex
 have hk:k<as.length:=by rw[h2];exact(gI e)
 have e1:as[k]? = some as[k]:=by simp
 refine⟨_,as[k],h1,?_,h3 k _ l e1 e,by rw[a9,h2]⟩
 exact R5 (by rw[b8,e1];rfl)
theorem K7.len(h:K7 H a N):∃xs,H a=some (.lst xs)/\xs.length=N.length:=by
 obtain⟨as,h1,h2,h3⟩:=h.ex
 exact⟨_,h1,by rw[a9,h2]⟩
theorem c4e{l:List Nat}{t:Nat}(e:l[j]? = some t):atI (IL l) (j:Int)=some (.int (t:Int)):=R5 (by unfold IL;rw[b8,e];rfl)
theorem b8C{K:Fg}{E:XK}(hB:Bag H b c)(ha:H a=some (.lst xs))(na:a≠b)(h0:xs≠[])(hl:xs.length<=100)
  (k:∀(n:Int) v H',atI xs n=some v->v∈xs->H' a=some (.lst xs)->Bag H' b c->G0 b H H'->Q (.int n) H'):M4 K [.ref b,.int xs.length] H Q E:=by
 have hp:0<xs.length:=a8C.mpr h0
 refine O9 hB (by omega) (by omega) fun n H1 n0 n1 B1 k1=>?_
 obtain⟨v,hv,hv2⟩:=a3Z (xs:=xs) n0 n1
 exact k n v H1 hv (mI hv2) (k1.1 _ _ ha na) B1 k1
theorem b6W{α:Type}(l:List α):l=[]\/∃r a,l=r++[a]:=by
 cases h:l.reverse with
 | nil=>left;simpa using h
 | cons a r=>
  right
  refine⟨r.reverse,a,?_⟩
  have:=congrArg List.reverse h
  simpa using this
theorem a6d{α:Type}{xs:List α}{a:α}:atI (xs++[a]) (-1)=some a:=by
 unfold atI ixN
 rw[if_neg (by decide),if_pos (by rw[g8,J3];omega)]
 have:(-1+((xs++[a]).length:Int)).toNat=xs.length:=by rw[g8,J3];omega
 rw[this]
 simp
structure b2u(H0 H:Hp)(b c D:Addr)(m:Nat)(as:List Addr)(N:Nt):Prop where
 bag:Bag H b c
 kept:G0 b H0 H
 hD:H D=some (.lst (as.map V.ref))
 nb:D≠b
 nc:D≠c
 len:as.length=N.length
 at_:∀(i:Nat) x l,as[i]? = some x->N[i]? = some l->H x=some (.lst (IL l))/\x≠D/\x≠b
 small:∀l∈N,l.length<=2/\∀t∈l,t<m
theorem b2u.next{D:Addr}(h:b2u H0 H b c D m as N)(B:Bag H' b c)(k:G0 b H H'):b2u H0 H' b c D m as N:=
 ⟨B,h.kept.trans k,k.1 _ _ h.hD h.nb,h.nb,h.nc,h.len,fun i x l e1 e2=>let⟨q1,q2,q3⟩:=h.at_ i x l e1 e2; ⟨k.1 _ _ q1 q3,q2,q3⟩,h.small⟩
structure a8y(H:Hp)(b D q:Addr)(m:Nat)(l:List Nat):Prop where
 h:H q=some (.lst (IL l))
 nD:q≠D
 nb:q≠b
 len:l.length<=2
 lt:∀t∈l,t<m
theorem a8y.next{D q:Addr}{l:List Nat}(h:a8y H b D q m l)(k:G0 b H H'):a8y H' b D q m l:=⟨k.1 _ _ h.h h.nb,h.nD,h.nb,h.len,h.lt⟩
theorem W8{α:Type}{xs:List α}{x y:α}(h:(xs++[x])[i]? = some y):(i<xs.length/\xs[i]? = some y)\/(i=xs.length/\y=x):=by
 by_cases hi:i<xs.length
 ·left
  rw[v9 hi]at h
  exact⟨hi,h⟩
 ·right
  rw[V1 (by omega)]at h
  have:i - xs.length=0:=by
   have:=(gI h)
   simp at this
   omega
  rw[this]at h
  simp at h
  exact⟨by omega,h.symm⟩
theorem b3i{a b:Int}:decide (V.int a=V.int b)=decide (a=b):=by
 by_cases h:a=b
 ·subst h;simp
 ·rw[d2F h,d2F (fun z=>h (V.int.inj z))]
theorem c5Q:∀s∈(["a","k0","ab","set","abc","k1","abcdefgh","b","ask","x9","a1","abcdefg","plus","ba","k10","z"]:List Str),NmS s:=by
 have:∀s∈(["a","k0","ab","set","abc","k1","abcdefgh","b","ask","x9","a1","abcdefg","plus","ba","k10","z"]:List Str),a5n s=true/\s.length<=8:=by decide +kernel
 exact this
theorem c5O{K:Fg}{E:XK}(hB:Bag H b c)(k:∀s H',NmS s->Bag H' b c->G0 b H H'->Q (.str s) H'):a9W K [.ref b] H Q E:=by
 refine⟨rfl,?_⟩
 unfold c1R
 walk_at "go"
 refine b7m (small (by decide +kernel)) ?_
 walk_at "go"
 refine O9 hB (by decide) (by decide) fun n H1 n0 n1 B1 k1=>?_
 obtain⟨ch,hc,hc2⟩:=a3Z (xs:=("abcdefghijklmnopqrstuvwxyz" : Str).cps.toList) n0 (by
  have:(("abcdefghijklmnopqrstuvwxyz" : Str).cps.toList).length=26:=by decide +kernel
  omega)
 refine c2C (small (by decide +kernel)) hc ?_
 walk_at "go"
 exact_mod_cast Z9 (a2b ?_)
 walk_at "go"
 refine O9 B1 (by decide) (by decide) fun m H2 m0 m1 B2 k2=>?_
 walk_at "go"
 refine⟨m,rfl,by omega,by omega,fun D hD=>?_⟩
 obtain⟨nb,nc⟩:=B2.nb hD
 refine a4y (fun i ys H3=>∃cs:List Nat,ys=cs.map (fun k=>V.str (⟨#[k]⟩:Str))/\cs.length=i/\(∀c∈cs,c∈SGN.cps.toList)/\H3 D=some (.lst ys)/\Bag H3 b c/\G0 b H2 H3) ?_ ?_ ?_ ?_
 ·exact⟨[],rfl,rfl,by simp,d8,B2.new hD,G0.new hD⟩
 ·rintro i ys H3 ⟨_,_,_,_,h,_⟩
  exact h
 ·rintro i ys H3 hi ⟨cs,rfl,rfl,h1,hd,B3,k3⟩ R hR
  ext
  refine O9 B3 (by decide) (by decide) fun j H4 j0 j1 B4 k4=>?_
  obtain⟨cj,hcj,hcj2⟩:=a3Z (xs:=(("abcdefghijklmnopqrstuvwxyz" : Str)++("0123456789" : Str)).cps.toList) j0 (by
   have:((("abcdefghijklmnopqrstuvwxyz" : Str)++("0123456789" : Str)).cps.toList).length=36:=by decide +kernel
   omega)
  refine c2C (small (by decide +kernel)) hcj ?_
  refine hR _ _ (k4.1 _ _ hd nb) (J8 (by rw[a9];omega)) ⟨cs++[cj],by simp,by simp,?_,d8,B4.put nb nc,(k3.trans k4).put hD⟩
  intro s hs
  rcases t5.mp hs with q | q
  ·exact h1 s q
  ·rw[d9.mp q,<-c2b]
   exact mI hcj2
 ·rintro ys H3 ⟨cs,rfl,hn,h1,hd,B3,k3⟩
  ext
  have he:cs.map (fun k=>V.str (⟨#[k]⟩:Str))=(cs.map fun k=>(⟨#[k]⟩:Str)).map V.str:=by rw[V0];rfl
  rw[he]at hd
  have hsum:((cs.map fun k=>(⟨#[k]⟩:Str)).map (·.length)).sum=cs.length:=by
   clear hn hd he h1
   induction cs with
   | nil=>rfl
   | cons s r ih=>
    rw[E2,E2,List.sum_cons,ih,A2]
    show 1+_=_
    omega
  refine c7H hd (b0H _) ?_ ?_
  ·rw[hsum,a9]
   show cs.length+cs.length * 0<=_
   omega
  ·have hj:Txt.join (Str.ofString "") (cs.map fun k=>(⟨#[k]⟩:Str))=⟨cs.toArray⟩:=b7P cs
   rw[hj]
   have hl7:cs.length<=7:=by omega
   have hN:=d0x (mI hc2) h1 hl7
   refine b7m (small ?_) ?_
   ·have:=hN.2
    rw[Str.length_append]at this
    omega
   ·exact k _ _ hN B3 ((k1.trans k2).trans k3)
theorem c4a(ss:List Str):(ss.map V.str).all V4=true:=by
 rw[P9]
 intro x hx
 obtain⟨s,_,rfl⟩:=C8.mp hx
 rfl
theorem c3r{K:Fg}{E:XK}(hB:Bag H b c)(k:∀a H',a7z H' a->Bag H' b c->G0 b H H'->H a=none->Q (.ref a) H'):a7Y K [.ref b] H Q E:=by
 refine⟨rfl,?_⟩
 unfold b8u
 walk_at "go"
 refine E7 (by decide) fun p1 G1 h1 e1 s1=>?_
 walk_at "go"
 refine E7 (by decide) fun p2 G2 h2 e2 s2=>?_
 walk_at "go"
 refine b7n (s2 _ _ e1) e2 (E7 (by decide) fun p3 H0 h3 e3 s3'=>?_)
 have s3:A0 H H0:=(s1.trans s2).trans s3'
 have B0:=hB.same s3
 obtain⟨M,hM⟩:∃M:List Str,M=(["a","k0","ab","set","abc","k1","abcdefgh","b","ask","x9","a1","abcdefg","plus","ba","k10","z"]:List Str):=⟨_,rfl⟩
 have hm:H0 p3=some (.lst (M.map V.str)):=by rw[e3,hM];rfl
 have nM:∀s∈M,NmS s:=by rw[hM];exact c5Q
 have lM:M.length=16:=by rw[hM];rfl
 clear hM e1 e2 e3 h1 h2 h3 s1 s2 s3'
 walk_at "go"
 refine O9 B0 (by decide) (by decide) fun f H1 f0 f1 B1 k1=>?_
 walk_at "go"
 refine O9 B1 (by decide) (by decide) fun g H2 g0 g1 B2 k2=>?_
 refine a2w (.inl (by omega)) ?_
 walk_at "go"
 exists E7 (by decide) fun D H2' hD hd2 s2=>?_
 have pb:p3≠b:=by
  obtain⟨i0,i1,i2,ns,hb,_⟩:=B0.ex
  refine S8 hm hb ?_
  intro z
  have z:=HO.lst.inj z
  cases M with
  | nil=>cases lM
  | cons s r=>cases z
 have hm2:H2 p3=some (.lst (M.map V.str)):=k2.1 _ _ (k1.1 _ _ hm pb) pb
 obtain⟨nb,nc⟩:=B2.nb hD
 have hDp:D≠p3:=(d6 hm2 hD).symm
 exact_mod_cast X5 ?_
 exact_mod_cast a0E (a2b ?_)
 walk_at "go"
 refine O9 (B2.same s2) (by decide) (by decide) fun m H3 m0 m1 B3 k3=>?_
 walk_at "go"
 have hd3:H3 D=some (.lst (([]:List Str).map V.str)):=k3.1 _ _ hd2 nb
 have k03:G0 b H2 H3:=(G0.of_same s2).trans k3
 refine⟨2+m,rfl,by omega,by omega,a1v (fun i σ H4=>∃x5 x6 ss,(∀s∈(ss:List Str),NmS s)/\σ=[some (.ref b),some (.ref p3),some (.int f),some (.int (1+2 * g)),some (.ref D),x5,x6]/\H4 D=some (.lst ((ss:List Str).map V.str))/\ss.length<=i/\(0<i->ss≠[])/\Bag H4 b c/\G0 b H2 H4) ?_ ?_ ?_⟩
 ·exact⟨_,_,[],by simp,rfl,hd3,j6 _,by simp,B3,k03⟩
 ·rintro i _ H4 hi ⟨x5,x6,ss,hss,rfl,hd,hl,hne,B4,k4⟩
  have hi:i<(2+m).toNat:=hi
  ext
  exact_mod_cast a2K (P:=fun σ H5=>∃s,NmS s/\σ=[some (.ref b),some (.ref p3),some (.int f),some (.int (1+2 * g)),some (.ref D),some (.int (0+i)),some (.str s)]/\H5 D=some (.lst ((ss:List Str).map V.str))/\Bag H5 b c/\G0 b H2 H5) ?_ ?_
  ·rintro _ H5 ⟨s,hs,rfl,hd5,B5,k5⟩
   exact_mod_cast a2K (P:=fun σ H6=>∃s,NmS s/\σ=[some (.ref b),some (.ref p3),some (.int f),some (.int (1+2 * g)),some (.ref D),some (.int (0+i)),some (.str s)]/\H6 D=some (.lst ((ss:List Str).map V.str))/\Bag H6 b c/\G0 b H2 H6) ?_ ?_
   ·rintro _ H6 ⟨s,hs,rfl,hd6,B6,k6⟩
    ext
    exists c7F hd6 rfl (c4a ss) ?_
    refine a2e (fun e=>?_) (fun e=>?_)
    ·ext
     specialize a4O ?_
     exists ⟨.inl ⟨rfl,_,SqL.of hd6⟩,?_⟩
     refine Y9 hd6 (J8 (by rw[a9];omega)) ?_
     exact⟨_,_,ss++[s],c4z hss hs,rfl,by rw[d8];simp,by rw[g8,J3];omega,fun _=>by simp,B6.put nb nc,k6.put hD⟩
    ·ext
     refine⟨_,_,ss,hss,rfl,hd6,by omega,fun _ z=>?_,B6,k6⟩
     subst z
     exact e rfl
   ·intro nx hnx
    ext
    exists O9 B5 (by decide) (by decide) fun q H6 _ _ B6 k6=>?_
    refine a2e (fun _=>?_) (fun _=>?_)
    ·ext
     exists c5O B6 fun s' H7 hs' B7 k7=>?_
     exact hnx _ _ ⟨s',hs',rfl,k7.1 _ _ (k6.1 _ _ hd5 nb) nb,B7,(k5.trans k6).trans k7⟩
    ·ext
     exact hnx _ _ ⟨s,hs,rfl,k6.1 _ _ hd5 nb,B6,k5.trans k6⟩
  ·intro nx hnx
   ext
   exists a2w (.inl (by omega)) ?_
   refine a2w (by decide) ?_
   obtain⟨v,hv,hv2⟩:=a3Z (xs:=M.map V.str) (i:=(f+(0+(i:Int)) * (1+2 * g)) % 16) (a0t _ (by decide)) (by
    rw[a9,lM]
    exact a0f _ (by decide))
   obtain⟨s,hsM,rfl⟩:=C8.mp (mI hv2)
   exists F1 (k4.1 _ _ hm2 pb) hv ?_
   exact hnx _ _ ⟨s,nM s hsM,rfl,hd,B4,k4⟩
 ·rintro _ H4 ⟨x5,x6,ss,hss,rfl,hd,hl,hne,B4,k4⟩
  walk_at "go"
  refine k D H4 ⟨ss,hd,hne (by omega),by omega,hss⟩ B4 (((G0.of_same s3).trans (k1.trans k2)).trans k4) ?_
  exact(G0.of_same (b:=b) s3).none (k1.none (k2.none hD))
theorem d0g:(10:Int) ^ (12:Int).toNat=1000000000000:=by decide
theorem c1K{K:Fg}{E:XK}(hB:Bag H b c)(k:∀n H',0<=n->n<1000000000000->Bag H' b c->G0 b H H'->Q (.int n) H'):a7W K [.ref b] H Q E:=by
 refine⟨rfl,?_⟩
 unfold b8s
 walk_at "go"
 refine a2w ⟨by decide,by decide,by decide⟩ ?_
 walk_at "go"
 refine O9 hB (by decide) (by decide) fun n1 H1 a0 a1 B1 k1=>?_
 walk_at "go"
 refine O9 B1 (by decide) (by decide) fun n2 H2 b0 b1 B2 k2=>?_
 walk_at "go"
 refine E7 (by simp) fun p G hp e s=>?_
 walk_at "go"
 refine O9 (B2.same s) (by decide) (by decide) fun n3 H3 c0 c1 B3 k3=>?_
 have hp3:=k3.1 p _ e (B2.nb hp).1
 rw[d0g]at hp3
 have kk:G0 b H H3:=(k1.trans k2).trans ((G0.of_same s).trans k3)
 obtain⟨v,hv,hv2⟩:=a3Z (xs:=([.int 0,.int 1,.int (1000000000000 - 1 - n1),.int n2]:List V)) c0 (by simpa using c1)
 refine F1 hp3 hv ?_
 have:∃n,v=.int n/\0<=n/\n<1000000000000:=by
  have m:=mI hv2
  simp only[j4,v8,or_false]at m
  rcases m with rfl | rfl | rfl | rfl
  ·exact⟨0,rfl,by decide,by decide⟩
  ·exact⟨1,rfl,by decide,by decide⟩
  ·exact⟨_,rfl,by omega,by omega⟩
  ·exact⟨_,rfl,by omega,by omega⟩
 obtain⟨n,rfl,q0,q1⟩:=this
 exact k n H3 q0 q1 B3 kk
theorem a3o{K:Fg}{E:XK}(hB:Bag H b c)(hN:a7z H a)(k:∀v H',OpN v->Bag H' b c->G0 b H H'->Q v H'):a0M K [.ref b,.ref a] H Q E:=by
 refine⟨rfl,?_⟩
 unfold b2J
 nofun
 exists O9 hB (by decide) (by decide) fun n1 H1 a0 a1 B1 k1=>?_
 refine a2e (fun _=>?_) (fun _=>?_)
 ·ext
  exact c1K B1 fun n H2 q0 q1 B2 k2=>k _ _ (.inr ⟨n,rfl,q0,q1⟩) B2 (k1.trans k2)
 ·ext
  obtain⟨N1,ne⟩:=hN.kept hB k1
  obtain⟨ss,h1,h2,h3,h4⟩:=N1.ex
  exists R6 h1 ?_
  have hl:0<ss.length:=a8C.mpr h2
  refine O9 B1 (by rw[a9];omega) (by rw[a9];omega) fun n2 H2 b0 b1 B2 k2=>?_
  obtain⟨v,hv,hv2⟩:=a3Z (xs:=ss.map V.str) b0 b1
  obtain⟨s,hs,rfl⟩:=C8.mp (mI hv2)
  exact F1 (k2.1 _ _ h1 ne) hv (k _ _ (.inl ⟨s,rfl,h4 s hs⟩) B2 (k1.trans k2))
theorem c6k{K:Fg}{E:XK}(hB:Bag H b c)(hN:a7z H a)(k:∀p H',a6U H' p->H p=none->Bag H' b c->G0 b H H'->Q (.ref p) H'):a9X K [.ref b,.ref a] H Q E:=by
 refine⟨rfl,?_⟩
 unfold c1T
 nofun
 exists E7 (by decide) fun p G hp e s=>?_
 refine O9 (hB.same s) (by decide) (by decide) fun n1 H1 a0 a1 B1 k1=>?_
 have hp1:=k1.1 p _ e (hB.nb hp).1
 have k01:G0 b H H1:=(G0.of_same s).trans k1
 obtain⟨v,hv,hv2⟩:=a3Z (xs:=([.str "plus",.str "minus",.str "times",.str "less",.str "same"]:List V)) a0 (by simpa using a1)
 refine F1 hp1 hv ?_
 have:∃kd:Str,v=.str kd/\kd∈(["plus","minus","times","less","same"]:List Str):=by
  have m:=mI hv2
  simp only[j4,v8,or_false]at m
  rcases m with rfl | rfl | rfl | rfl | rfl <;> exact⟨_,rfl,by simp⟩
 obtain⟨kd,rfl,hkd⟩:=this
 ext
 nofun
 obtain⟨N1,_⟩:=hN.kept hB k01
 exists a3o B1 N1 fun v1 H2 o1 B2 k2=>?_
 nofun
 obtain⟨N2,_⟩:=N1.kept B1 k2
 exists a3o B2 N2 fun v2 H3 o2 B3 k3=>?_
 exact_mod_cast a2K (P:=fun σ H4=>∃v2,σ=[some (.ref b),some (.ref a),some (.str kd),some v1,some v2]/\OpN v2/\Bag H4 b c/\G0 b H3 H4) ?_ ?_
 ·rintro _ H4 ⟨v2,rfl,o2,B4,k4⟩
  ext
  refine E7 (by simp) fun q G hq e s=>?_
  exact k q _ ⟨kd,v1,v2,e,o1,o2,hkd⟩ (k01.none (k2.none (k3.none (k4.none hq)))) (B4.same s) ((((k01.trans k2).trans k3).trans k4).trans (G0.of_same s))
 ·intro nx hnx
  ext
  exists O9 B3 (by decide) (by decide) fun n4 H4 d0 d1 B4 k4=>?_
  refine a2e (fun _=>?_) (fun _=>?_)
  ·ext
   exact hnx _ _ ⟨v1,rfl,o1,B4,k4⟩
  ·ext
   exact hnx _ _ ⟨v2,rfl,o2,B4,k4⟩
def a8z(ps:List Addr)(H:Hp)(v:V):Prop:=∃q xs,v=.ref q/\H q=some (.tup xs)/\∀n d,xs=[.str "set",n,.ref d]->d∈ps
theorem a8z.ts(h:a8z ps H v)(t:L0 H H'):a8z ps H' v:=let⟨q,xs,e,h,i⟩:=h; ⟨q,xs,e,t _ _ h,i⟩
theorem b1o{q:Addr}{kd:Str}{r:List V}(h:H q=some (.tup (.str kd::r)))(hk:kd ≠ "set"):a8z ps H (.ref q):=⟨q,_,rfl,h,fun n d e=>absurd (V.str.inj (List.cons.inj e).1) hk⟩
theorem c7A{K:Fg}{E:XK}(hB:Bag H b c)(hN:a7z H a)(hP:b6z H p)(hps:H p=some (.lst (ps.map V.ref)))(k:∀v H',a9T H' v (m == 2)->a8z ps H' v->Bag H' b c->G0 b H H'->Q v H'):b3C K [.ref b,.ref a,.ref p,.int (m:Int)] H Q E:=by
 refine⟨rfl,?_⟩
 unfold c6K
 nofun
 by_cases h2:m=2
 ·subst h2
  exists K9 (by decide) ?_
  exists a3o hB hN fun v H1 o1 B1 k1=>?_
  refine E7 (by simp) fun q G hq e s=>?_
  exact k _ _ ⟨q,_,rfl,e,.ask v o1,_,_,rfl,by decide⟩ (b1o e (by decide)) (B1.same s) (k1.trans (G0.of_same s))
 have hm:(m == 2)=false:=by simpa using h2
 rw[hm]at k
 exists C7 (d2F (by intro z;have:=V.int.inj z;omega)) ?_
 nofun
 exists O9 hB (by decide) (by decide) fun w H1 w0 w1 B1 k1=>?_
 nofun
 obtain⟨N1,na⟩:=hN.kept hB k1
 have P1:=hP.kept hB k1
 obtain⟨ss,s1,s2,s3,s4⟩:=N1.ex
 exists R6 s1 ?_
 refine b8C B1 s1 na (by simpa using s2) (by rw[a9];omega) fun n v H2 e1 e2 a2 B2 k2=>?_
 refine F1 a2 e1 ?_
 obtain⟨s,hs,rfl⟩:=C8.mp e2
 have ns:=s4 s hs
 ext
 obtain⟨N2,_⟩:=N1.kept B1 k2
 have P2:=P1.kept B1 k2
 have k02:=k1.trans k2
 nofun
 refine a2e (fun _=>?_) (fun _=>?_)
 ·obtain⟨ps',p1,p2,p3,p4⟩:=P2.ex
  obtain rfl:ps'=ps:=by
   rw[k02.1 _ _ hps (a2m hB hps)]at p1
   exact(O7 (f:=V.ref) (fun a b h=>V.ref.inj h) |>.mp (HO.lst.inj (Option.some.inj p1))).symm
  ext
  exists R6 p1 ?_
  refine b8C B2 p1 (a2m B2 p1) (by simpa using p2) (by rw[a9];omega) fun n v H3 f1 f2 a3 B3 k3=>?_
  refine F1 a3 f1 ?_
  obtain⟨d,hd,rfl⟩:=C8.mp f2
  have hd3:=(p4 d hd).ts (G0.ts k3 B2)
  ext
  refine E7 (by simp) fun q G hq e s=>?_
  exact k _ _ ⟨q,_,rfl,e,.set _ d ns (hd3.ts (A0.ts s)),_,_,rfl,by decide⟩ ⟨q,_,rfl,e,fun n d' z=>by cases z;exact hd⟩ (B3.same s) ((k02.trans k3).trans (G0.of_same s))
 ext
 nofun
 refine a2e (fun _=>?_) (fun _=>?_)
 ·ext
  exists a3o B2 N2 fun v H3 o1 B3 k3=>?_
  refine E7 (by simp) fun q G hq e s=>?_
  exact k _ _ ⟨q,_,rfl,e,.copy _ v ns o1,_,_,rfl,by decide⟩ (b1o e (by decide)) (B3.same s) ((k02.trans k3).trans (G0.of_same s))
 ext
 nofun
 refine a2e (fun _=>?_) (fun _=>?_)
 ·ext
  refine E7 (by simp) fun q G hq e s=>?_
  exact k _ _ ⟨q,_,rfl,e,.take _ ns,_,_,rfl,by decide⟩ (b1o e (by decide)) (B2.same s) (k02.trans (G0.of_same s))
 ext
 exists a3o B2 N2 fun v H3 o1 B3 k3=>?_
 exists E7 (by simp) fun q1 G1 hq1 e1 s1=>?_
 exists E7 (by simp) fun q2 G2 hq2 e2 s2=>?_
 exists E7 (by simp) fun q3 G3 hq3 e3 s3=>?_
 have sB:=(B3.same s1).same s2
 refine O9 (sB.same s3) (by decide) (by decide) fun j H4 j0 j1 B4 k4=>?_
 obtain⟨x,hx,hx2⟩:=a3Z (xs:=[V.ref q1,V.ref q2]) j0 (by simpa using j1)
 refine F1 (k4.1 _ _ e3 (sB.nb hq3).1) hx ?_
 have kk:G0 b H H4:=(k02.trans k3).trans ((G0.of_same ((s1.trans s2).trans s3)).trans k4)
 have f1:H4 q1=_:=k4.1 _ _ (s3 _ _ (s2 _ _ e1)) (B3.nb hq1).1
 have f2:H4 q2=_:=k4.1 _ _ (s3 _ _ e2) ((B3.same s1).nb hq2).1
 have m:=mI hx2
 simp only[j4,v8,or_false]at m
 rcases m with rfl | rfl
 ·exact k _ _ ⟨q1,_,rfl,f1,.tell v o1,_,_,rfl,by decide⟩ (b1o f1 (by decide)) B4 kk
 ·exact k _ _ ⟨q2,_,rfl,f2,.skip,_,_,rfl,by decide⟩ (b1o f2 (by decide)) B4 kk
theorem c8I{K:Fg}{E:XK}(hB:Bag H b c)(m0:0<m)(m1:m<=24)
  (k:∀a N H',K7 H' a N->N.length=m->(∀l∈N,l.length<=2/\∀t∈l,t<m)->N[m - 1]? = some []->Bag H' b c->G0 b H H'->Q (.ref a) H'):b3D K [.ref b,.int (m:Int)] H Q E:=by
 refine⟨rfl,?_⟩
 unfold c6L
 nofun
 exists E7 (by simp) fun D H1 hD e1 s1=>?_
 obtain⟨nb,nc⟩:=hB.nb hD
 have B1:=hB.same s1
 exact_mod_cast X5 ?_
 specialize a0E (a2b ?_)
 refine⟨m,rfl,by omega,by omega,?_⟩
 rw[o4]
 refine a1v (fun i σ H2=>∃x3 x4 x5 x6 as N,σ=[some (.ref b),some (.int (m:Int)),some (.ref D),x3,x4,x5,x6]/\b2u H H2 b c D m as N/\N.length=i/\(i=m->N[m - 1]? = some [])) ?_ ?_ ?_
 ·exact⟨_,_,_,_,[],[],rfl,⟨B1,G0.of_same s1,e1,nb,nc,rfl,fun i x l e=>by simp at e,fun l h=>by simp at h⟩,rfl,fun z=>by omega⟩
 ·rintro i _ H2 hi ⟨x3,x4,x5,x6,as,N,rfl,I2,hlen,_⟩
  ext
  rw[a1p]
  nofun
  exists c9Z ?_
  obtain⟨r,hr,hrm⟩:∃r:Nat,(if(m:Int) - 1<(i:Int)+1 then (m:Int) - 1 else (i:Int)+1)=(r:Int)/\r<m:=by
   by_cases h:(m:Int) - 1<(i:Int)+1
   ·exact⟨m - 1,by rw[if_pos h];omega,by omega⟩
   ·exact⟨i+1,by rw[if_neg h];omega,by omega⟩
  rw[hr]
  nofun
  refine O9 I2.bag (by omega) (by omega) fun j H3 j0 j1 B3 k3=>?_
  obtain⟨j,rfl⟩:=a0A j0
  ext
  exists E7 (by simp) fun q H4 hq e4 s4=>?_
  have I3:=I2.next B3 k3
  have I4:=I3.next (B3.same s4) (G0.of_same s4)
  have S4:a8y H4 b D q m [r,j]:=⟨e4,(d6 I3.hD hq).symm,(B3.nb hq).1,by simp,fun t ht=>by
   simp only[j4,v8,or_false]at ht
   rcases ht with rfl | rfl
   ·exact hrm
   ·omega⟩
  nofun
  exists O9 I4.bag (by decide) (by decide) fun w H5 w0 w1 B5 k5=>?_
  have I5:=I4.next B5 k5
  have S5:=S4.next k5
  exact_mod_cast a2K (P:=fun σ H6=>∃q l,σ=[some (.ref b),some (.int (m:Int)),some (.ref D),some (.int (i:Int)),some (.int (r:Int)),some (.ref q),some (.int w)]/\b2u H H6 b c D m as N/\a8y H6 b D q m l/\l.length=2) ?_ ?_
  rotate_left
  ·intro nx hnx
   ext
   refine a2e (fun _=>?_) (fun _=>?_)
   ·ext
    exists F1 S5.h (a2z _ _ _) ?_
    refine E7 (by simp) fun q6 H6 hq6 e6 s6=>?_
    exact hnx _ _ ⟨q6,[j,r],rfl,I5.next (B5.same s6) (G0.of_same s6),⟨e6,(d6 I5.hD hq6).symm,(B5.nb hq6).1,by simp,fun t ht=>by
     simp only[j4,v8,or_false]at ht
     rcases ht with rfl | rfl
     ·exact S5.lt _ (by simp)
     ·exact S5.lt _ (by simp)⟩,rfl⟩
   ·ext
    exact hnx _ _ ⟨q,[r,j],rfl,I5,S5,rfl⟩
  rintro _ H6 ⟨q,l,rfl,I6,S6,hl6⟩
  obtain⟨l0,l1,rfl⟩:∃l0 l1,l=[l0,l1]:=by
   match l,hl6 with
   | [a,b],_=>exact⟨a,b,rfl⟩
  exact_mod_cast a2K (P:=fun σ H6=>∃q l,σ=[some (.ref b),some (.int (m:Int)),some (.ref D),some (.int (i:Int)),some (.int (r:Int)),some (.ref q),some (.int w)]/\b2u H H6 b c D m as N/\a8y H6 b D q m l/\l.length=2) ?_ ?_
  rotate_left
  ·intro nx hnx
   ext
   refine a2e (fun _=>?_) (fun _=>?_)
   ·ext
    exists F1 S6.h (a2z _ _ _) ?_
    refine O9 I6.bag (by omega) (by omega) fun j2 H7 z0 z1 B7 k7=>?_
    obtain⟨j2,rfl⟩:=a0A z0
    ext
    have I7:=I6.next B7 k7
    refine E7 (by simp) fun q8 H8 hq8 e8 s8=>?_
    exact hnx _ _ ⟨q8,[l1,j2],rfl,I7.next (B7.same s8) (G0.of_same s8),⟨e8,(d6 I7.hD hq8).symm,(B7.nb hq8).1,by simp,fun t ht=>by
     simp only[j4,v8,or_false]at ht
     rcases ht with rfl | rfl
     ·exact S6.lt _ (by simp)
     ·omega⟩,rfl⟩
   ·ext
    exact hnx _ _ ⟨q,_,rfl,I6,S6,rfl⟩
  clear S6 I6 l0 l1 hl6 S5 I5 S4 I4 I3 B3 k3 B5 k5 s4 e4 hq
  rintro _ H6 ⟨q,l,rfl,I6,S6,hl6⟩
  obtain⟨l0,l1,rfl⟩:∃l0 l1,l=[l0,l1]:=by
   match l,hl6 with
   | [a,b],_=>exact⟨a,b,rfl⟩
  exact_mod_cast a2K (P:=fun σ H6=>∃q l,σ=[some (.ref b),some (.int (m:Int)),some (.ref D),some (.int (i:Int)),some (.int (r:Int)),some (.ref q),some (.int w)]/\b2u H H6 b c D m as N/\a8y H6 b D q m l/\(w=7->1<m->l.length=2)) ?_ ?_
  rotate_left
  ·intro nx hnx
   have one:∀H7,H7=H6->((w=7/\1<m)->False)->New (.lst [V.int (r:Int)]) 1 H7 fun v H1=>nx [some (.ref b),some (.int (m:Int)),some (.ref D),some (.int (i:Int)),some (.int (r:Int)),some v,some (.int w)] H1:=by
    rintro _ rfl hw
    refine E7 (by simp) fun q8 H8 hq8 e8 s8=>?_
    exact hnx _ _ ⟨q8,[r],rfl,I6.next (I6.bag.same s8) (G0.of_same s8),⟨e8,(d6 I6.hD hq8).symm,(I6.bag.nb hq8).1,by simp,fun t ht=>by rw[d9.mp ht];exact hrm⟩,fun h1 h2=>(hw ⟨h1,h2⟩).elim⟩
   ext
   refine a2e (fun a3=>?_) (fun a3=>?_)
   ·ext
    refine a2e (fun a7=>?_) (fun a7=>?_)
    ·exists K9 rfl ?_
     exact one _ rfl fun⟨z,_⟩=>by have:=of_decide_eq_true a7;omega
    ·ext
     refine a2e (fun a1=>?_) (fun a1=>?_)
     ·ext
      rw[b3i]at a1
      exact one _ rfl fun⟨_,z⟩=>by have:=of_decide_eq_true a1;omega
     ·ext
      exact hnx _ _ ⟨q,_,rfl,I6,S6,fun _ _=>rfl⟩
   ·ext
    exists C7 rfl ?_
    refine a2e (fun a1=>?_) (fun a1=>?_)
    ·ext
     rw[b3i]at a1
     exact one _ rfl fun⟨_,z⟩=>by have:=of_decide_eq_true a1;omega
    ·ext
     exact hnx _ _ ⟨q,_,rfl,I6,S6,fun _ _=>rfl⟩
  clear S6 I6 l0 l1 hl6
  rintro _ H6 ⟨q,l,rfl,I6,S6,hl6⟩
  exact_mod_cast a2K (P:=fun σ H6=>∃q l,σ=[some (.ref b),some (.int (m:Int)),some (.ref D),some (.int (i:Int)),some (.int (r:Int)),some (.ref q),some (.int w)]/\b2u H H6 b c D m as N/\a8y H6 b D q m l) ?_ ?_
  rotate_left
  ·intro nx hnx
   ext
   refine a2e (fun a7=>?_) (fun a7=>?_)
   ·ext
    refine a2e (fun a1=>?_) (fun a1=>?_)
    ·rw[b3i]at a7
     have a7:=of_decide_eq_true a7
     have a1:=of_decide_eq_true a1
     have hl:=hl6 a7 (by omega)
     obtain⟨l0,l1,rfl⟩:∃l0 l1,l=[l0,l1]:=by
      match l,hl with
      | [a,b],_=>exact⟨a,b,rfl⟩
     ext
     exists F1 S6.h (a2z _ _ _) ?_
     refine E7 (by simp) fun q8 H8 hq8 e8 s8=>?_
     exact hnx _ _ ⟨q8,[l1],rfl,I6.next (I6.bag.same s8) (G0.of_same s8),⟨e8,(d6 I6.hD hq8).symm,(I6.bag.nb hq8).1,by simp,fun t ht=>by rw[d9.mp ht];exact S6.lt _ (by simp)⟩⟩
    ·ext
     exact hnx _ _ ⟨q,_,rfl,I6,S6⟩
   ·exists C7 rfl ?_
    exact hnx _ _ ⟨q,_,rfl,I6,S6⟩
  clear S6 I6 hl6 l
  rintro _ H6 ⟨q,l,rfl,I6,S6⟩
  exact_mod_cast a2K (P:=fun σ H6=>∃q l,σ=[some (.ref b),some (.int (m:Int)),some (.ref D),some (.int (i:Int)),some (.int (r:Int)),some (.ref q),some (.int w)]/\b2u H H6 b c D m as N/\a8y H6 b D q m l/\(i+1=m->l=[])) ?_ ?_
  rotate_left
  ·intro nx hnx
   have none:∀H7,b2u H H7 b c D m as N->New (.lst []) 0 H7 fun v H1=>nx [some (.ref b),some (.int (m:Int)),some (.ref D),some (.int (i:Int)),some (.int (r:Int)),some v,some (.int w)] H1:=by
    intro H7 I7
    refine E7 (by simp) fun q8 H8 hq8 e8 s8=>?_
    exact hnx _ _ ⟨q8,[],rfl,I7.next (I7.bag.same s8) (G0.of_same s8),⟨e8,(d6 I7.hD hq8).symm,(I7.bag.nb hq8).1,by simp,fun t ht=>by simp at ht⟩,fun _=>rfl⟩
   ext
   refine a2e (fun a1=>?_) (fun a1=>?_)
   ·exists K9 rfl ?_
    exact none _ I6
   ·rw[b3i]at a1
    have a1:¬((i:Int)=(m:Int) - 1):=fun z=>a1 (d2G z)
    ext
    refine a2e (fun a6=>?_) (fun a6=>?_)
    ·ext
     exists O9 I6.bag (by decide) (by decide) fun z H7 z0 z1 B7 k7=>?_
     refine a2e (fun a0=>?_) (fun a0=>?_)
     ·ext
      exact none _ (I6.next B7 k7)
     ·ext
      exact hnx _ _ ⟨q,l,rfl,I6.next B7 k7,S6.next k7,fun z=>by omega⟩
    ·exists C7 rfl ?_
     exact hnx _ _ ⟨q,l,rfl,I6,S6,fun z=>by omega⟩
  clear S6 I6 l
  rintro _ H6 ⟨q,l,rfl,I6,S6,hlast⟩
  ext
  specialize a4O ?_
  exists ⟨V7 I6.hD,?_⟩
  refine Y9 I6.hD (J8 (by rw[a9,I6.len];omega)) ?_
  have nqc:D≠c:=I6.nc
  refine⟨_,_,_,_,as++[q],N++[l],rfl,⟨I6.bag.put I6.nb nqc,I6.kept.put hD,by rw[d8];simp,I6.nb,I6.nc,by simp[I6.len],?_,?_⟩,by simp[hlen],?_⟩
  ·intro i' x' l' e1' e2'
   rcases W8 e1' with ⟨hi1,f1⟩ | ⟨hi1,f1⟩
   ·rcases W8 e2' with ⟨hi2,f2⟩ | ⟨hi2,f2⟩
    ·obtain⟨g1,g2,g3⟩:=I6.at_ i' x' l' f1 f2
     exact⟨by rw[j7 g2];exact g1,g2,g3⟩
    ·have:=I6.len;omega
   ·rcases W8 e2' with ⟨hi2,f2⟩ | ⟨hi2,f2⟩
    ·have:=I6.len;omega
    ·subst f1 f2
     exact⟨by rw[j7 S6.nD];exact S6.h,S6.nD,S6.nb⟩
  ·intro l' hl'
   rcases t5.mp hl' with z | z
   ·exact I6.small l' z
   ·rw[d9.mp z];exact⟨S6.len,S6.lt⟩
  ·intro z
   rw[hlast z]
   have:m - 1=N.length:=by omega
   rw[this];simp
 ·rintro _ H2 ⟨x3,x4,x5,x6,as,N,rfl,I2,hlen,hlast⟩
  ext
  exact k D N H2 ⟨as,I2.hD,I2.len,fun i x l e1 e2=>(I2.at_ i x l e1 e2).1⟩ hlen I2.small (hlast rfl) I2.bag I2.kept
theorem d0H(xs:List V):a7v xs (some 1) none=xs.drop 1:=by
 cases xs with
 | nil=>rfl
 | cons a r=>rw[d0I];rfl
theorem c6y(l:List Nat)(n:Nat):(IL l).drop n=IL (l.drop n):=by unfold IL;rw[List.map_drop]
theorem b7U(xs:List V):a1m xs []=decide (xs.length=0):=by
 unfold a1m
 rw[show min xs.length ([]:List V).length=0 by simp]
 simp only[List.range_zero,d0X,d0L,a3r]
 by_cases h:xs.length=0
 ·rw[h];rfl
 ·rw[d2F h]
  simpa using h
theorem c9a{l G:List Nat}(h:(l.map fun t=>decide (t∈G)).any id=true):∃t∈l,t∈G:=by
 obtain⟨x,hx,e⟩:=a5y.mp h
 obtain⟨t,ht,rfl⟩:=C8.mp hx
 exact⟨t,ht,of_decide_eq_true e⟩
theorem b8M{α:Type}(l:List Nat)(f:Nat->α)(i:Nat){t:Nat}(e:l[i]? = some t):(l.take (i+1)).map f=(l.take i).map f++[f t]:=by
 rw[O2,e];simp
structure a5o(H0 H:Hp)(d:Addr)(N:Nt)(G:List Nat):Prop where
 same:A0 H0 H
 hd:H d=some (.dK (KS G))
 nd:G.Nodup
 lt:∀k∈G,k<N.length
 gd:∀k∈G,Gd N k
theorem a5o.next{G:List Nat}(h:a5o H0 H d N G)(s:A0 H H'):a5o H0 H' d N G:=⟨h.same.trans s,s _ _ h.hd,h.nd,h.lt,h.gd⟩
theorem a5o.put{G:List Nat}(h:a5o H0 H d N G)(n:H0 d=none){k:Nat}(hk:k<N.length)(g:Gd N k):a5o H0 (upd H d (.dK (KS (a5S G k)))) d N (a5S G k):=
 ⟨fun b o e=>by rw[j7 (d6 e n)];exact h.same b o e,d8,b0a h.nd,fun j hj=>(a0P.mp hj).elim (h.lt j) fun z=>z ▸ hk,fun j hj=>(a0P.mp hj).elim (h.gd j) fun z=>z ▸ g⟩
theorem c6d{K:Fg}{l:List Nat}{x2 x4 x5 x6:Option V}{G:List Nat}(n0:H0 d=none)(hn:K7 H a N)(hN:N.length<=24)(hl:N[i]? = some l)(hl2:l.length<=2)(hG:a5o H0 H d N G)
  (k:∀H' G',a5o H0 H' d N G'->(∀j∈G,j∈G')->(l=[]->i∈G')->K7 H' a N->D.nx [some (.ref a),some (.ref d),x2,some (.int (i:Int)),x4,x5,x6] H') :
  O8 (tOr (E6 (tOp qEq (tOp qIx (c8 0) (c8 3)) (a0o (j3)))) (tB (tCB b7r (b9 (Y0 (X0 K (tOp qIx (c8 0) (c8 3))) (X4) (b3A (c8 0) (c8 2))) (j3))))) (a3G (c8 1) (c8 3) (tC (.bl true))) (F0) D
   [some (.ref a),some (.ref d),x2,some (.int (i:Int)),x4,x5,x6] H:=by
 have hi:i<N.length:=(gI hl)
 have hGl:G.length<100000:=by
  have:=a4v _ _ hG.nd hG.lt
  omega
 have put:∀H1,K7 H1 a N->a5o H0 H1 d N G->a≠d->(∀x,H1 x=some (.dK (KS G))->True)->Gd N i->a3G (c8 1) (c8 3) (tC (.bl true)) D [some (.ref a),some (.ref d),x2,some (.int (i:Int)),x4,x5,x6] H1:=by
  intro H1 n1 g1 nad _ gd
  specialize a8R ?_
  refine⟨d,_,rfl,b4n g1.hd hGl i,?_⟩
  refine k _ (a5S G i) (g1.put n0 hi gd) (fun j hj=>a0P.mpr (.inl hj)) (fun _=>a0P.mpr (.inr rfl)) ?_
  obtain⟨as,q1,q2,q3⟩:=n1.ex
  refine⟨as,by rw[j7 nad];exact q1,q2,fun j x l' e1 e2=>?_⟩
  have q:=q3 j x l' e1 e2
  rw[j7 (S8 q g1.hd (by intro z;cases z))]
  exact q
 obtain⟨xs,x,h1,h2,h3,_⟩:=hn.at hl
 have nad:a≠d:=S8 h1 hG.hd (by intro z;cases z)
 ext
 exists F1 h1 h2 ?_
 refine E7 (by simp) fun p H1 hp e1 s1=>?_
 refine⟨_,b8R (s1 _ _ h3) e1 (b4F l) rfl,?_⟩
 rw[b7U,R7]
 ext
 by_cases hz:l=[]
 ·refine K9 (d2G (by rw[hz];rfl)) ?_
  refine K9 rfl ?_
  exact put H1 (hn.same s1) (hG.next s1) nad (fun _ _=>trivial) (.stop (hz ▸ hl))
 exists C7 (d2F fun z=>hz (a1U.mp z)) ?_
 specialize Z9 (W9 ?_)
 refine F1 (s1 _ _ h1) h2 ?_
 refine⟨x,rfl,⟨_,SqL.of (s1 _ _ h3)⟩,fun E hE=>?_⟩
 have G1:=hG.next s1
 refine Z0 (xs:=IL l) (fun j ys H2=>ys=(l.take j).map (fun t=>V.bl (decide (t∈G)))/\H2 E=some (.lst ys)/\A0 H1 H2) ⟨by simp,d8,D0 hE⟩ ?_ ?_ ?_ ?_
 ·rintro j ys H2 ⟨_,h,_⟩
  exact h
 ·rintro j ys H2 _ ⟨_,_,s2⟩
  exact SqL.of (s2 _ _ (s1 _ _ h3))
 ·rintro j y ys H2 hy ⟨rfl,hE2,s2⟩ R hR
  have hy:(l.map fun(n:Nat)=>V.int (n:Int))[j]? = some y:=hy
  rw[b8]at hy
  cases ht:l[j]? with
  | none=>rw[ht]at hy;cases hy
  | some t=>
   rw[ht]at hy
   cases hy
   have hj:=(gI ht)
   specialize c2t ?_
   obtain⟨o,g1,g2⟩:=a6x (s2 _ _ G1.hd) t
   refine⟨d,o,rfl,g1,?_⟩
   rw[g2]
   refine hR _ _ hE2 (J8 ?_) ⟨?_,d8,fun b o e=>?_⟩
   ·rw[a9,L9]
    omega
   ·rw[b8M l _ j ht]
   ·rw[j7 (d6 e hE)];exact s2 b o e
 ·rintro ys H2 ⟨rfl,hE2,s2⟩
  rw[R7,R8]at hE2
  have he:l.map (fun t=>V.bl (decide (t∈G)))=(l.map fun t=>decide (t∈G)).map V.bl:=by rw[V0];rfl
  rw[he]at hE2
  ext
  exists d0b hE2 ?_
  refine a2e (fun c=>?_) (fun c=>?_)
  ·obtain⟨t,t1,t2⟩:=c9a c
   exact put H2 ((hn.same s1).same s2) (G1.next s2) nad (fun _ _=>trivial) (.step hl t1 (hG.gd t t2))
  ·ext
   exact k H2 G (G1.next s2) (fun j hj=>hj) (fun z=>(hz z).elim) ((hn.same s1).same s2)
structure b4D(H0 H:Hp)(d:Addr)(N:Nt)(S:List Nat):Prop where
 same:A0 H0 H
 hd:H d=some (.dK (KS S))
 nd:S.Nodup
 lt:∀k∈S,k<N.length
 rc:∀k∈S,Rc N k
 zero:0∈S
theorem b4D.put{S:List Nat}(h:b4D H0 H d N S)(n:H0 d=none){k:Nat}(hk:k<N.length)(g:Rc N k):b4D H0 (upd H d (.dK (KS (a5S S k)))) d N (a5S S k):=
 ⟨fun b o e=>by rw[j7 (d6 e n)];exact h.same b o e,d8,b0a h.nd,fun j hj=>(a0P.mp hj).elim (h.lt j) fun z=>z ▸ hk,fun j hj=>(a0P.mp hj).elim (h.rc j) fun z=>z ▸ g,a0P.mpr (.inl h.zero)⟩
def a7A(N:Nt)(S:List Nat):Prop:=∀k∈S,∀l,N[k]? = some l->∀t∈l,t∈S
theorem c4U{S:List Nat}{k:Nat}(h:k∈S):a5S S k=S:=by unfold a5S;rw[if_pos h]
theorem K7.dput{ks:List (Key×V)}(h:K7 H a N)(hd:H d=some (.dK ks)):K7 (upd H d o) a N:=by
 obtain⟨as,q1,q2,q3⟩:=h.ex
 exact⟨as,by rw[j7 (S8 q1 hd (by intro z;cases z))];exact q1,q2,fun j x l e1 e2=>by
  have q:=q3 j x l e1 e2
  rw[j7 (S8 q hd (by intro z;cases z))];exact q⟩
theorem c2z{K:Fg}{l:List Nat}{x1 x2 x5 x6:Option V}{S:List Nat}(n0:H0 d=none)(hn:K7 H a N)(hN:N.length<=24)(hl:N[i]? = some l)(hlt:∀t∈l,t<N.length)(hS:b4D H0 H d N S)
  (k:∀H' S' x5,b4D H0 H' d N S'->(∀j∈S,j∈S')->(i∈S->∀t∈l,t∈S')->(a7A N S->S'=S)->K7 H' a N->D.nx [some (.ref a),x1,x2,some (.int (i:Int)),some (.ref d),x5,x6] H') :
  O8 (tB (b3A (c8 3) (c8 4))) (a1T (X0 K (tOp qIx (c8 0) (c8 3))) (z8 5) (a3G (c8 4) (c8 5) (tC (.bl true)))) (F0) D [some (.ref a),x1,x2,some (.int (i:Int)),some (.ref d),x5,x6] H:=by
 ext
 specialize c2t ?_
 obtain⟨o,g1,g2⟩:=a6x hS.hd i
 refine⟨d,o,rfl,g1,?_⟩
 rw[g2]
 ext
 refine a2e (fun c=>?_) (fun c=>?_)
 ·have hi:i∈S:=of_decide_eq_true c
  obtain⟨xs,x,h1,h2,h3,_⟩:=hn.at hl
  specialize a0E (W9 ?_)
  refine F1 h1 h2 ?_
  refine⟨x,rfl,⟨_,SqL.of h3⟩,a0Q (xs:=IL l) (fun j σ H2=>∃S' x5,σ=[some (.ref a),x1,x2,some (.int (i:Int)),some (.ref d),x5,x6]/\b4D H0 H2 d N S'/\(∀j∈S,j∈S')/\(∀t∈l.take j,t∈S')/\(a7A N S->S'=S)/\K7 H2 a N/\H2 x=some (.lst (IL l))) ?_ ?_ ?_ ?_⟩
  ·exact⟨S,x5,rfl,hS,fun _ h=>h,by simp,fun _=>rfl,hn,h3⟩
  ·rintro j σ H2 _ ⟨_,_,_,_,_,_,_,_,h⟩
   exact SqL.of h
  ·rintro j y _ H2 hy ⟨S',x5,rfl,I2,i1,i2,i3,n2,hx2⟩
   have hy:(l.map fun(n:Nat)=>V.int (n:Int))[j]? = some y:=hy
   rw[b8]at hy
   cases ht:l[j]? with
   | none=>rw[ht]at hy;cases hy
   | some t=>
    rw[ht]at hy
    cases hy
    have tm:=mI ht
    ext
    specialize a8R ?_
    refine⟨d,_,rfl,b4n I2.hd (by have:=a4v _ _ I2.nd I2.lt;omega) t,?_⟩
    refine⟨a5S S' t,_,rfl,I2.put n0 (hlt t tm) (.step (hS.rc i hi) hl tm),fun j hj=>a0P.mpr (.inl (i1 j hj)),fun z hz=>?_,fun hc=>?_,n2.dput I2.hd,?_⟩
    ·rw[O2,ht]at hz
     rcases t5.mp hz with q | q
     ·exact a0P.mpr (.inl (i2 z q))
     ·exact a0P.mpr (.inr (by simpa using q))
    ·rw[i3 hc]
     exact c4U (hc i hi l hl t tm)
    ·rw[j7 (S8 hx2 I2.hd (by intro z;cases z))];exact hx2
  ·rintro _ H2 ⟨S',x5,rfl,I2,i1,i2,i3,n2,hx2⟩
   refine k H2 S' x5 I2 i1 (fun _ t ht=>i2 t ?_) i3 n2
   rw[R7,R8];exact ht
 ·ext
  exact k H S x5 hS (fun _ h=>h) (fun h=>(c (d2G h)).elim) (fun _=>rfl) hn
theorem b5O{ms:List Int}{S:List Nat}(h:ms.Perm (S.map fun(n:Nat)=>(n:Int))):∃O:List Nat,O.Perm S/\ms=O.map fun(n:Nat)=>(n:Int):=by
 refine⟨ms.map b9g,?_,?_⟩
 ·have:=h.map b9g
  rw[V0]at this
  have e:(b9g ∘ fun(n:Nat)=>(n:Int))=id:=by funext n;simp
  rw[e,b2x]at this
  exact this
 ·rw[V0]
  have:∀x∈ms,((fun(n:Nat)=>(n:Int)) ∘ b9g) x=id x:=by
   intro x hx
   obtain⟨n,_,rfl⟩:=C8.mp (h.subset hx)
   simp
  rw[a1w this,b2x]
theorem b6V{O:List Nat}(h:(O.map fun(n:Nat)=>(n:Int)).Pairwise (· <= ·)):O.Pairwise (· <= ·):=by
 rw[List.pairwise_map]at h
 exact h.imp fun q=>by omega
theorem c3G(O:List Nat)(t:Nat):(O.map fun(n:Nat)=>(n:Int)).idxOf (t:Int)=O.idxOf t:=by
 induction O with
 | nil=>rfl
 | cons a r ih=>
  rw[E2,c9l,c9l]
  by_cases e:a=t
  ·subst e;simp
  ·have:((a:Int) == (t:Int))=false:=by simp;omega
   have e2:(a == t)=false:=by simpa using e
   rw[this,e2,ih]
theorem U3(h:i<N.length):N[i]? = some N[i]:=by simp
theorem c0t{K:Fg}{E:XK}(hn:K7 H a N)(hp:0<N.length)(hN:N.length<=24)(hs:∀l∈N,l.length<=2/\∀t∈l,t<N.length)(hl:N[N.length - 1]? = some [])
  (k:∀a' N' H',K7 H' a' N'->a1j N'->N'.length<=24->A0 H H'->Q (.ref a') H'):a6p K [.ref a] H Q E:=by
 refine⟨rfl,?_⟩
 unfold b5d
 nofun
 exists c2s fun d H1 hd e1 s1=>?_
 have n1:=hn.same s1
 obtain⟨xs0,hx0,lx0⟩:=hn.len
 exact_mod_cast a2K (P:=fun σ H2=>∃x2 x3 G,σ=[some (.ref a),some (.ref d),x2,x3,none,none,none]/\a5o H H2 d N G/\N.length - 1∈G/\K7 H2 a N) ?_ ?_
 rotate_left
 ·intro nx hnx
  specialize a0E (a2b ?_)
  refine R6 (s1 _ _ hx0) ?_
  refine⟨N.length,by rw[lx0],by omega,by omega,?_⟩
  rw[o4]
  refine a1v (fun i σ H2=>∃x2 x3 G,σ=[some (.ref a),some (.ref d),x2,x3,none,none,none]/\a5o H H2 d N G/\(0<i->N.length - 1∈G)/\K7 H2 a N) ?_ ?_ ?_
  ·exact⟨_,_,[],rfl,⟨s1,e1,by simp,by simp,by simp⟩,by omega,n1⟩
  ·rintro i _ H2 hi ⟨x2,x3,G,rfl,I2,g2,n2⟩
   ext
   obtain⟨xs2,hx2,lx2⟩:=n2.len
   specialize a0E (a2b ?_)
   refine R6 hx2 ?_
   refine⟨N.length,by rw[lx2],by omega,by omega,?_⟩
   rw[o4]
   refine a1v (fun j σ H3=>∃x3 G,σ=[some (.ref a),some (.ref d),some (.int (0+(i:Int))),x3,none,none,none]/\a5o H H3 d N G/\(j=N.length->N.length - 1∈G)/\K7 H3 a N) ?_ ?_ ?_
   ·exact⟨_,G,rfl,I2,by omega,n2⟩
   ·rintro j _ H3 hj ⟨x3,G3,rfl,I3,g3,n3⟩
    exact_mod_cast b3Q ?_
    rw[a1p (j:Int)]
    refine c6d hd n3 hN (U3 hj) (hs _ (E9 _)).1 I3 fun H4 G4 I4 sub4 h4 n4=>?_
    refine⟨_,G4,rfl,I4,fun z=>?_,n4⟩
    have e:N.length - 1=j:=by omega
    rw[e]at hl ⊢
    refine h4 ?_
    rw[U3 hj]at hl
    exact Option.some.inj hl
   ·rintro _ H3 ⟨x3,G3,rfl,I3,g3,n3⟩
    exact⟨_,_,G3,rfl,I3,fun _=>g3 rfl,n3⟩
  ·rintro _ H2 ⟨x2,x3,G,rfl,I2,g2,n2⟩
   exact hnx _ _ ⟨x2,x3,G,rfl,I2,g2 hp,n2⟩
 rintro _ H2 ⟨x2,x3,G,rfl,I2,hlast,n2⟩
 nofun
 exact_mod_cast Z9 (a2b ?_)
 obtain⟨xs2,hx2,lx2⟩:=n2.len
 ext
 refine R6 hx2 ?_
 refine⟨N.length,by rw[lx2],by omega,by omega,fun A hA=>?_⟩
 rw[o4]
 refine a4y (fun i ys H3=>∃as:List Addr,ys=as.map V.ref/\as.length=i/\(∀(j:Nat) x l,as[j]? = some x->(a3J N G)[j]? = some l->H3 x=some (.lst (IL l))/\x≠A)/\H3 A=some (.lst ys)/\A0 H2 H3) ?_ ?_ ?_ ?_
 ·exact⟨[],rfl,rfl,by simp,d8,D0 hA⟩
 ·rintro i ys H3 ⟨_,_,_,_,h,_⟩
  exact h
 ·rintro i ys H3 hi ⟨as,rfl,la,at3,hA3,s3⟩ R hR
  rw[a1p]
  obtain⟨ys0,x,f1,f2,f3,f4⟩:=(n2.same s3).at (U3 hi)
  have more:∀q H4,A0 H3 H4->(∀l,(a3J N G)[i]? = some l->H4 q=some (.lst (IL l)))->q≠A->R (.ref q) H4:=by
   intro q H4 s4 hq nq
   refine hR _ _ (s4 _ _ hA3) (J8 (by rw[a9];omega)) ⟨as++[q],by simp,by simp[la],?_,d8,fun b o e=>?_⟩
   ·intro j y l' h1 h2
    rcases W8 h1 with ⟨_,g1⟩ | ⟨hj,g1⟩
    ·obtain⟨g2,g3⟩:=at3 j y l' g1 h2
     exact⟨by rw[j7 g3];exact s4 _ _ g2,g3⟩
    ·rw[hj,la]at h2
     subst g1
     exact⟨by rw[j7 nq];exact hq l' h2,nq⟩
   ·rw[j7 (d6 e hA)]
    exact s4 _ _ (s3 _ _ e)
  ext
  specialize c2t ?_
  obtain⟨o,g1,g2⟩:=a6x (s3 _ _ I2.hd) i
  refine⟨d,o,rfl,g1,?_⟩
  rw[g2]
  ext
  refine a2e (fun c=>?_) (fun c=>?_)
  ·ext
   refine F1 f1 f2 ?_
   refine more x H3 (A0.refl _) (fun l hl'=>?_) ?_
   ·rw[a8k (U3 hi) (of_decide_eq_true c)]at hl'
    cases hl'
    exact f3
   ·refine(d6 (H:=H2) (a:=x) (b:=A) (o:=.lst (IL N[i])) ?_ hA)
    obtain⟨ys1,x',f1',f2',f3',_⟩:=n2.at (U3 hi)
    have e1:=s3 _ _ f1'
    rw[f1]at e1
    cases e1
    rw[f2]at f2'
    cases f2'
    exact f3'
  ·ext
   exists R6 f1 ?_
   exists E7 (by simp) fun p1 H4 hp1 e4 s4=>?_
   exists F1 (s4 _ _ f1) f2 ?_
   refine c9X (s4 _ _ f3) fun p2 H5 hp2 e5 s5=>?_
   rw[d0H,c6y]at e5
   have hl2:=(hs _ (E9 (l:=N) (h:=hi))).1
   refine b7n (s5 _ _ e4) e5 (E7 (by simp[R7];omega) fun p3 H6 hp3 e6 s6=>?_)
   refine more p3 H6 ((s4.trans s5).trans s6) (fun l hl'=>?_) ?_
   ·rw[b3b (U3 hi) (fun z=>c (d2G z))]at hl'
    cases hl'
    rw[e6,f4]
    have:((N.length:Int) - 1)=((N.length - 1:Nat):Int):=by omega
    rw[this]
    rfl
   ·exact(d6 ((s4.trans s5) _ _ hA3) hp3).symm
 rintro ys H3 ⟨as,rfl,la,at3,hA3,s3⟩
 obtain⟨N2,hN2⟩:∃N2,N2=a3J N G:=⟨_,rfl⟩
 have len2:N2.length=N.length:=by rw[hN2,b3c]
 have n3:K7 H3 A N2:=⟨as,hA3,by rw[len2,la],fun i x l h1 h2=>(at3 i x l h1 (hN2 ▸ h2)).1⟩
 have small2:∀l∈N2,l.length<=2/\∀t∈l,t<N2.length:=by
  rw[len2,hN2]
  exact b5S hp hs hl hlast
 have gd2:∀k,k<N2.length->Gd N2 k:=by
  rw[len2,hN2]
  exact c6f I2.gd hl hlast
 have s03:A0 H H3:=I2.same.trans s3
 clear at3 hN2 la
 ext
 nofun
 intro r hr
 refine⟨d8,[(Sum.inl 0,V.bl true)],rfl,by simp,?_⟩
 have e4:(upd (upd H3 r (.dK [])) r (.dK (a7r [] [(Sum.inl 0,V.bl true)])))=upd H3 r (.dK (KS [0])):=by
  rw[a9V];rfl
 rw[e4]
 ext
 obtain⟨H4,hH4⟩:∃H4,H4=upd H3 r (.dK (KS [0])):=⟨_,rfl⟩
 rw[<-hH4]
 have s4:A0 H3 H4:=hH4 ▸ D0 hr
 have er:H4 r=some (.dK (KS [0])):=hH4 ▸ d8
 have n4:=n3.same s4
 clear hH4 e4
 have hp2:0<N2.length:=by omega
 exact_mod_cast a2K (P:=fun σ H5=>∃x2 x3 x5 S,σ=[some (.ref A),some (.ref d),x2,x3,some (.ref r),x5,none]/\b4D H3 H5 r N2 S/\a7A N2 S/\K7 H5 A N2) ?_ ?_
 rotate_left
 ·intro nx hnx
  obtain⟨ys4,hy4,ly4⟩:=n4.len
  specialize a0E (a2b ?_)
  refine R6 hy4 ?_
  refine⟨N2.length,by rw[ly4],by omega,by omega,?_⟩
  rw[o4]
  refine a1v (fun i σ H5=>∃x2 x3 x5 S,σ=[some (.ref A),some (.ref d),x2,x3,some (.ref r),x5,none]/\b4D H3 H5 r N2 S/\(a7A N2 S\/i+1<=S.length)/\K7 H5 A N2) ?_ ?_ ?_
  ·exact⟨_,_,_,[0],rfl,⟨s4,er,by simp,by simpa using hp2,by simpa using Rc.zero,by simp⟩,.inr (by simp),n4⟩
  ·rintro i _ H5 hi ⟨x2,x3,x5,S,rfl,I5,g5,n5⟩
   ext
   obtain⟨ys5,hy5,ly5⟩:=n5.len
   specialize a0E (a2b ?_)
   refine R6 hy5 ?_
   refine⟨N2.length,by rw[ly5],by omega,by omega,?_⟩
   rw[o4]
   refine a1v (fun j σ H6=>∃x3 x5 S',σ=[some (.ref A),some (.ref d),some (.int (0+(i:Int))),x3,some (.ref r),x5,none]/\b4D H3 H6 r N2 S'/\(∀k∈S,k∈S')/\(∀k∈S,k<j->∀l,N2[k]? = some l->∀t∈l,t∈S')/\(a7A N2 S->S'=S)/\K7 H6 A N2) ?_ ?_ ?_
   ·exact⟨_,_,S,rfl,I5,fun _ h=>h,by omega,fun _=>rfl,n5⟩
   ·rintro j _ H6 hj ⟨x3,x5,S',rfl,I6,b1,b2,b3,n6⟩
    exact_mod_cast b3Q ?_
    rw[a1p (j:Int)]
    refine c2z hr n6 (by omega) (U3 hj) (small2 _ (E9 _)).2 I6 fun H7 S7 x5 I7 c1 c2 c3 n7=>?_
    refine⟨_,x5,S7,rfl,I7,fun k hk=>c1 k (b1 k hk),fun k hk hkj l hl' t ht=>?_,fun hc=>?_,n7⟩
    ·by_cases e:k=j
     ·subst e
      rw[U3 hj]at hl'
      cases hl'
      exact c2 (b1 k hk) t ht
     ·exact c1 t (b2 k hk (by omega) l hl' t ht)
    ·have:=b3 hc
     rw[this]at c3
     exact c3 hc
   ·rintro _ H6 ⟨x3,x5,S',rfl,I6,b1,b2,b3,n6⟩
    refine⟨_,x3,x5,S',rfl,I6,?_,n6⟩
    rcases g5 with hc | hc
    ·exact .inl (by rw[b3 hc];exact hc)
    ·by_cases hcl:a7A N2 S
     ·exact .inl (by rw[b3 hcl];exact hcl)
     ·right
      obtain⟨t,t1,t2⟩:∃t,t∈S'/\¬t∈S:=by
       refine Classical.byContradiction fun hno=>hcl fun k hk l hl' t ht=>?_
       refine Classical.byContradiction fun hts=>hno ⟨t,b2 k hk (I5.lt k hk) l hl' t ht,hts⟩
      have:(t::S).length<=S'.length:=by
       have nd:(t::S).Nodup:=Y2.mpr ⟨t2,I5.nd⟩
       have sub:∀k∈t::S,k∈S':=fun k hk=>(j4.mp hk).elim (fun z=>z ▸ t1) (b1 k)
       exact c3q _ _ nd sub
      rw[A2]at this
      omega
  ·rintro _ H5 ⟨x2,x3,x5,S,rfl,I5,g5,n5⟩
   refine hnx _ _ ⟨x2,x3,x5,S,rfl,I5,g5.elim id fun h=>?_,n5⟩
   have:=a4v _ _ I5.nd I5.lt
   omega
 rintro _ H5 ⟨y2,y3,y5,S,rfl,I5,hcl,n5⟩
 have hSl:=a4v _ _ I5.nd I5.lt
 nofun
 have ek:(KS S).map (fun kv=>kV kv.1)=(S.map fun(n:Nat)=>(n:Int)).map V.int:=by
  unfold KS;rw[V0,V0];rfl
 have ld:a8V [.ref r] H5=fun Q=>∀l,H5 l=none->Q (.ref l) (upd H5 l (.lst ((KS S).map fun kv=>kV kv.1))):=by
  unfold a8V
  simp only[I5.hd]
 rw[ld]
 intro p6 hp6
 rw[ek]
 obtain⟨H6,hH6⟩:∃H6,H6=upd H5 p6 (.lst ((S.map fun(n:Nat)=>(n:Int)).map V.int)):=⟨_,rfl⟩
 rw[<-hH6]
 have s6:A0 H5 H6:=hH6 ▸ D0 hp6
 have e6:H6 p6=some (.lst ((S.map fun(n:Nat)=>(n:Int)).map V.int)):=hH6 ▸ d8
 clear hH6 ld
 ext
 have so:a6v [.ref p6] H6=fun Q=>∃ns,a2H ((S.map fun(n:Nat)=>(n:Int)).map V.int)=some ns/\ns.length<64/\∀(p:Addr) (ms:List Int),ms.Perm ns->ms.Pairwise (· <= ·)->H6 p=none->Q (.ref p) (upd H6 p (.lst (ms.map V.int))):=by
  unfold a6v
  simp only[e6]
 rw[so]
 refine⟨_,b1x _,by rw[a9];omega,fun p7 ms hperm hsort hp7=>?_⟩
 obtain⟨O,hO,rfl⟩:=b5O hperm
 have hsO:=b6V hsort
 have ndO:O.Nodup:=hO.nodup_iff.mpr I5.nd
 have memO:∀k,k∈O↔k∈S:=fun k=>hO.mem_iff
 obtain⟨H7,hH7⟩:∃H7,H7=upd H6 p7 (.lst ((O.map fun(n:Nat)=>(n:Int)).map V.int)):=⟨_,rfl⟩
 rw[<-hH7]
 have s7:A0 H6 H7:=hH7 ▸ D0 hp7
 have e7:H7 p7=some (.lst ((O.map fun(n:Nat)=>(n:Int)).map V.int)):=hH7 ▸ d8
 clear hH7 so
 have hOl:O.length<=24:=by rw[hO.length_eq];omega
 ext
 have n7:=(n5.same s6).same s7
 have s07:A0 H H7:=((s03.trans I5.same).trans s6).trans s7
 have valid:a1j (a6Z N2 O):=b9v ((memO 0).mpr I5.zero) hsO ndO (fun k hk=>I5.lt k ((memO k).mp hk)) (by omega) (fun k hk l hl' t ht=>(memO t).mpr (hcl k ((memO k).mp hk) l hl' t ht)) (fun k hk=>I5.rc k ((memO k).mp hk))
  (fun l hl'=>(small2 l hl').1) gd2
 specialize Z9 (W9 ?_)
 refine⟨p7,rfl,⟨_,SqL.of e7⟩,fun B hB=>?_⟩
 refine Z0 (xs:=(O.map fun(n:Nat)=>(n:Int)).map V.int) (fun i ys H8=>∃bs:List Addr,ys=bs.map V.ref/\bs.length=i/\(∀(j:Nat) x l,bs[j]? = some x->(a6Z N2 O)[j]? = some l->H8 x=some (.lst (IL l))/\x≠B)/\H8 B=some (.lst ys)/\A0 H7 H8) ?_ ?_ ?_ ?_ ?_
 ·exact⟨[],rfl,rfl,by simp,d8,D0 hB⟩
 ·rintro i ys H8 ⟨_,_,_,_,h,_⟩
  exact h
 ·rintro i ys H8 _ ⟨_,_,_,_,_,s8⟩
  exact SqL.of (s8 _ _ e7)
 ·rintro i x ys H8 hx ⟨bs,rfl,lb,at8,hB8,s8⟩ R hR
  rw[b8,b8]at hx
  cases ho:O[i]? with
  | none=>rw[ho]at hx;cases hx
  | some kk=>
   rw[ho]at hx
   cases hx
   have hko:=mI ho
   have hks:=(memO kk).mp hko
   have hkl:=I5.lt kk hks
   obtain⟨ys8,x8,f1,f2,f3,_⟩:=(n7.same s8).at (U3 hkl)
   obtain⟨l8,hl8⟩:∃l8,l8=N2[kk]:=⟨_,rfl⟩
   rw[<-hl8]at f3
   have hN8:N2[kk]? = some l8:=by rw[hl8];exact U3 hkl
   specialize Z9 (W9 ?_)
   refine F1 f1 f2 ?_
   refine⟨x8,rfl,⟨_,SqL.of f3⟩,fun C hC=>?_⟩
   refine Z0 (xs:=IL l8) (fun j zs H9=>zs=IL ((l8.take j).map fun t=>O.idxOf t)/\H9 C=some (.lst zs)/\A0 H8 H9) ⟨rfl,d8,D0 hC⟩ ?_ ?_ ?_ ?_
   ·rintro j zs H9 ⟨_,h,_⟩
    exact h
   ·rintro j zs H9 _ ⟨_,_,s9⟩
    exact SqL.of (s9 _ _ f3)
   ·rintro j y zs H9 hy ⟨rfl,hC9,s9⟩ R' hR'
    have hy:(l8.map fun(n:Nat)=>V.int (n:Int))[j]? = some y:=hy
    rw[b8]at hy
    cases ht:l8[j]? with
    | none=>rw[ht]at hy;cases hy
    | some t=>
     rw[ht]at hy
     cases hy
     have htO:t∈O:=(memO t).mpr (hcl kk hks l8 hN8 t (mI ht))
     specialize a4O ?_
     have e9:H9 p7=_:=s9 _ _ (s8 _ _ e7)
     exists ⟨V7 e9,?_⟩
     have ix:a8W (.ref p7) [.int (t:Int)] H9=fun Q=>∃ns,a2H ((O.map fun(n:Nat)=>(n:Int)).map V.int)=some ns/\ns.length<10000/\(t:Int)∈ns/\Q (.int (ns.idxOf (t:Int):Nat)) H9:=by
      unfold a8W
      simp only[e9]
     rw[ix]
     refine⟨_,b1x _,by rw[a9];omega,C8.mpr ⟨t,htO,rfl⟩,?_⟩
     rw[c3G]
     have hl2:=(small2 l8 (mI hN8)).1
     refine hR' _ _ hC9 (J8 ?_) ⟨?_,d8,fun b o e=>?_⟩
     ·rw[R7,a9,L9];omega
     ·unfold IL
      rw[b8M l8 (fun t=>O.idxOf t) j ht]
      simp
     ·rw[j7 (d6 e hC)];exact s9 _ _ e
   ·rintro zs H9 ⟨rfl,hC9,s9⟩
    rw[R7,R8]at hC9
    refine hR _ _ (s9 _ _ hB8) (J8 (by rw[a9];have:=(gI ho);omega)) ⟨bs++[C],by simp,by simp[lb],?_,d8,fun b o e=>?_⟩
    ·have nCB:C≠B:=(d6 hB8 hC).symm
     intro j y l' h1 h2
     rcases W8 h1 with ⟨_,g1⟩ | ⟨hj,g1⟩
     ·obtain⟨g2,g3⟩:=at8 j y l' g1 h2
      exact⟨by rw[j7 g3];exact s9 _ _ g2,g3⟩
     ·rw[hj,lb]at h2
      subst g1
      refine⟨?_,nCB⟩
      rw[j7 nCB,hC9]
      have h2':(a6Z N2 O)[i]? = some (l8.map fun t=>O.idxOf t):=by
       unfold a6Z
       rw[b8,ho]
       simp[O4,hN8]
      rw[h2']at h2
      cases h2
      rfl
    ·rw[j7 (d6 e hB)]
     exact s9 _ _ (s8 _ _ e)
 ·rintro ys H8 ⟨bs,rfl,lb,at8,hB8,s8⟩
  rw[a9,a9]at lb
  have hlen:(a6Z N2 O).length=O.length:=by simp[a6Z]
  exact k B (a6Z N2 O) H8 ⟨bs,hB8,by rw[lb,hlen],fun i x l h1 h2=>(at8 i x l h1 h2).1⟩ valid (by rw[hlen];exact hOl) (s07.trans s8)
structure U5(H:Hp)(a:Addr)(N:Nt):Prop where
 ex:∃rs:List Addr,H a=some (.lst (rs.map V.ref))/\rs.length=N.length/\∀(i:Nat) x l,rs[i]? = some x->N[i]? = some l->a9T H (.ref x) (l.length == 2)
theorem U5.same(h:U5 H a N)(k:A0 H H'):U5 H' a N:=by
 obtain⟨rs,h1,h2,h3⟩:=h.ex
 exact⟨rs,k a _ h1,h2,fun i x l e1 e2=>(h3 i x l e1 e2).ts (A0.ts k)⟩
theorem U5.kept(h:U5 H a N)(hB:Bag H b c)(k:G0 b H H'):U5 H' a N:=by
 obtain⟨rs,h1,h2,h3⟩:=h.ex
 exact⟨rs,k.1 a _ h1 (a2m hB h1),h2,fun i x l e1 e2=>(h3 i x l e1 e2).ts (G0.ts k hB)⟩
theorem b6a{K:Fg}{E:XK}(hB:Bag H b c)
  (k:∀p ra na N H',H' p=some (.tup [.ref ra,.ref na])->U5 H' ra N->K7 H' na N->a1j N->N.length<=24->(∃ps:List Addr,ps.length<=3/\(∀p∈ps,a6U H' p)/\∃rs:List Addr,H' ra=some (.lst (rs.map V.ref))/\∀x∈rs,a8z ps H' (.ref x))->Bag H' b c->G0 b H H'->Q (.ref p) H'):a5N K [.ref b] H Q E:=by
 refine⟨rfl,?_⟩
 unfold b8v
 nofun
 exists O9 hB (by decide) (by decide) fun n1 H1 a0 a1 B1 k1=>?_
 exact_mod_cast a2K (P:=fun σ H2=>∃m:Nat,σ=[some (.ref b),some (.int (m:Int)),none,none,none]/\0<m/\m<=24/\Bag H2 b c/\G0 b H H2) ?_ ?_
 rotate_left
 ·intro nx hnx
  ext
  exists O9 B1 (by decide) (by decide) fun n2 H2 b0 b1 B2 k2=>?_
  refine a2e (fun _=>?_) (fun _=>?_)
  ·ext
   exists O9 B2 (by decide) (by decide) fun n3 H3 c0 c1 B3 k3=>?_
   obtain⟨n3,rfl⟩:=a0A c0
   exact hnx _ _ ⟨15+n3,rfl,by omega,by omega,B3,(k1.trans k2).trans k3⟩
  ·ext
   obtain⟨n1,rfl⟩:=a0A a0
   exact hnx _ _ ⟨1+n1,rfl,by omega,by omega,B2,k1.trans k2⟩
 rintro _ H2 ⟨m,rfl,m0,m1,B2,k2⟩
 nofun
 exists c8I B2 m0 m1 fun a N0 H3 n3 l3 s3 z3 B3 k3=>?_
 exists c0t n3 (by omega) (by omega) (by rw[l3];exact s3) (by rw[l3];exact z3) fun na N H4 n4 v4 lN s4=>?_
 have B4:=B3.same s4
 have k4:G0 b H H4:=(k2.trans k3).trans (G0.of_same s4)
 nofun
 exists c3r B4 fun sa H5 N5 B5 k5 _=>?_
 have n5:=n4.kept B4 v4.two k5
 nofun
 specialize Z9 (a2b ?_)
 exists O9 B5 (by decide) (by decide) fun n6 H6 d0 d1 B6 k6=>?_
 obtain⟨n6,rfl⟩:=a0A d0
 refine⟨1+n6,rfl,by omega,by omega,fun D hD=>?_⟩
 obtain⟨nb,nc⟩:=B6.nb hD
 have n6':=n5.kept B5 v4.two k6
 obtain⟨N6,_⟩:=N5.kept B5 k6
 refine a4y (fun i ys H7=>∃ps:List Addr,ys=ps.map V.ref/\ps.length=i/\(∀p∈ps,a6U H7 p)/\H7 D=some (.lst ys)/\Bag H7 b c/\G0 b H6 H7) ?_ ?_ ?_ ?_
 ·exact⟨[],rfl,rfl,by simp,d8,B6.new hD,G0.new hD⟩
 ·rintro i ys H7 ⟨_,_,_,_,h,_⟩
  exact h
 ·rintro i ys H7 hi ⟨ps,rfl,lp,hp,hD7,B7,k7⟩ R hR
  obtain⟨N7,_⟩:=N6.kept B6 k7
  ext
  refine c6k B7 N7 fun p H8 hd8 _ B8 k8=>?_
  have hD8:=k8.1 _ _ hD7 nb
  refine hR _ _ hD8 (J8 (by rw[a9];omega)) ⟨ps++[p],by simp,by simp[lp],fun q hq=>?_,d8,B8.put nb nc,(k7.trans k8).put hD⟩
  rcases t5.mp hq with z | z
  ·exact((hp q z).ts (G0.ts k8 B7)).ts (L0.put hD8)
  ·rw[d9.mp z];exact hd8.ts (L0.put hD8)
 rintro ys H7 ⟨ps,rfl,lp,hp,hD7,B7,k7⟩
 ext
 have P7:b6z H7 D:=⟨ps,hD7,by intro z;subst z;simp at lp;omega,by omega,hp⟩
 obtain⟨N7,_⟩:=N6.kept B6 k7
 have n7:=n6'.kept B6 v4.two k7
 have k07:G0 b H H7:=((k4.trans k5).trans k6).trans k7
 specialize Z9 (W9 ?_)
 obtain⟨as,q1,q2,q3⟩:=id n7.ex
 refine⟨na,rfl,⟨_,SqL.of q1⟩,fun R' hR'=>?_⟩
 obtain⟨rb,rc⟩:=B7.nb hR'
 refine Z0 (xs:=as.map V.ref) (fun i ys H8=>∃rs:List Addr,ys=rs.map V.ref/\rs.length=i/\((∀(j:Nat) x l,rs[j]? = some x->N[j]? = some l->a9T H8 (.ref x) (l.length == 2))/\∀x∈rs,a8z ps H8 (.ref x))/\H8 R'=some (.lst ys)/\Bag H8 b c/\G0 b H7 H8) ?_ ?_ ?_ ?_ ?_
 ·exact⟨[],rfl,rfl,⟨by simp,by simp⟩,d8,B7.new hR',G0.new hR'⟩
 ·rintro i ys H8 ⟨_,_,_,_,h,_⟩
  exact h
 ·rintro i ys H8 _ ⟨_,_,_,_,_,_,k8⟩
  exact SqL.of (k8.1 _ _ q1 (a2m B7 q1))
 ·rintro i x ys H8 hx ⟨rs,rfl,lr,⟨hr,hi8⟩,hR8,B8,k8⟩ R hR
  rw[b8]at hx
  cases hxa:as[i]? with
  | none=>rw[hxa]at hx;cases hx
  | some xa=>
   rw[hxa]at hx
   cases hx
   have hi:i<N.length:=by rw[<-q2];exact(gI hxa)
   have n8:=n7.kept B7 v4.two k8
   have hx8:=q3 i xa _ hxa (U3 hi)
   have hx8:=k8.1 _ _ hx8 (b0M B7 hx8 (by rw[R7];have:=v4.two _ (E9 hi);omega))
   obtain⟨N8,_⟩:=N7.kept B7 k8
   have P8:=P7.kept B7 k8
   ext
   exists R6 hx8 ?_
   rw[R7]
   refine c7A B8 N8 P8 (k8.1 _ _ hD7 (a2m B7 hD7)) fun v H9 r9 i9 B9 k9=>?_
   obtain⟨pv,xv,rfl,_⟩:=id r9
   have hR9:=k9.1 _ _ hR8 rb
   refine hR _ _ hR9 (J8 (by rw[a9];omega)) ⟨rs++[pv],by simp,by simp[lr],⟨?_,fun y hy=>?_⟩,d8,B9.put rb rc,(k8.trans k9).put hR'⟩
   rotate_left
   ·rcases t5.mp hy with z | z
    ·exact((hi8 y z).ts (G0.ts k9 B8)).ts (L0.put hR9)
    ·rw[d9.mp z];exact i9.ts (L0.put hR9)
   intro j y l h1 h2
   rcases W8 h1 with ⟨_,g1⟩ | ⟨hj,g1⟩
   ·exact((hr j y l g1 h2).ts (G0.ts k9 B8)).ts (L0.put hR9)
   ·rw[hj,lr,U3 hi]at h2
    cases h2
    subst g1
    exact r9.ts (L0.put hR9)
 ·rintro ys H8 ⟨rs,rfl,lr,⟨hr,hi8⟩,hR8,B8,k8⟩
  rw[a9]at lr
  ext
  refine E7 (by simp) fun p H9 hp9 e9 s9=>?_
  exact k p R' na N H9 e9 ((⟨rs,hR8,by rw[lr,q2],hr⟩:U5 H8 R' N).same s9) ((n7.kept B7 v4.two k8).same s9) v4 lN ⟨ps,by omega,fun p hp'=>((hp p hp').ts (G0.ts k8 B7)).ts (A0.ts s9),rs,s9 _ _ hR8,fun x hx=>(hi8 x hx).ts (A0.ts s9)⟩ (B8.same s9) ((k07.trans k8).trans (G0.of_same s9))
theorem big(h:n<=1000000):n<=u8:=J5 h (by rw[a4D];decide)
theorem a9S{K:Fg}{E:XK}(ha:H a=some (.lst xs))(h1:1<=xs.length)(h2:xs.length<=400)(k:Q .non H):a1l K [.ref a,.int 0,.int 1] H Q E:=by
 refine⟨rfl,?_⟩
 unfold a5J
 nofun
 exists a1W (s := "list") (by simp only[a1B,ha]) (by decide) ?_
 exists C7 (by decide) ?_
 exists R6 ha ?_
 exists C7 (d2F (by omega)) ?_
 exists R6 ha ?_
 exists C7 (d2F (by omega)) ?_
 exact k
theorem a6Q{K:Fg}{E:XK}(ha:H a=some (.lst (C6 n (V.bl true))))(k:∀H',A0 H H'->Q .non H'):a1e K [.ref a] H Q E:=by
 refine⟨rfl,?_⟩
 unfold a7O
 specialize a0E (a8d ?_)
 refine⟨a,rfl,⟨_,SqL.of ha⟩,?_⟩
 refine b8Q n (fun i σ H2=>∃x1 x2,σ=[some (.ref a),x1,x2]/\A0 H H2) ⟨_,_,rfl,A0.refl _⟩ ?_ ?_ ?_
 ·rintro _ H2 ⟨x1,x2,rfl,s2⟩
  exact⟨⟨_,SqL.of (s2 _ _ ha),by simp⟩,k H2 s2⟩
 ·rintro i _ H2 hi ⟨x1,x2,rfl,s2⟩
  exact⟨_,V.bl true,SqL.of (s2 _ _ ha),by rw[S0,if_pos hi]⟩
 ·rintro i _ H2 hi ⟨x1,x2,rfl,s2⟩ x H3 ⟨p,y,hp,rfl,rfl,hy⟩
  have hy:=hy _ (SqL.of (s2 _ _ ha))
  rw[S0,if_pos hi]at hy
  cases hy
  exists a6t (SqT.of d8) ?_
  exists C7 rfl ?_
  exact⟨_,_,rfl,s2.trans (D0 hp)⟩
theorem a5I(n:Nat):C6 n (V.bl true)++[V.bl true]=C6 (n+1) (V.bl true):=by
 rw[a7D]
theorem c8K(h:n=0\/n=1):inV (.int (n:Int)) [.int 0,.int 1]=true:=by
 rcases h with rfl | rfl <;> decide
theorem b4B{K:Fg}{x:Addr}{l:List Nat}{E:XK}(hv:a9T H v (l.length == 2))(hx:H x=some (.lst (IL l)))(h2:l.length<=2)(hlt:∀t∈l,t<m)(k:∀H',A0 H H'->Q (.bl true) H') :
  a2O K [v,.ref x,.int (m:Int)] H Q E:=by
 obtain⟨p,xs,rfl,hp,_,kd,r,rfl,hk⟩:=hv
 refine⟨rfl,?_⟩
 unfold a9B
 nofun
 exists a1W (s := "list") (by simp only[a1B,hx]) (by decide) ?_
 exists C7 (by decide) ?_
 exact_mod_cast a2K (P:=fun σ H1=>∃w ws,σ=[some (.ref p),some (.ref x),some (.int (m:Int)),some (.ref w)]/\H1 w=some (.tup ws)/\ws.all V4=true/\inV (.int (l.length:Int)) ws=true/\A0 H H1) ?_ ?_
 rotate_left
 ·intro nx hnx
  ext
  exists M7 hp (a0p _ _) ?_
  by_cases e:kd = "ask"
  ·exists K9 (d2G (by rw[e])) ?_
   refine E7 (by simp) fun w H1 hw e1 s1=>?_
   rw[d2G e]at hk
   have:l.length=2:=by simpa using hk.symm
   exact hnx _ _ ⟨w,_,rfl,e1,rfl,by rw[this];decide,s1⟩
  ·exists C7 (d2F (fun z=>e (V.str.inj z))) ?_
   refine E7 (by simp) fun w H1 hw e1 s1=>?_
   rw[d2F e]at hk
   have:¬l.length=2:=by
    intro z
    rw[z]at hk
    exact absurd hk (by decide)
   exact hnx _ _ ⟨w,_,rfl,e1,rfl,c8K (by omega),s1⟩
 rintro _ H1 ⟨w,ws,rfl,hw,fw,iw,s1⟩
 ext
 exists R6 (s1 _ _ hx) ?_
 rw[R7]
 refine a8h hw rfl fw ?_
 exists ⟨_,rfl,K9 iw ?_⟩
 specialize Z9 (W9 ?_)
 refine⟨x,rfl,⟨_,SqL.of (s1 _ _ hx)⟩,fun D hD=>?_⟩
 refine Z0 (xs:=IL l) (fun i ys H2=>ys=C6 i (V.bl true)/\H2 D=some (.lst ys)/\A0 H1 H2) ⟨rfl,d8,D0 hD⟩ ?_ ?_ ?_ ?_
 ·rintro i ys H2 ⟨_,h,_⟩
  exact h
 ·rintro i ys H2 _ ⟨_,_,s2⟩
  exact SqL.of (s2 _ _ (s1 _ _ hx))
 ·rintro i y ys H2 hy ⟨rfl,hD2,s2⟩ R hR
  have hy:(l.map fun(n:Nat)=>V.int (n:Int))[i]? = some y:=hy
  rw[b8]at hy
  cases ht:l[i]? with
  | none=>rw[ht]at hy;cases hy
  | some t=>
   rw[ht]at hy
   cases hy
   have hi:=(gI ht)
   have:=hlt t (mI ht)
   ext
   refine a5c (by omega) (by omega) ?_
   refine hR _ _ hD2 (J8 (by rw[F2];omega)) ⟨a5I i,d8,fun b o e=>?_⟩
   rw[j7 (d6 e hD)];exact s2 _ _ e
 ·rintro ys H2 ⟨rfl,hD2,s2⟩
  ext
  have e:C6 (IL l).length (V.bl true)=(C6 l.length true).map V.bl:=by rw[R7];simp
  rw[e]at hD2
  refine c2D hD2 ?_
  have:(C6 l.length true).all id=true:=by simp
  rw[this]
  exact k H2 (s1.trans s2)
theorem b1B{K:Fg}{E:XK}(hr:U5 H ra N)(hn:K7 H na N)(h400:N.length<=400)(h2:∀l∈N,l.length<=2)(hlt:∀l∈N,∀t∈l,t<N.length)(k:∀H',A0 H H'->Q .non H') :
  a1F K [.ref ra,.ref na] H Q E:=by
 obtain⟨rs,r1,r2,r3⟩:=id hr.ex
 obtain⟨as,a1,a2,a3⟩:=id hn.ex
 refine⟨rfl,?_⟩
 unfold a6N
 nofun
 exists a1W (s := "list") (by simp only[a1B,a1]) (by decide) ?_
 exists C7 (by decide) ?_
 exists R6 a1 ?_
 exists R6 r1 ?_
 exists C7 (by rw[a9,a9,r2,a2];simp) ?_
 specialize b8z (c7s ?_)
 refine⟨ra,na,rfl,⟨_,SqL.of r1⟩,⟨_,SqL.of a1⟩,fun D hD=>?_⟩
 refine c3S N.length (fun i ys H2=>ys=C6 i (V.bl true)/\H2 D=some (.lst ys)/\A0 H H2) ⟨rfl,d8,D0 hD⟩ ?_ ?_ ?_ ?_
 ·rintro i ys H2 ⟨_,h,_⟩
  exact h
 ·rintro ys H2 ⟨rfl,hD2,s2⟩
  exists ⟨⟨_,_,SqL.of (s2 _ _ r1),SqL.of (s2 _ _ a1),.inl (by rw[a9,r2];exact j6 _)⟩,?_⟩
  exact a6Q hD2 fun H3 s3=>k H3 (s2.trans s3)
 ·rintro i ys H2 hi ⟨_,_,s2⟩
  have e1:rs[i]? = some (rs[i]'(by omega)):=by simp[r2,hi]
  have e2:as[i]? = some (as[i]'(by omega)):=by simp[a2,hi]
  exact⟨_,_,_,_,SqL.of (s2 _ _ r1),SqL.of (s2 _ _ a1),by rw[b8,e1];rfl,by rw[b8,e2];rfl⟩
 ·rintro i ys H2 hi ⟨rfl,hD2,s2⟩ x H3 ⟨p,y1,y2,hp,rfl,rfl,g1,g2⟩
  obtain⟨rx,e1⟩:∃rx,rs[i]? = some rx:=⟨_,d4 (by omega)⟩
  obtain⟨ax,e2⟩:∃ax,as[i]? = some ax:=⟨_,d4 (by omega)⟩
  have g1:=g1 _ (SqL.of (s2 _ _ r1))
  have g2:=g2 _ (SqL.of (s2 _ _ a1))
  rw[b8,e1]at g1
  rw[b8,e2]at g2
  cases g1
  cases g2
  refine⟨p,_,_,rfl,SqT.of d8,fun R S hR hS=>?_⟩
  have s3:A0 H2 (upd H2 p (.tup [V.ref rx,V.ref ax])):=D0 hp
  obtain⟨H3,hH3⟩:∃H3,H3=upd H2 p (.tup [V.ref rx,V.ref ax]):=⟨_,rfl⟩
  rw[<-hH3]at s3 ⊢
  ext
  exists K9 rfl ?_
  have s03:=s2.trans s3
  exists R6 (s03 _ _ r1) ?_
  have hl:=U3 hi
  rw[a9,r2]
  refine b4B ((r3 i _ _ e1 hl).ts (A0.ts s03)) (s03 _ _ (a3 i _ _ e2 hl)) (h2 _ (E9 hi)) (hlt _ (E9 hi)) fun H4 s4=>?_
  refine hR _ _ (s4 _ _ (s3 _ _ hD2)) (J8 (by rw[F2];omega)) ⟨a5I i,d8,fun b o e=>?_⟩
  rw[j7 (d6 e hD)];exact s4 _ _ (s03 _ _ e)
def a5d(N:Nt)(k:Nat):Bool:=(N.getD k []).isEmpty
def a0w(N:Nt):List Nat:=(J2 N.length).filter (a5d N)
theorem a9g{k:Nat}(h:N[k]? = some []):k∈a0w N:=by
 refine a0q.mpr ⟨U9.mpr (gI h),?_⟩
 unfold a5d
 simp[O4,h]
theorem a9D{K:Fg}{E:XK}(hn:K7 H na N)(h400:N.length<=400)(k:∀a H',H a=none->H' a=some (.lst (IL (a0w N)))->A0 H H'->Q (.ref a) H'):a2u K [.ref na] H Q E:=by
 obtain⟨as,a1,a2,a3⟩:=id hn.ex
 refine⟨rfl,?_⟩
 unfold b0x
 ext
 specialize b8z (a8d ?_)
 refine⟨na,rfl,⟨_,SqL.of a1⟩,fun D hD=>?_⟩
 refine c3S N.length (fun i ys H2=>ys=IL ((J2 i).filter (a5d N))/\H2 D=some (.lst ys)/\A0 H H2) ⟨rfl,d8,D0 hD⟩ ?_ ?_ ?_ ?_
 ·rintro i ys H2 ⟨_,h,_⟩
  exact h
 ·rintro ys H2 ⟨rfl,hD2,s2⟩
  exact⟨⟨_,SqL.of (s2 _ _ a1),by rw[a9,a2];exact j6 _⟩,k D H2 hD hD2 s2⟩
 ·rintro i ys H2 hi ⟨_,_,s2⟩
  exact⟨_,_,SqL.of (s2 _ _ a1),by rw[b8,d4 (show i<as.length by omega)];rfl⟩
 ·rintro i ys H2 hi ⟨rfl,hD2,s2⟩ x H3 ⟨p,y,hp,rfl,rfl,g1⟩
  obtain⟨ax,e1⟩:∃ax,as[i]? = some ax:=⟨_,d4 (by omega)⟩
  have g1:=g1 _ (SqL.of (s2 _ _ a1))
  rw[b8,e1]at g1
  cases g1
  refine⟨p,_,_,rfl,SqT.of d8,fun R S hR hS=>?_⟩
  have s3:A0 H2 (upd H2 p (.tup [V.int (i:Int),V.ref ax])):=D0 hp
  obtain⟨H3,hH3⟩:∃H3,H3=upd H2 p (.tup [V.int (i:Int),V.ref ax]):=⟨_,rfl⟩
  rw[<-hH3]at s3 ⊢
  have s03:=s2.trans s3
  have hl:=U3 hi
  ext
  exists R6 (s03 _ _ (a3 i _ _ e1 hl)) ?_
  have hst:a5d N i=decide (V.int ((IL N[i]).length:Int)=V.int 0):=by
   rw[b3i,R7]
   unfold a5d
   simp only[O4,hl,a2C]
   cases N[i] with
   | nil=>rfl
   | cons a r=>
    rw[List.isEmpty_cons,eq_comm,decide_eq_false_iff_not,A2]
    omega
  rw[<-hst]
  cases hb:a5d N i with
  | true=>
   exists K9 rfl ?_
   refine hR _ _ (s3 _ _ hD2) (J8 ?_) ⟨?_,d8,fun b o e=>?_⟩
   ·rw[R7]
    have:=a6W (a5d N) (J2 i)
    rw[a2q]at this
    omega
   ·rw[a6G,a9N]
    unfold IL
    rw[z9]
    congr 1
    simp[hb]
   ·rw[j7 (d6 e hD)];exact s03 _ _ e
  | false=>
   refine C7 rfl ?_
   refine hS _ ⟨?_,s3 _ _ hD2,s03⟩
   rw[a6G,a9N]
   simp[hb]
theorem c6T{α:Type}{l:List α}(nd:l.Nodup){x:α}(h1:l[i]? = some x)(h2:l[j]? = some x):i=j:=
 (b0h (gI h1) nd).mp (h1.trans h2.symm)
structure a6e(H0 H:Hp)(a:Addr)(as:List Addr)(M:Nt):Prop where
 same:A0 H0 H
 h:H a=some (.lst (as.map V.ref))
 len:as.length=M.length
 nd:as.Nodup
 na:a∉as
 at_:∀(i:Nat) x l,as[i]? = some x->M[i]? = some l->H x=some (.lst (IL l))
 new:H0 a=none/\∀x∈as,H0 x=none
theorem a6e.next(h:a6e H0 H a as M)(s:A0 H H'):a6e H0 H' a as M:=
 ⟨h.same.trans s,s _ _ h.h,h.len,h.nd,h.na,fun i x l e1 e2=>s _ _ (h.at_ i x l e1 e2),h.new⟩
theorem a6e.add(h:a6e H0 H a as M){t p:Nat}{x:Addr}{l:List Nat}(e1:as[t]? = some x)(e2:M[t]? = some l) :
  a6e H0 (upd H x (.lst (IL (l++[p])))) a as (M.set t (l++[p])):=by
 have hx:=mI e1
 have hxa:x≠a:=fun z=>h.na (z ▸ hx)
 refine⟨fun b o e=>by rw[j7 (d6 e (h.new.2 x hx))];exact h.same b o e,by rw[j7 hxa.symm];exact h.h,by rw[a0I];exact h.len,h.nd,h.na,fun i y l' f1 f2=>?_,h.new⟩
 by_cases e:i=t
 ·subst e
  rw[e1]at f1
  cases f1
  rw[P3 (gI e2)]at f2
  cases f2
  exact d8
 ·rw[R9 (Ne.symm e)]at f2
  have:y≠x:=by
   rintro rfl
   exact e (c6T h.nd f1 e1)
  rw[j7 this]
  exact h.at_ i y l' f1 f2
theorem a6e.net(h:a6e H0 H a as M):K7 H a M:=⟨as,h.h,h.len,h.at_⟩
theorem a6e.nil(n:H0 a=none)(s:A0 H0 H)(e:H a=some (.lst [])):a6e H0 H a [] []:=⟨s,e,rfl,by simp,by simp,by simp,n,by simp⟩
theorem a6e.snoc(h:a6e H0 H a as M)(hp:H p=none)(ep:H' p=some (.lst (IL [])))(s:A0 H H') :
  a6e H0 (upd H' a (.lst ((as++[p]).map V.ref))) a (as++[p]) (M++[[]]):=by
 have npa:p≠a:=(d6 h.h hp).symm
 have npas:p∉as:=fun z=>by
  obtain⟨i,hi⟩:=v6.mp z
  have hl:i<M.length:=by rw[<-h.len];exact(gI hi)
  have:=h.at_ i p _ hi (U3 hl)
  rw[hp]at this
  cases this
 have fr0:H0 p=none:=h.same.free hp
 refine⟨fun b o e=>by rw[j7 (d6 e h.new.1)];exact s _ _ (h.same b o e),d8,by simp[h.len],?_,?_,fun i x l f1 f2=>?_,h.new.1,fun x hx=>?_⟩
 ·rw[a0W]
  exact⟨h.nd,by simp,fun x hx y hy=>by rw[d9.mp hy];intro z;exact npas (z ▸ hx)⟩
 ·intro z
  rcases t5.mp z with q | q
  ·exact h.na q
  ·exact npa (d9.mp q).symm
 ·rcases W8 f1 with ⟨hi,g1⟩ | ⟨hi,g1⟩
  ·rcases W8 f2 with ⟨hj,g2⟩ | ⟨hj,g2⟩
   ·have:x≠a:=fun z=>h.na (z ▸ mI g1)
    rw[j7 this]
    exact s _ _ (h.at_ i x l g1 g2)
   ·have:=h.len;omega
  ·rcases W8 f2 with ⟨hj,g2⟩ | ⟨hj,g2⟩
   ·have:=h.len;omega
   ·subst g1 g2
    rw[j7 npa]
    exact ep
 ·rcases t5.mp hx with q | q
  ·exact h.new.2 x q
  ·rw[d9.mp q];exact fr0
theorem c4D{t u:Nat}{l l':List Nat}(h:(M.set t l)[u]? = some l'):(u=t/\l'=l)\/(u≠t/\M[u]? = some l'):=by
 by_cases e:u=t
 ·subst e
  have hl:=(gI h)
  rw[a0I]at hl
  rw[P3 hl]at h
  exact .inl ⟨rfl,(Option.some.inj h).symm⟩
 ·rw[R9 (Ne.symm e)]at h
  exact .inr ⟨e,h⟩
theorem b9w{K:Fg}{E:XK}(hn:K7 H na N)(h400:N.length<=400)(h2:∀l∈N,l.length<=2)(hlt:∀l∈N,∀t∈l,t<N.length)
  (k:∀a M H',K7 H' a M->M.length=N.length->(∀(p:Nat) (l:List Nat),N[p]? = some l->∀t∈l,∃l',M[t]? = some l'/\p∈l')->(∀l∈M,l.length<=2 * N.length/\∀p∈l,p<N.length)->A0 H H'->Q (.ref a) H'):a6n K [.ref na] H Q E:=by
 obtain⟨ns,a1,a2,a3⟩:=id hn.ex
 refine⟨rfl,?_⟩
 unfold b5a
 exact_mod_cast X5 ?_
 specialize Z9 (W9 ?_)
 refine⟨na,rfl,⟨_,SqL.of a1⟩,fun A hA=>?_⟩
 refine Z0 (xs:=ns.map V.ref) (fun i ys H2=>∃as,ys=as.map V.ref/\a6e H H2 A as (C6 i [])) ?_ ?_ ?_ ?_ ?_
 ·exact⟨[],rfl,.nil hA (D0 hA) d8⟩
 ·rintro i ys H2 ⟨as,rfl,I⟩
  exact I.h
 ·rintro i ys H2 _ ⟨as,rfl,I⟩
  exact SqL.of (I.same _ _ a1)
 ·rintro i x ys H2 hx ⟨as,rfl,I⟩ R hR
  have hi:i<N.length:=by
   have:=(gI hx)
   rw[a9,a2]at this
   exact this
  ext
  refine E7 (by simp) fun p H3 hp e3 s3=>?_
  have:=I.len
  rw[F2]at this
  refine hR _ _ (s3 _ _ I.h) (J8 (by rw[a9];omega)) ⟨as++[p],by simp,?_⟩
  have q:=I.snoc hp e3 s3
  rw[show C6 i ([]:List Nat)++[[]]=C6 (i+1) [] from by rw[a7D]]at q
  rw[show as.map V.ref++[V.ref p]=(as++[p]).map V.ref by simp]
  exact q
 rintro ys H2 ⟨as,rfl,I2⟩
 rw[a9,a2]at I2
 ext
 exact_mod_cast X5 ?_
 specialize a0E (a8d ?_)
 refine⟨na,rfl,⟨_,SqL.of (I2.same _ _ a1)⟩,?_⟩
 refine b8Q N.length (fun i σ H3=>∃x2 x3 x4 M,σ=[some (.ref na),some (.ref A),x2,x3,x4]/\a6e H H3 A as M/\M.length=N.length/\(∀(p:Nat) (l:List Nat),p<i->N[p]? = some l->∀t∈l,∃l',M[t]? = some l'/\p∈l')/\(∀l∈M,l.length<=2 * i/\∀p∈l,p<N.length)) ?_ ?_ ?_ ?_
 ·exact⟨_,_,_,_,rfl,I2,by simp,by omega,fun l hl=>by rw[List.eq_of_mem_replicate hl];simp⟩
 ·rintro _ H3 ⟨x2,x3,x4,M,rfl,I3,lM,g1,g2⟩
  exists ⟨⟨_,SqL.of (I3.same _ _ a1),by rw[a9,a2];exact j6 _⟩,?_⟩
  exact k A M H3 I3.net lM (fun p l hl=>g1 p l (gI hl) hl) g2 I3.same
 ·rintro i _ H3 hi ⟨x2,x3,x4,M,rfl,I3,lM,g1,g2⟩
  exact⟨_,_,SqL.of (I3.same _ _ a1),by rw[b8,d4 (show i<ns.length by omega)];rfl⟩
 ·rintro i _ H3 hi ⟨x2,x3,x4,M,rfl,I3,lM,g1,g2⟩ x H4 ⟨p,y,hp,rfl,rfl,gy⟩
  obtain⟨nx,e1⟩:∃nx,ns[i]? = some nx:=⟨_,d4 (by omega)⟩
  have gy:=gy _ (SqL.of (I3.same _ _ a1))
  rw[b8,e1]at gy
  cases gy
  refine a6t (SqT.of d8) ?_
  have s4:A0 H3 (upd H3 p (.tup [V.int (i:Int),V.ref nx])):=D0 hp
  obtain⟨H4,hH4⟩:∃H4,H4=upd H3 p (.tup [V.int (i:Int),V.ref nx]):=⟨_,rfl⟩
  rw[<-hH4]at s4 ⊢
  have I4:=I3.next s4
  have hl:=U3 hi
  obtain⟨l,hle⟩:∃l,l=N[i]:=⟨_,rfl⟩
  rw[<-hle]at hl
  have hx:H nx=some (.lst (IL l)):=a3 i nx l e1 hl
  have hll:=h2 l (mI hl)
  specialize a0E (W9 ?_)
  refine⟨nx,rfl,⟨_,SqL.of (I4.same _ _ hx)⟩,a0Q (xs:=IL l) (fun j σ H5=>∃x4 M',σ=[some (.ref na),some (.ref A),some (.int (i:Int)),some (.ref nx),x4]/\a6e H H5 A as M'/\M'.length=N.length/\(∀(p:Nat) (l:List Nat),p<i->N[p]? = some l->∀t∈l,∃l',M'[t]? = some l'/\p∈l')/\(∀t∈l.take j,∃l',M'[t]? = some l'/\i∈l')/\(∀l∈M',l.length<=2 * i+j/\∀p∈l,p<N.length)) ?_ ?_ ?_ ?_⟩
  ·exact⟨_,M,rfl,I4,lM,g1,by simp,g2⟩
  ·rintro j σ H5 _ ⟨_,_,_,I5,_⟩
   exact SqL.of (I5.same _ _ hx)
  ·rintro j y _ H5 hy ⟨x4,M',rfl,I5,lM',c1,c2,c3⟩
   have hy:(l.map fun(n:Nat)=>V.int (n:Int))[j]? = some y:=hy
   rw[b8]at hy
   cases ht:l[j]? with
   | none=>rw[ht]at hy;cases hy
   | some t=>
    rw[ht]at hy
    cases hy
    have tm:=mI ht
    have hj:=(gI ht)
    have htn:t<N.length:=hlt l (mI hl) t tm
    ext
    obtain⟨z,hz⟩:∃z,as[t]? = some z:=⟨_,d4 (by have:=I5.len;omega)⟩
    have hMt:=U3 (show t<M'.length by omega)
    have hMz:=I5.at_ t z _ hz hMt
    specialize a4O ?_
    refine F1 I5.h (R5 (by rw[b8,hz];rfl)) ?_
    exists ⟨V7 hMz,?_⟩
    have hb:=c3 _ (E9 (show t<M'.length by omega))
    refine Y9 hMz (J8 (by rw[R7];omega)) ?_
    refine⟨_,M'.set t (M'[t]++[i]),rfl,?_,by rw[a0I];exact lM',?_,?_,?_⟩
    ·have:=I5.add (p:=i) hz hMt
     rw[show IL M'[t]++[V.int (i:Int)]=IL (M'[t]++[i]) by simp[IL]]
     exact this
    ·intro p' l' hp' hl' u hu
     obtain⟨l'',q1,q2⟩:=c1 p' l' hp' hl' u hu
     by_cases e:u=t
     ·subst e
      rw[hMt]at q1
      cases q1
      exact⟨_,P3 (by omega),D8 _ q2⟩
     ·exact⟨l'',by rw[R9 (Ne.symm e)];exact q1,q2⟩
    ·intro u hu
     rw[O2,ht]at hu
     by_cases e:u=t
     ·subst e
      exact⟨_,P3 (by omega),by simp⟩
     ·rcases t5.mp hu with q | q
      ·obtain⟨l'',q1,q2⟩:=c2 u q
       exact⟨l'',by rw[R9 (Ne.symm e)];exact q1,q2⟩
      ·exact absurd (by simpa using q) e
    ·intro l' hl'
     obtain⟨u,hu⟩:=v6.mp hl'
     rcases c4D hu with ⟨_,rfl⟩ | ⟨_,q⟩
     ·refine⟨by rw[g8,J3];omega,fun p' hp'=>?_⟩
      rcases t5.mp hp' with q | q
      ·exact hb.2 p' q
      ·rw[d9.mp q];exact hi
     ·obtain⟨r1,r2⟩:=c3 l' (mI q)
      exact⟨by omega,r2⟩
  ·rintro _ H5 ⟨x4,M',rfl,I5,lM',c1,c2,c3⟩
   rw[R7,R8]at c2
   refine⟨_,_,x4,M',rfl,I5,lM',fun p' l' hp' hl' t ht=>?_,fun l' hl'=>?_⟩
   ·by_cases e:p'=i
    ·subst e
     rw[hl]at hl'
     cases hl'
     exact c2 t ht
    ·exact c1 p' l' (by omega) hl' t ht
   ·obtain⟨r1,r2⟩:=c3 l' hl'
    rw[R7]at r1
    exact⟨by omega,r2⟩
theorem b0X{K:Fg}{ba la:Addr}{bs:List Nat}{B:Nat}{E:XK}(hb:H ba=some (.lst (IL bs)))(hm:K7 H la M)(h400:M.length<=400)(hB:B<=800)(hl:∀l∈M,l.length<=B/\∀t∈l,t<M.length)(hbs:∀x∈bs,x<M.length)(lb:bs.length<=400)
  (k:∀d S H',H' d=some (.dK (KS S))->S.Nodup->(∀x∈S,x<M.length)->(∀x∈bs,x∈S)->a7A M S->A0 H H'->Q (.ref d) H'):a3i K [.ref ba,.ref la] H Q E:=by
 refine⟨rfl,?_⟩
 unfold b2I
 nofun
 exists c2s fun d H1 hd e1 s1=>?_
 nofun
 exists a6u (s1 _ _ hb) fun w H2 hw e2 s2=>?_
 have s02:=s1.trans s2
 have hw0:H w=none:=s1.free hw
 have ndw:d≠w:=d6 e1 hw
 exact_mod_cast X5 ?_
 exact_mod_cast a8a ?_
 refine⟨fun m σ H3=>∃x4 ws S,σ=[some (.ref ba),some (.ref la),some (.ref d),some (.ref w),x4]/\H3 w=some (.lst (IL ws))/\H3 d=some (.dK (KS S))/\A0 H H3/\S.Nodup/\(∀x∈S,x<M.length)/\(∀x∈ws,x<M.length) /\
  (∀x∈bs,x∈S\/x∈ws)/\(∀k∈S,∀l,M[k]? = some l->∀t∈l,t∈S\/t∈ws)/\ws.length<=400+S.length * B/\m=(M.length - S.length) * (B+1)+ws.length,?_,?_⟩
 ·exact⟨_,_,bs,[],rfl,e2,s2 _ _ e1,s02,by simp,by simp,hbs,fun x hx=>.inr hx,by simp,by omega,rfl⟩
 rintro m _ H3 ⟨x4,ws,S,rfl,hw3,hd3,s3,nd,hS,hws,c1,c2,c3,rfl⟩
 ext
 exists R6 hw3 ?_
 have hSl:=a4v _ _ nd hS
 rcases b6W ws with rfl | ⟨r,p,rfl⟩
 ·exists C7 (d2F (by rw[R7];simp)) ?_
  refine k d S H3 hd3 nd hS (fun x hx=>(c1 x hx).elim id fun z=>by simp at z) (fun a ha l hl' t ht=>(c2 a ha l hl' t ht).elim id fun z=>by simp at z) s3
 refine K9 (d2G (by rw[R7,g8,J3];omega)) ?_
 have hp:p<M.length:=hws p (by simp)
 have eIL:IL (r++[p])=IL r++[V.int (p:Int)]:=by simp[IL]
 rw[eIL]at hw3
 refine⟨fun σ H4=>∃m' x4 ws S',σ=[some (.ref ba),some (.ref la),some (.ref d),some (.ref w),x4]/\H4 w=some (.lst (IL ws))/\H4 d=some (.dK (KS S'))/\A0 H H4/\S'.Nodup/\(∀x∈S',x<M.length)/\(∀x∈ws,x<M.length) /\
  (∀x∈bs,x∈S'\/x∈ws)/\(∀k∈S',∀l,M[k]? = some l->∀t∈l,t∈S'\/t∈ws)/\ws.length<=400+S'.length * B/\m'=(M.length - S'.length) * (B+1)+ws.length/\m'<(M.length - S.length) * (B+1)+(r++[p]).length,?_,?_⟩
 ·rintro σ' H4 ⟨m',x4,ws,S',e,r1,r2,r3,r4,r5,r6,r7,r8,r9,r10,r11⟩
  exact⟨m',r11,x4,ws,S',e,r1,r2,r3,r4,r5,r6,r7,r8,r9,r10⟩
 nofun
 specialize c2u ?_
 exists ⟨V7 hw3,c9Y hw3 ?_⟩
 have sW:A0 H (upd H3 w (.lst (IL r))):=fun b o e=>by rw[j7 (d6 e hw0)];exact s3 b o e
 have hdW:(upd H3 w (.lst (IL r))) d=some (.dK (KS S)):=by rw[j7 ndw];exact hd3
 have hwW:(upd H3 w (.lst (IL r))) w=some (.lst (IL r)):=d8
 obtain⟨H4,hH4⟩:∃H4,H4=upd H3 w (.lst (IL r)):=⟨_,rfl⟩
 rw[<-hH4]at sW hdW hwW ⊢
 rw[g8,J3]at c3 ⊢
 specialize a3k ?_
 obtain⟨o,g1,g2⟩:=a6x hdW p
 refine⟨d,o,rfl,g1,?_⟩
 rw[g2]
 ext
 by_cases hps:p∈S
 ·exists C7 (by rw[d2G hps];rfl) ?_
  refine⟨_,_,r,S,rfl,hwW,hdW,sW,nd,hS,fun x hx=>hws x (D8 _ hx),fun x hx=>?_,fun a ha l hl' t ht=>?_,by omega,rfl,by omega⟩
  ·rcases c1 x hx with z | z
   ·exact .inl z
   ·rcases t5.mp z with q | q
    ·exact .inr q
    ·exact .inl (d9.mp q ▸ hps)
  ·rcases c2 a ha l hl' t ht with z | z
   ·exact .inl z
   ·rcases t5.mp z with q | q
    ·exact .inr q
    ·exact .inl (d9.mp q ▸ hps)
 refine K9 (by rw[d2F hps];rfl) ?_
 obtain⟨xs,y,f1,f2,f3,_⟩:=(hm.same sW).at (U3 hp)
 obtain⟨l,hle⟩:∃l,l=M[p]:=⟨_,rfl⟩
 have hlp:M[p]? = some l:=by rw[hle];exact U3 hp
 rw[<-hle]at f3
 obtain⟨b1,b2⟩:=hl l (mI hlp)
 have hput:a5S S p=S++[p]:=by unfold a5S;rw[if_neg hps]
 have hS1:S.length<M.length:=by
  have:=a4v _ _ (b0a (k:=p) nd) fun x hx=>(a0P.mp hx).elim (hS x) fun z=>z ▸ hp
  rw[hput,g8,J3]at this
  omega
 exact_mod_cast X5 ?_
 specialize a8R ?_
 refine⟨d,_,rfl,b4n hdW (by omega) p,?_⟩
 rw[hput]
 obtain⟨H5,hH5⟩:∃H5,H5=upd H4 d (.dK (KS (S++[p]))):=⟨_,rfl⟩
 have hd5:H5 d=some (.dK (KS (S++[p]))):=hH5 ▸ d8
 have oth:∀b o,H4 b=some o->b≠d->H5 b=some o:=fun b o e n=>by rw[hH5,j7 n];exact e
 have s5:A0 H H5:=fun b o e=>oth b o (sW b o e) (d6 e hd)
 rw[<-hH5]
 have hw5:=oth w _ hwW (Ne.symm ndw)
 have fx5:=oth _ _ f1 (S8 f1 hdW (by intro z;cases z))
 have fy5:=oth _ _ f3 (S8 f3 hdW (by intro z;cases z))
 ext
 specialize a4O ?_
 exists ⟨V7 hw5,?_⟩
 refine F1 fx5 f2 ?_
 have hSB:S.length * B<=400 * 800:=Nat.mul_le_mul (by omega) hB
 ext
 refine b0Y hw5 fy5 (big (by rw[R7,R7];omega)) ?_
 have e6:IL r++IL l=IL (r++l):=by simp[IL]
 rw[e6]
 ext
 have key:(M.length - (S.length+1)) * (B+1)+(B+1)=(M.length - S.length) * (B+1):=by
  rw[<-Nat.succ_mul]
  congr 1
  omega
 refine⟨_,_,r++l,S++[p],rfl,d8,by rw[j7 ndw];exact hd5,fun b o e=>by rw[j7 (d6 e hw0)];exact s5 b o e,hput ▸ b0a nd,fun x hx=>?_,fun x hx=>?_,fun x hx=>?_,fun a ha l' hl' t ht=>?_,?_,rfl,?_⟩
 ·rcases t5.mp hx with q | q
  ·exact hS x q
  ·rw[d9.mp q];exact hp
 ·rcases t5.mp hx with q | q
  ·exact hws x (D8 _ q)
  ·exact b2 x q
 ·rcases c1 x hx with z | z
  ·exact .inl (D8 _ z)
  ·rcases t5.mp z with q | q
   ·exact .inr (D8 _ q)
   ·exact .inl (A6 _ q)
 ·rcases t5.mp ha with q | q
  ·rcases c2 a q l' hl' t ht with z | z
   ·exact .inl (D8 _ z)
   ·rcases t5.mp z with u | u
    ·exact .inr (D8 _ u)
    ·exact .inl (A6 _ u)
  ·rw[d9.mp q,hlp]at hl'
   cases hl'
   exact .inr (A6 _ ht)
 ·rw[g8,g8,J3,Nat.succ_mul]
  omega
 ·rw[g8,g8,J3]
  omega
theorem b2q{K:Fg}{E:XK}(hn:K7 H na N)(hv:a1j N)(k:∀H',A0 H H'->Q .non H'):a2i K [.ref na] H Q E:=by
 refine⟨rfl,?_⟩
 unfold a7N
 nofun
 exists E7 (by simp) fun p1 H1 hp1 e1 s1=>?_
 exists b0X (bs:=[0]) (B:=2) e1 (hn.same s1) hv.le (by decide) (fun l hl=>⟨hv.two l hl,hv.lt l hl⟩) (by simpa using hv.pos) (by simp) fun d1 S1 H2 hd1 nd1 hS1 hb1 cl1 s2=>?_
 have in1:∀x,Rc N x->x∈S1:=by
  intro x h
  induction h with
  | zero=>exact hb1 0 (by simp)
  | @step a t l _ hl ht ih=>exact cl1 a ih l hl t ht
 nofun
 exists a9D ((hn.same s1).same s2) hv.le fun sa H3 _ e3 s3=>?_
 exists b9w (((hn.same s1).same s2).same s3) hv.le hv.two hv.lt fun ta M H4 m4 lM hM1 hM2 s4=>?_
 have lst:(a0w N).length<=N.length:=by
  have:=a6W (a5d N) (J2 N.length)
  rwa [a2q]at this
 have hle:=hv.le
 refine b0X (bs:=a0w N) (B:=2 * N.length) (s4 _ _ e3) m4 (by omega) (by omega) (fun l hl=>⟨(hM2 l hl).1,by rw[lM];exact(hM2 l hl).2⟩) (fun x hx=>by
  rw[lM]
  exact U9.mp (a0q.mp hx).1) (by omega) fun d2 S2 H5 hd2 nd2 hS2 hb2 cl2 s5=>?_
 have in2:∀x,Gd N x->x∈S2:=by
  intro x h
  induction h with
  | @stop a h=>exact hb2 a (a9g h)
  | @step a t l h ht _ ih=>
   obtain⟨l',q1,q2⟩:=hM1 a l h t ht
   exact cl2 t ih l' q1 a q2
 have s05:=(((s1.trans s2).trans s3).trans s4).trans s5
 have hd1':H5 d1=_:=s5 _ _ (s4 _ _ (s3 _ _ hd1))
 obtain⟨ys,hy,ly⟩:=(hn.same s05).len
 ext
 specialize a0E (a2b ?_)
 refine R6 hy ?_
 refine⟨N.length,by rw[ly],by omega,by omega,?_⟩
 rw[o4]
 refine a1v (fun i σ H6=>∃x3,σ=[some (.ref na),some (.ref d1),some (.ref d2),x3]/\H6=H5) ⟨_,rfl,rfl⟩ ?_ ?_
 ·rintro i _ H6 hi ⟨x3,rfl,rfl⟩
  ext
  rw[a1p]
  specialize a3k ?_
  obtain⟨o,g1,g2⟩:=a6x hd1' i
  refine⟨d1,o,rfl,g1,?_⟩
  rw[g2,d2G (in1 i (hv.rc i hi))]
  ext
  exists C7 rfl ?_
  specialize a3k ?_
  obtain⟨o',g1',g2'⟩:=a6x hd2 i
  refine⟨d2,o',rfl,g1',?_⟩
  rw[g2',d2G (in2 i (hv.gd i hi))]
  ext
  exists C7 rfl ?_
  exact⟨_,rfl,rfl⟩
 ·rintro _ H6 ⟨x3,rfl,rfl⟩
  exact k _ s05
abbrev Stp:=Int×Int
variable{s:Stp}{L:List (Nat×Option Stp)}
def FST:Stp:=(-1,0)
def a3z(N:Nt)(p:Nat):List Stp:=(J2 (N.getD p []).length).map fun(a:Nat)=>((p:Int),(a:Int))
def a7b(N:Nt)(i:Nat):List Stp:=FST::(J2 i).flatMap (a3z N)
def Z8(N:Nt):List Stp:=a7b N N.length
def U2(N:Nt)(s:Stp):Nat:=if s=FST then 0 else (N.getD s.1.toNat []).getD s.2.toNat 0
theorem a9F(N:Nt)(i:Nat):a7b N (i+1)=a7b N i++a3z N i:=by
 unfold a7b
 rw[a6G,List.flatMap_append]
 simp
def a2g(N:Nt)(s:Stp):Prop:=s=FST\/∃(p q:Nat) (l:List Nat) (t:Nat),s=((p:Int),(q:Int))/\N[p]? = some l/\l[q]? = some t
theorem a9k(h:s∈Z8 N):a2g N s:=by
 rcases j4.mp h with z | z
 ·exact .inl z
 ·obtain⟨p,hp,q⟩:=a5w.mp z
  have hp:=U9.mp hp
  obtain⟨a,ha,rfl⟩:=C8.mp q
  have ha:=U9.mp ha
  have e:N.getD p []=N[p]:=by simp[O4,hp]
  rw[e]at ha
  exact .inr ⟨p,a,N[p],N[p][a],rfl,U3 hp,by simp⟩
theorem c5W(hv:a1j N)(h:a2g N s):U2 N s<N.length:=by
 unfold U2
 rcases h with rfl | ⟨p,q,l,t,rfl,h1,h2⟩
 ·rw[if_pos rfl];exact hv.pos
 ·split
  ·exact hv.pos
  ·have:(N.getD ((p:Int),(q:Int)).1.toNat []).getD ((p:Int),(q:Int)).2.toNat 0=t:=by
    show(N.getD (p:Int).toNat []).getD (q:Int).toNat 0=t
    rw[o4,o4]
    simp[O4,h1,h2]
   rw[this]
   exact hv.lt l (mI h1) t (mI h2)
def Z6(K:Fg)(H:Hp)(a:Addr)(s:Stp):Prop:=H a=some (.tup [.int s.1,.int s.2])\/(s=FST/\∀H,SqT K H a [.int (-1),.int 0])
theorem Z6.ts{K:Fg}(h:Z6 K H a s)(t:L0 H H'):Z6 K H' a s:=by
 rcases h with h | h
 ·exact .inl (t _ _ h)
 ·exact .inr h
theorem Z6.sq{K:Fg}(h:Z6 K H a s):SqT K H a [.int s.1,.int s.2]:=by
 rcases h with h | ⟨e,h⟩
 ·exact SqT.of h
 ·subst e;exact h H
structure E8(K:Fg)(H:Hp)(l:Addr)(S:List Stp):Prop where
 ex:∃vs:List Addr,H l=some (.lst (vs.map V.ref))/\vs.length=S.length/\∀(i:Nat) x s,vs[i]? = some x->S[i]? = some s->Z6 K H x s
theorem E8.same{K:Fg}{S:List Stp}(h:E8 K H l S)(s:A0 H H'):E8 K H' l S:=by
 obtain⟨vs,h1,h2,h3⟩:=h.ex
 exact⟨vs,s _ _ h1,h2,fun i x t e1 e2=>(h3 i x t e1 e2).ts (A0.ts s)⟩
theorem E8.put{K:Fg}{y:Addr}{S:List Stp}(h:E8 K H l S)(hy:H y=some (.lst xs))(n:l≠y):E8 K (upd H y (.lst ys)) l S:=by
 obtain⟨vs,h1,h2,h3⟩:=h.ex
 exact⟨vs,by rw[j7 n];exact h1,h2,fun i x t e1 e2=>(h3 i x t e1 e2).ts (L0.put hy)⟩
theorem a9E{K:Fg}{c:Cn}{E:XK}(ck:a2I K c)(hn:K7 H na N)(h400:N.length<=400)(h2:∀l∈N,l.length<=2)
  (k:∀a H',H a=none->E8 K H' a (Z8 N)->A0 H H'->Q (.ref a) H'):a2v K c [.ref na] H Q E:=by
 obtain⟨ns,a1,a2,a3⟩:=id hn.ex
 refine⟨rfl,?_⟩
 unfold b0y
 nofun
 exists E7 (by simp) fun D H1 hD e1 s1=>?_
 exact_mod_cast X5 ?_
 specialize a0E (a8d ?_)
 refine⟨na,rfl,⟨_,SqL.of (s1 _ _ a1)⟩,?_⟩
 refine b8Q N.length (fun i σ H2=>∃x2 x3 vs,σ=[some (.ref na),some (.ref D),x2,x3]/\H2 D=some (.lst ((vs:List Addr).map V.ref))/\vs.length=(a7b N i).length/\vs.length<=1+2 * i/\(∀(j:Nat) x s,vs[j]? = some x->(a7b N i)[j]? = some s->Z6 K H2 x s)/\A0 H H2) ?_ ?_ ?_ ?_
 ·refine⟨_,_,[c.V9],rfl,e1,rfl,by simp,fun j x s f1 f2=>?_,s1⟩
  cases j with
  | zero=>
   cases f1
   cases f2
   exact .inr ⟨rfl,ck.a0X⟩
  | succ j=>simp at f1
 ·rintro _ H2 ⟨x2,x3,vs,rfl,hD2,lv,_,at2,s2⟩
  exists ⟨⟨_,SqL.of (s2 _ _ a1),by rw[a9,a2];exact j6 _⟩,?_⟩
  exact k D H2 hD ⟨vs,hD2,lv,at2⟩ s2
 ·rintro i _ H2 hi ⟨x2,x3,vs,rfl,hD2,lv,_,at2,s2⟩
  exact⟨_,_,SqL.of (s2 _ _ a1),by rw[b8,d4 (show i<ns.length by omega)];rfl⟩
 ·rintro i _ H2 hi ⟨x2,x3,vs,rfl,hD2,lv,lv2,at2,s2⟩ x H3 ⟨p,y,hp,rfl,rfl,gy⟩
  obtain⟨nx,f1⟩:∃nx,ns[i]? = some nx:=⟨_,d4 (by omega)⟩
  have gy:=gy _ (SqL.of (s2 _ _ a1))
  rw[b8,f1]at gy
  cases gy
  refine a6t (SqT.of d8) ?_
  have s3:A0 H2 (upd H2 p (.tup [V.int (i:Int),V.ref nx])):=D0 hp
  obtain⟨H3,hH3⟩:∃H3,H3=upd H2 p (.tup [V.int (i:Int),V.ref nx]):=⟨_,rfl⟩
  rw[<-hH3]at s3 ⊢
  have s03:=s2.trans s3
  have hl:=U3 hi
  obtain⟨l,hle⟩:∃l,l=N[i]:=⟨_,rfl⟩
  rw[<-hle]at hl
  have hll:=h2 l (mI hl)
  have hx:=s03 _ _ (a3 i nx l f1 hl)
  ext
  specialize a4O ?_
  exists ⟨V7 (s3 _ _ hD2),?_⟩
  specialize Z9 (a2b ?_)
  refine R6 hx ?_
  rw[R7]
  refine⟨l.length,rfl,by omega,by omega,fun A hA=>?_⟩
  rw[o4]
  refine a4y (fun j ys H4=>∃ws:List Addr,ys=ws.map V.ref/\ws.length=j/\(∀(q:Nat) x,ws[q]? = some x->H4 x=some (.tup [.int (i:Int),.int (q:Int)]))/\H4 A=some (.lst ys)/\A0 H3 H4) ?_ ?_ ?_ ?_
  ·exact⟨[],rfl,rfl,by simp,d8,D0 hA⟩
  ·rintro j ys H4 ⟨_,_,_,_,h,_⟩
   exact h
  ·rintro j ys H4 hj ⟨ws,rfl,lw,at4,hA4,s4⟩ R hR
   ext
   refine E7 (by simp) fun z H5 hz e5 s5=>?_
   rw[a1p]at e5
   have nzA:z≠A:=(d6 hA4 hz).symm
   refine hR _ _ (s5 _ _ hA4) (J8 (by rw[a9];omega)) ⟨ws++[z],by simp,by simp[lw],fun q x hq=>?_,d8,fun b o e=>?_⟩
   ·rcases W8 hq with ⟨_,g⟩ | ⟨hq',g⟩
    ·have:=s5 _ _ (at4 q x g)
     rw[j7 (S8 this (s5 _ _ hA4) (by intro z;cases z))]
     exact this
    ·subst g
     rw[j7 nzA,e5,hq',lw]
   ·rw[j7 (d6 e hA)];exact s5 _ _ (s4 _ _ e)
  ·rintro ys H4 ⟨ws,rfl,lw,at4,hA4,s4⟩
   ext
   have hD4:H4 D=_:=s4 _ _ (s3 _ _ hD2)
   have s04:=s03.trans s4
   refine b0Y hD4 hA4 (big (by rw[a9,a9];omega)) ?_
   rw[<-z9]
   have hon:a3z N i=(J2 l.length).map fun(a:Nat)=>((i:Int),(a:Int)):=by
    unfold a3z
    simp[O4,hl]
   have hU:=a9F N i
   have lon:(a3z N i).length=l.length:=by rw[hon];simp
   refine⟨_,_,vs++ws,rfl,d8,by rw[hU,g8,g8,lv,lw,lon],by rw[g8];omega,fun j x s g1 g2=>?_,fun b o e=>?_⟩
   ·rw[hU]at g2
    by_cases hj:j<vs.length
    ·rw[v9 hj]at g1
     rw[v9 (by omega)]at g2
     exact((at2 j x s g1 g2).ts (A0.ts (s3.trans s4))).ts (L0.put hD4)
    ·rw[V1 (by omega)]at g1
     rw[V1 (by omega),<-lv,hon,b8]at g2
     have hq:j - vs.length<l.length:=by
      have:=(gI g1)
      omega
     rw[a8D hq]at g2
     cases g2
     have:=at4 _ _ g1
     exact .inl (by rw[j7 (S8 this hD4 (by intro z;cases z))];exact this)
   ·rw[j7 (d6 e hD)];exact s04 _ _ e
def b6A(c:Cn)(H:Hp)(x:Addr)(N:Nt):Prop:=∃dx fs n,H x=some (.ins c.K6 dx fs)/\fs.lookup ("nexts" : Str)=some (V.ref n)/\K7 H n N
theorem eq2(p q:Int):a1m [.int p,.int q] [.int (-1),.int 0]=decide ((p,q)=FST):=by
 unfold a1m
 simp only[A2,a3r,Nat.zero_add,Nat.reduceAdd,Nat.min_self]
 rw[show J2 2=[0,1] from rfl]
 simp only[a9x,d0X,Bool.and_true,O4,a5x,List.getElem?_cons_succ,a2C,beq_self_eq_true]
 unfold FST
 by_cases h:p = -1
 ·by_cases h':q=0
  ·subst h h';decide
  ·subst h
   simp[eqV,h']
 ·simp[eqV,h]
theorem a2x{K:Fg}{c:Cn}{x:Addr}{E:XK}(ck:a2I K c)(hp:b6A c H x N)(ha:Z6 K H a s)(hs:a2g N s)(k:Q (.int (U2 N s:Nat)) H):R1 K c [.ref x,.ref a] H Q E:=by
 refine⟨rfl,?_⟩
 unfold a5m
 nofun
 refine⟨_,_,_,_,rfl,rfl,ha.sq,ck.a0X H,rfl,rfl,?_⟩
 rw[eq2]
 ext
 by_cases e:s=FST
 ·exists K9 (d2G e) ?_
  unfold U2 at k
  rw[if_pos e]at k
  exact k
 ·exists C7 (d2F e) ?_
  rcases hs with z | ⟨p,q,l,t,rfl,h1,h2⟩
  ·exact(e z).elim
  rcases ha with ha | ⟨z,_⟩
  rotate_left
  ·exact(e z).elim
  obtain⟨dx,fs,n,hx,hf,hn⟩:=hp
  specialize a1V ?_
  exists ⟨x,_,dx,fs,_,rfl,hx,ck.L3,ck.L7,hf,?_⟩
  refine M7 ha (a0p _ _) ?_
  obtain⟨xs,y,f1,f2,f3,_⟩:=hn.at h1
  exists F1 f1 f2 ?_
  refine M7 ha (a2z _ _ _) ?_
  refine F1 f3 (c4e h2) ?_
  have:U2 N ((p:Int),(q:Int))=t:=by
   unfold U2
   rw[if_neg e]
   show(N.getD (p:Int).toNat []).getD (q:Int).toNat 0=t
   rw[o4,o4]
   simp[O4,h1,h2]
  rw[this]at k
  exact k
structure c4f(K:Fg)(H0 H:Hp)(e:Addr)(es:List Addr)(P:List (List Stp)):Prop where
 same:A0 H0 H
 h:H e=some (.lst (es.map V.ref))
 len:es.length=P.length
 nd:es.Nodup
 na:e∉es
 at_:∀(i:Nat) y S,es[i]? = some y->P[i]? = some S->E8 K H y S
 new:H0 e=none/\∀y∈es,H0 y=none
theorem c4f.add{K:Fg}{e:Addr}{es:List Addr}{P:List (List Stp)}(h:c4f K H0 H e es P){t:Nat}{y:Addr}{S:List Stp}(e1:es[t]? = some y)(e2:P[t]? = some S)(hy:H y=some (.lst (vs.map V.ref)))
  (lv:vs.length=S.length) (at2:∀(i:Nat) x s,vs[i]? = some x->S[i]? = some s->Z6 K H x s) (ha:Z6 K H a s):c4f K H0 (upd H y (.lst ((vs++[a]).map V.ref))) e es (P.set t (S++[s])):=by
 have hm:=mI e1
 have ye:y≠e:=fun z=>h.na (z ▸ hm)
 refine⟨fun b o q=>by rw[j7 (d6 q (h.new.2 y hm))];exact h.same b o q,by rw[j7 ye.symm];exact h.h,by rw[a0I];exact h.len,h.nd,h.na,fun i z S' f1 f2=>?_,h.new⟩
 by_cases q:i=t
 ·subst q
  rw[e1]at f1
  cases f1
  rw[P3 (gI e2)]at f2
  cases f2
  refine⟨vs++[a],d8,by simp[lv],fun j x s' g1 g2=>?_⟩
  rcases W8 g1 with ⟨_,k1⟩ | ⟨j1,k1⟩
  ·rcases W8 g2 with ⟨_,k2⟩ | ⟨j2,k2⟩
   ·exact(at2 j x s' k1 k2).ts (L0.put hy)
   ·omega
  ·rcases W8 g2 with ⟨_,k2⟩ | ⟨j2,k2⟩
   ·omega
   ·subst k1 k2
    exact ha.ts (L0.put hy)
 ·rw[R9 (Ne.symm q)]at f2
  have:z≠y:=by
   rintro rfl
   exact q (c6T h.nd f1 e1)
  exact(h.at_ i z S' f1 f2).put hy this
structure a2f(K:Fg)(c:Cn)(H:Hp)(x:Addr)(N:Nt):Prop where
 ex:∃dx r n e es,H x=some (.ins c.K6 dx [("rows",.ref r),("nexts",.ref n),("entries",.ref e)])/\U5 H r N/\K7 H n N/\H e=some (.lst ((es:List Addr).map V.ref))/\es.length=N.length /\
  ∀(t:Nat) y,es[t]? = some y->E8 K H y ((Z8 N).filter fun s=>decide (U2 N s=t))
structure a6S(K:Fg)(c:Cn)(Z:Addr->Prop)(rs:List Addr)(H:Hp)(x:Addr)(N:Nt):Prop where
 ex:∃dx r n e es ns,H x=some (.ins c.K6 dx [("rows",.ref r),("nexts",.ref n),("entries",.ref e)])/\(U5 H r N/\H r=some (.lst (rs.map V.ref)))/\H n=some (.lst ((ns:List Addr).map V.ref))/\ns.length=N.length/\(∀(i:Nat) y l,ns[i]? = some y->N[i]? = some l->H y=some (.lst (IL l))) /\
  H e=some (.lst ((es:List Addr).map V.ref))/\es.length=N.length/\(∀(t:Nat) y,es[t]? = some y->E8 K H y ((Z8 N).filter fun s=>decide (U2 N s=t)))/\∀z,Z z->z≠r/\z≠n/\z≠e/\z∉ns/\z∉es
theorem a6S.at{K:Fg}{c:Cn}{x:Addr}(h:a6S K c Z rs H x N):a2f K c H x N:=by
 obtain⟨dx,r,n,e,es,ns,h1,⟨h2,h2r⟩,h3,h4,h5,h6,h7,h8,_⟩:=h.ex
 exact⟨dx,r,n,e,es,h1,h2,⟨ns,h3,h4,h5⟩,h6,h7,h8⟩
theorem a2f.same{K:Fg}{c:Cn}{x:Addr}(h:a2f K c H x N)(s:A0 H H'):a2f K c H' x N:=by
 obtain⟨dx,r,n,e,es,h1,h2,h3,h4,h5,h6⟩:=h.ex
 exact⟨dx,r,n,e,es,s _ _ h1,h2.same s,h3.same s,s _ _ h4,h5,fun t y q=>(h6 t y q).same s⟩
theorem a2f.x{K:Fg}{c:Cn}{x:Addr}(h:a2f K c H x N):b6A c H x N:=by
 obtain⟨dx,r,n,e,es,h1,h2,h3,_⟩:=h.ex
 exact⟨dx,_,n,h1,rfl,h3⟩
theorem K7.ins{H:Hp}{a x C dx:Addr}{N:Nt}{fs:List (Str×V)}{o:HO}(h:K7 H a N)(hx:H x=some (.ins C dx fs)):K7 (upd H x o) a N:=by
 obtain⟨as,q1,q2,q3⟩:=h.ex
 exact⟨as,by rw[j7 (S8 q1 hx (by intro z;cases z))];exact q1,q2,fun j y l e1 e2=>by
  have q:=q3 j y l e1 e2
  rw[j7 (S8 q hx (by intro z;cases z))];exact q⟩
theorem L0.ins{H:Hp}{x C dx:Addr}{fs:List (Str×V)}{o:HO}(hx:H x=some (.ins C dx fs)):L0 H (upd H x o):=fun a xs e=>by
 rw[j7 (S8 e hx (by intro z;cases z))];exact e
theorem U5.ins{H:Hp}{a x C dx:Addr}{N:Nt}{fs:List (Str×V)}{o:HO}(h:U5 H a N)(hx:H x=some (.ins C dx fs)):U5 (upd H x o) a N:=by
 obtain⟨as,q1,q2,q3⟩:=h.ex
 exact⟨as,by rw[j7 (S8 q1 hx (by intro z;cases z))];exact q1,q2,fun j y l e1 e2=>(q3 j y l e1 e2).ts (L0.ins hx)⟩
theorem b2P(h:∀l∈N,l.length<=2):(Z8 N).length<=1+2 * N.length:=by
 have go:∀i,i<=N.length->(a7b N i).length<=1+2 * i:=by
  intro i
  induction i with
  | zero=>intro _;show 1<=1;exact j6 _
  | succ i ih=>
   intro hi
   rw[a9F,g8]
   have:=ih (by omega)
   have h2:(a3z N i).length<=2:=by
    unfold a3z
    rw[a9,a2q]
    have e:N.getD i []=N[i]:=by simp[O4,show i<N.length by omega]
    rw[e]
    exact h _ (E9 _)
   omega
 exact go _ (j6 _)
theorem b7W{S:List Stp}{f:Stp->Nat}{t:Nat}(h:S[i]? = some s):(S.take (i+1)).filter (fun s=>decide (f s=t))=(S.take i).filter (fun s=>decide (f s=t))++(if f s=t then [s] else []):=by
 rw[O2,h,a9N]
 congr 1
 by_cases e:f s=t
 ·rw[if_pos e];simp[e]
 ·rw[if_neg e];simp[e]
theorem b3V{K:Fg}{c:Cn}{x:Addr}{E:XK}(ck:a2I K c)(hrs:H ra=some (.lst (rs.map V.ref)))(hr:U5 H ra N)(hn:K7 H na N)(hv:a1j N)(hx:H x=some (.ins c.K6 dx []))
  (k:∀H',a6S K c (fun z=>∃o,H z=some o/\z≠x) rs H' x N->(∀b o,H b=some o->b≠x->H' b=some o)->Q .non H'):a0U K c [.ref x,.ref ra,.ref na] H Q E:=by
 obtain⟨rs',r1,r2,r3⟩:=id hr.ex
 obtain rfl:rs'=rs:=by
  rw[hrs]at r1
  exact(O7 (f:=V.ref) (fun a b h=>V.ref.inj h) |>.mp (HO.lst.inj (Option.some.inj r1))).symm
 obtain⟨ns,n1,n2,n3⟩:=id hn.ex
 have hpos:=hv.pos
 have h400:=hv.le
 refine⟨rfl,?_⟩
 unfold a9C
 nofun
 exists a9S r1 (by rw[a9];omega) (by rw[a9];omega) ?_
 nofun
 specialize Z9 (W9 ?_)
 refine⟨ra,rfl,⟨_,SqL.of r1⟩,fun D hD=>?_⟩
 refine Z0 (xs:=rs'.map V.ref) (fun i ys H2=>ys=C6 i (V.bl true)/\H2 D=some (.lst ys)/\A0 H H2) ⟨rfl,d8,D0 hD⟩ ?_ ?_ ?_ ?_
 ·rintro i ys H2 ⟨_,h,_⟩
  exact h
 ·rintro i ys H2 _ ⟨_,_,s2⟩
  exact SqL.of (s2 _ _ r1)
 ·rintro i y ys H2 hy ⟨rfl,hD2,s2⟩ R hR
  rw[b8]at hy
  cases hrx:rs'[i]? with
  | none=>rw[hrx]at hy;cases hy
  | some rx=>
   rw[hrx]at hy
   cases hy
   have hi:i<N.length:=by rw[<-r2];exact(gI hrx)
   ext
   refine c0B ck ((r3 i rx _ hrx (U3 hi)).ts (A0.ts s2)) fun H3 s3=>?_
   refine hR _ _ (s3 _ _ hD2) (J8 (by rw[F2];omega)) ⟨a5I i,d8,fun b o e=>?_⟩
   rw[j7 (d6 e hD)];exact s3 _ _ (s2 _ _ e)
 rintro ys H2 ⟨rfl,hD2,s2⟩
 ext
 refine a6Q hD2 fun H3 s3=>?_
 have s03:=s2.trans s3
 ext
 nofun
 refine b1B (hr.same s03) (hn.same s03) h400 hv.two hv.lt fun H4 s4=>?_
 have s04:=s03.trans s4
 ext
 nofun
 refine b2q (hn.same s04) hv fun H5 s5=>?_
 have s05:=s04.trans s5
 ext
 exact_mod_cast X5 ?_
 specialize b7h ?_
 refine a6u (s05 _ _ r1) fun rp H6 hrp e6 s6=>?_
 have s06:=s05.trans s6
 ext
 refine⟨x,_,dx,[],rfl,s06 _ _ hx,ck.L3,ck.a0g,by simp,?_⟩
 obtain⟨H7,hH7⟩:∃H7,H7=upd H6 x (.ins c.K6 dx (a3t "rows" (.ref rp) [])):=⟨_,rfl⟩
 have x7:H7 x=some (.ins c.K6 dx [("rows",.ref rp)]):=hH7 ▸ d8
 have f7:∀b o,H6 b=some o->b≠x->H7 b=some o:=fun b o e n=>by rw[hH7,j7 n];exact e
 have rows7:U5 H7 rp N:=by
  have q:U5 H6 rp N:=⟨rs',e6,r2,fun i y l a b=>(r3 i y l a b).ts (A0.ts s06)⟩
  rw[hH7]
  exact q.ins (s06 _ _ hx)
 have net7:K7 H7 na N:=by rw[hH7];exact(hn.same s06).ins (s06 _ _ hx)
 have ra7:H7 ra=some (.lst (rs'.map V.ref)):=f7 _ _ (s06 _ _ r1) (S8 r1 hx (by intro z;cases z))
 rw[<-hH7]
 clear hH7
 exact_mod_cast X5 ?_
 exact_mod_cast b7h ?_
 exact_mod_cast Z9 (W9 ?_)
 obtain⟨ns',m1,m2,m3⟩:=id net7.ex
 ext
 refine⟨na,rfl,⟨_,SqL.of m1⟩,fun np hnp=>?_⟩
 refine Z0 (xs:=ns'.map V.ref) (fun i ys H8=>∃as:List Addr,ys=as.map V.ref/\as.length=i/\(∀(j:Nat) y l,as[j]? = some y->N[j]? = some l->H8 y=some (.lst (IL l))/\y≠np)/\H8 np=some (.lst ys)/\A0 H7 H8/\∀y∈as,H7 y=none) ?_ ?_ ?_ ?_ ?_
 ·exact⟨[],rfl,rfl,by simp,d8,D0 hnp,by simp⟩
 ·rintro i ys H8 ⟨_,_,_,_,h,_⟩
  exact h
 ·rintro i ys H8 _ ⟨_,_,_,_,_,s8,_⟩
  exact SqL.of (s8 _ _ m1)
 ·rintro i y ys H8 hy ⟨as,rfl,la,at8,hnp8,s8,fr8⟩ R hR
  rw[b8]at hy
  cases hnx:ns'[i]? with
  | none=>rw[hnx]at hy;cases hy
  | some nx=>
   rw[hnx]at hy
   cases hy
   have hi:i<N.length:=by rw[<-m2];exact(gI hnx)
   ext
   refine a6u (s8 _ _ (m3 i nx _ hnx (U3 hi))) fun q H9 hq e9 s9=>?_
   have nq:q≠np:=(d6 hnp8 hq).symm
   refine hR _ _ (s9 _ _ hnp8) (J8 (by rw[a9];omega)) ⟨as++[q],by simp,by simp[la],fun j y l g1 g2=>?_,d8,fun b o e=>?_,fun y hy=>?_⟩
   ·rcases W8 g1 with ⟨_,f1⟩ | ⟨hj,f1⟩
    ·obtain⟨f2,f3⟩:=at8 j y l f1 g2
     exact⟨by rw[j7 f3];exact s9 _ _ f2,f3⟩
    ·rw[hj,la,U3 hi]at g2
     cases g2
     subst f1
     exact⟨by rw[j7 nq];exact e9,nq⟩
   ·rw[j7 (d6 e hnp)];exact s9 _ _ (s8 _ _ e)
   ·rcases t5.mp hy with z | z
    ·exact fr8 y z
    ·rw[d9.mp z];exact s8.free hq
 rintro ys H8 ⟨as,rfl,la,at8,hnp8,s8,fr8⟩
 rw[a9,m2]at la
 have net8:K7 H8 np N:=⟨as,hnp8,la,fun i y l a b=>(at8 i y l a b).1⟩
 ext
 refine⟨x,_,dx,_,rfl,s8 _ _ x7,ck.L3,ck.L7,by simp,?_⟩
 obtain⟨H9,hH9⟩:∃H9,H9=upd H8 x (.ins c.K6 dx (a3t "nexts" (.ref np) [("rows",.ref rp)])):=⟨_,rfl⟩
 have x9:H9 x=some (.ins c.K6 dx [("rows",.ref rp),("nexts",.ref np)]):=by
  rw[hH9,d8]
  simp only[a3t]
  rw[if_neg (by decide)]
 have f9:∀b o,H8 b=some o->b≠x->H9 b=some o:=fun b o e n=>by rw[hH9,j7 n];exact e
 have rows9:U5 H9 rp N:=by rw[hH9];exact(rows7.same s8).ins (s8 _ _ x7)
 have net9:K7 H9 np N:=by rw[hH9];exact net8.ins (s8 _ _ x7)
 have ra9:H9 ra=some (.lst (rs'.map V.ref)):=f9 _ _ (s8 _ _ ra7) (S8 ra7 x7 (by intro z;cases z))
 rw[<-hH9]
 clear hH9
 exact_mod_cast X5 ?_
 exact_mod_cast b7h ?_
 specialize Z9 (W9 ?_)
 refine⟨ra,rfl,⟨_,SqL.of ra9⟩,fun ep hep=>?_⟩
 refine Z0 (xs:=rs'.map V.ref) (fun i ys H10=>∃es,ys=es.map V.ref/\a6e H9 H10 ep es (C6 i [])) ?_ ?_ ?_ ?_ ?_
 ·exact⟨[],rfl,.nil hep (D0 hep) d8⟩
 ·rintro i ys H10 ⟨es,rfl,I⟩
  exact I.h
 ·rintro i ys H10 _ ⟨es,rfl,I⟩
  exact SqL.of (I.same _ _ ra9)
 ·rintro i y ys H10 hy ⟨es,rfl,I⟩ R hR
  have hi:i<N.length:=by
   have:=(gI hy)
   rw[a9,r2]at this
   exact this
  ext
  refine E7 (by simp) fun p H11 hp e11 s11=>?_
  have:=I.len
  rw[F2]at this
  refine hR _ _ (s11 _ _ I.h) (J8 (by rw[a9];omega)) ⟨es++[p],by simp,?_⟩
  have q:=I.snoc hp e11 s11
  rw[show C6 i ([]:List Nat)++[[]]=C6 (i+1) [] from by rw[a7D]]at q
  rw[show es.map V.ref++[V.ref p]=(es++[p]).map V.ref by simp]
  exact q
 rintro ys H10 ⟨es,rfl,I10⟩
 rw[a9,r2]at I10
 ext
 have x10:=I10.same _ _ x9
 refine⟨x,_,dx,_,rfl,x10,ck.L3,ck.a0B,by simp,?_⟩
 obtain⟨F,hF⟩:∃F:List (Str×V),F=([("rows",.ref rp),("nexts",.ref np),("entries",.ref ep)]:List (Str×V)):=⟨_,rfl⟩
 have hput:a3t "entries" (.ref ep) [("rows",.ref rp),("nexts",.ref np)]=F:=by
  rw[hF]
  simp only[a3t]
  rw[if_neg (by decide),if_neg (by decide)]
 rw[hput]
 obtain⟨H11,hH11⟩:∃H11,H11=upd H10 x (.ins c.K6 dx F):=⟨_,rfl⟩
 obtain⟨H0,hH0⟩:∃H0,H0=upd H9 x (.ins c.K6 dx F):=⟨_,rfl⟩
 have x0:H0 x=some (.ins c.K6 dx F):=hH0 ▸ d8
 have f0:∀b o,H9 b=some o->b≠x->H0 b=some o:=fun b o e n=>by rw[hH0,j7 n];exact e
 have rows0:U5 H0 rp N:=by rw[hH0];exact rows9.ins x9
 have net0:K7 H0 np N:=by rw[hH0];exact net9.ins x9
 have np0:H0 np=some (.lst (as.map V.ref)):=by
  have:=f9 _ _ hnp8 (S8 hnp8 (s8 _ _ x7) (by intro z;cases z))
  exact f0 _ _ this (S8 this x9 (by intro z;cases z))
 have rp0:H0 rp=some (.lst (rs'.map V.ref)):=by
  have q:=s8 _ _ (f7 _ _ e6 (S8 e6 (s06 _ _ hx) (by intro z;cases z)))
  have q:=f9 _ _ q (S8 q (s8 _ _ x7) (by intro z;cases z))
  exact f0 _ _ q (S8 q x9 (by intro z;cases z))
 have at0:∀(i:Nat) y l,as[i]? = some y->N[i]? = some l->H0 y=some (.lst (IL l)):=fun i y l a b=>by
  have q:=(at8 i y l a b).1
  have q:=f9 _ _ q (S8 q (s8 _ _ x7) (by intro z;cases z))
  exact f0 _ _ q (S8 q x9 (by intro z;cases z))
 have old9:∀b o,H b=some o->b≠x->H9 b=some o:=fun b o e n=>f9 _ _ (s8 _ _ (f7 _ _ (s06 _ _ e) n)) n
 have ent11:c4f K H0 H11 ep es (C6 N.length []):=by
  have nxe:x≠ep:=d6 x9 hep
  have nxes:∀y∈es,x≠y:=fun y hy=>d6 x9 (I10.new.2 y hy)
  refine⟨fun b o e=>?_,by rw[hH11,j7 nxe.symm];exact I10.h,by rw[F2];have:=I10.len;rwa [F2]at this,I10.nd,I10.na,fun i y S a b=>?_,by rw[hH0,j7 nxe.symm];exact hep,fun y hy=>by rw[hH0,j7 (nxes y hy).symm];exact I10.new.2 y hy⟩
  ·rw[hH0]at e
   rw[hH11]
   by_cases q:b=x
   ·subst q
    rw[d8]at e ⊢
    exact e
   ·rw[j7 q]at e ⊢
    exact I10.same _ _ e
  ·have hi:=(gI b)
   rw[F2]at hi
   have q:=I10.at_ i y [] a (by rw[S0,if_pos hi])
   rw[S0,if_pos hi]at b
   cases b
   refine⟨[],?_,rfl,by simp⟩
   rw[hH11,j7 (S8 q x10 (by intro z;cases z))]
   exact q
 have old:∀b o,H b=some o->b≠x->H0 b=some o:=fun b o e n=>f0 _ _ (f9 _ _ (s8 _ _ (f7 _ _ (s06 _ _ e) n)) n) n
 rw[<-hH11]
 clear hH11 hH0 I10 x10 f0 f9 x9 ra9 net9 rows9
 specialize a0E (W9 ?_)
 specialize a1V ?_
 exists ⟨x,_,dx,F,.ref np,rfl,ent11.same _ _ x0,ck.L3,ck.L7,by rw[hF];rfl,?_⟩
 refine a9E ck (net0.same ent11.same) h400 hv.two fun sl H12 hsl S12 s12=>?_
 obtain⟨vs,v1,v2,v3⟩:=id S12.ex
 have nsl:sl∉es:=fun z=>by
  obtain⟨i,hi⟩:=v6.mp z
  have hil:i<N.length:=by
   have:=ent11.len
   rw[F2]at this
   rw[<-this];exact(gI hi)
  obtain⟨ws,w1,_⟩:=(ent11.at_ i sl [] hi (by rw[S0,if_pos hil])).ex
  rw[hsl]at w1
  cases w1
 refine⟨sl,rfl,⟨_,SqL.of v1⟩,a0Q (xs:=vs.map V.ref) (fun i σ H13=>∃x3 P,σ=[some (.ref x),some (.ref ra),some (.ref na),x3]/\c4f K H0 H13 ep es P/\P.length=N.length/\(∀t,t<N.length->P[t]? = some (((Z8 N).take i).filter fun s=>decide (U2 N s=t)))/\E8 K H13 sl (Z8 N)/\H13 sl=some (.lst (vs.map V.ref))) ?_ ?_ ?_ ?_⟩
 ·refine⟨_,C6 N.length [],rfl,⟨ent11.same.trans s12,s12 _ _ ent11.h,ent11.len,ent11.nd,ent11.na,fun i y S a b=>(ent11.at_ i y S a b).same s12,ent11.new⟩,by simp,fun t ht=>by rw[S0,if_pos ht];simp,S12,v1⟩
 ·rintro i σ H13 _ ⟨_,_,_,_,_,_,_,h⟩
  exact SqL.of h
 ·rintro i y _ H13 hy ⟨x3,P,rfl,I13,lP,hP,S13,hsl13⟩
  rw[b8]at hy
  cases hvx:vs[i]? with
  | none=>rw[hvx]at hy;cases hy
  | some vx=>
   rw[hvx]at hy
   cases hy
   obtain⟨ws,w1,w2,w3⟩:=S13.ex
   have ews:ws=vs:=by
    rw[hsl13]at w1
    have:=O7 (f:=V.ref) (fun a b h=>V.ref.inj h) |>.mp (HO.lst.inj (Option.some.inj w1))
    exact this.symm
   subst ews
   have hi:i<(Z8 N).length:=by rw[<-w2];exact(gI hvx)
   obtain⟨s,hs⟩:∃s,(Z8 N)[i]? = some s:=⟨_,d4 hi⟩
   have hst:=w3 i vx s hvx hs
   have hm:=mI hs
   have his:=a9k hm
   have hlt:=c5W hv his
   have x13:=I13.same _ _ x0
   ext
   specialize a4O ?_
   specialize a1V ?_
   refine⟨x,_,dx,F,.ref ep,rfl,x13,ck.L3,ck.a0B,by rw[hF];rfl,?_⟩
   specialize a1G ?_
   exists ⟨x,dx,F,rfl,x13,by rw[hF];rfl,?_⟩
   refine a2x ck ⟨dx,F,np,x13,by rw[hF];rfl,net0.same I13.same⟩ hst his ?_
   obtain⟨z,hz⟩:∃z,es[U2 N s]? = some z:=⟨_,d4 (by have:=I13.len;omega)⟩
   refine F1 I13.h (R5 (by rw[b8,hz];rfl)) ?_
   have hPt:=hP _ hlt
   obtain⟨us,u1,u2,u3⟩:=(I13.at_ _ z _ hz hPt).ex
   exists ⟨V7 u1,?_⟩
   have hul:us.length<=i:=by
    rw[u2]
    refine J5 (a6W _ _) ?_
    rw[L9];omega
   have hlen1:(Z8 N).length<=1000:=by
    rw[<-w2]
    have:(Z8 N).length<=1+2 * N.length:=b2P hv.two
    omega
   refine Y9 u1 (J8 (by rw[a9];omega)) ?_
   have add:=I13.add (a:=vx) (s:=s) hz hPt u1 u2 u3 hst
   rw[show us.map V.ref++[V.ref vx]=(us++[vx]).map V.ref by simp]
   have nz:sl≠z:=fun q=>nsl (q ▸ mI hz)
   refine⟨_,_,rfl,add,by rw[a0I];exact lP,fun t ht=>?_,S13.put u1 nz,by rw[j7 nz];exact hsl13⟩
   rw[b7W hs]
   by_cases q:U2 N s=t
   ·subst q
    rw[P3 (by omega),if_pos rfl]
   ·rw[R9 q,if_neg q,a1P]
    exact hP t ht
 ·rintro _ H13 ⟨x3,P,rfl,I13,lP,hP,S13,hsl13⟩
  have f8:∀b o,H b=some o->b≠x->H7 b=some o:=fun b o e n=>f7 _ _ (s06 _ _ e) n
  refine k H13 ⟨dx,rp,np,ep,es,as,hF ▸ I13.same _ _ x0,⟨rows0.same I13.same,I13.same _ _ rp0⟩,I13.same _ _ np0,la,fun i y l a b=>I13.same _ _ (at0 i y l a b),I13.h,by rw[I13.len,lP],fun t y hy=>?_,fun z ⟨o,ho,hzx⟩=>⟨d6 (s05 _ _ ho) hrp,d6 (f8 _ _ ho hzx) hnp,d6 (old9 _ _ ho hzx) hep,fun q=>d6 (f8 _ _ ho hzx) (fr8 z q) rfl,fun q=>d6 (old _ _ ho hzx) (I13.new.2 z q) rfl⟩⟩ fun b o e n=>I13.same _ _ (old b o e n)
  have ht:t<N.length:=by
   have:=(gI hy)
   have:=I13.len
   omega
  have q:=I13.at_ t y _ hy (hP t ht)
  rw[a9,v2,R8]at q
  exact q
structure d1y(H:Hp)(d:Addr)(ds:List V):Prop where
 h:H d=some (.tup ds)
 ex:∃k v1 v2,ds=[.str k,v1,v2]/\OpN v1/\OpN v2
def c0Y(H:Hp)(p:Addr)(xs:List V):Prop:=H p=some (.tup xs)/\a5u H xs
theorem c0Y.ts(h:c0Y H p xs)(t:L0 H H'):c0Y H' p xs:=⟨t _ _ h.1,h.2.ts t⟩
theorem a9T.x{a:Bool}(h:a9T H (.ref p) a):∃xs,c0Y H p xs:=by
 obtain⟨q,xs,e,h1,h2,_⟩:=h
 cases e
 exact⟨xs,h1,h2⟩
theorem a5u.head(h:a5u H xs):∃k r,xs=.str k::r:=by cases h <;> exact⟨_,_,rfl⟩
def sbV(xs:List V):Option Str:=match xs with
 | .str k :: .str n::_=>if k=("set" : Str)\/k=("copy" : Str)\/k=("take" : Str)then some n else none
 | _=>none
def nmV(o:Option Str):V:=match o with
 | some s=>.str s
 | none=>.non
section
variable {K:Fg}{E:XK}
theorem b2W(hr:c0Y H p xs)(k:∀H',A0 H H'->Q (nmV (sbV xs)) H'):a4p K [.ref p] H Q E:=by
 obtain⟨hp,rS⟩:=id hr
 refine⟨rfl,?_⟩
 unfold b5c
 obtain⟨k0,r,rfl⟩:=rS.head
 ext
 exists M7 hp (a0p _ _) ?_
 refine E7 (by simp) fun l H1 hl e1 s1=>?_
 refine a8h e1 rfl rfl ?_
 refine⟨_,rfl,?_⟩
 have hp1:=s1 _ _ hp
 have k1:=k H1 s1
 cases rS with
 | set n p2 nm d2=>
  exists K9 (by decide +kernel) ?_
  exact M7 hp1 (a2z _ _ _) k1
 | copy n v nm o=>
  exists K9 (by decide +kernel) ?_
  exact M7 hp1 (a2z _ _ _) k1
 | take n nm=>
  exists K9 (by decide +kernel) ?_
  exact M7 hp1 (a2z _ _ _) k1
 | tell v o=>
  exists C7 (by decide +kernel) ?_
  rw[show sbV [.str "tell",v]=none by rcases o with ⟨s,rfl,_⟩ | ⟨i,rfl,_⟩ <;> rfl]at k1
  exact k1
 | ask v o=>
  exists C7 (by decide +kernel) ?_
  rw[show sbV [.str "ask",v]=none by rcases o with ⟨s,rfl,_⟩ | ⟨i,rfl,_⟩ <;> rfl]at k1
  exact k1
 | skip=>
  exists C7 (by decide +kernel) ?_
  exact k1
end
theorem b8H:∀(l m:List Str),l.Nodup->(∀x∈l,x∈m)->l.length<=m.length
 | [],m,_,_=>L6 _
 | x::l,m,nd,h=>by
  obtain⟨n1,n2⟩:=Y2.mp nd
  have hx:=h x (F4 ..)
  have:=b8H l (m.erase x) n2 fun y hy=>(c1j (fun e=>n1 (by rw[<-e];exact hy))).mpr (h y (F9 _ hy))
  rw[a5r hx]at this
  have:=a6B hx
  rw[A2]
  omega
section
def a6R(H:Hp)(rs:List Addr)(RC:Nat->List V):Prop:=∀(i:Nat) p,rs[i]? = some p->c0Y H p (RC i)
theorem a6R.ts(h:a6R H rs RC)(t:L0 H H'):a6R H' rs RC:=fun i p e=>(h i p e).ts t
theorem c2x(hR:U5 H ra N)(hra:H ra=some (.lst (rs.map V.ref))):∃RC,a6R H rs RC:=by
 obtain⟨rs',r1,r2,r3⟩:=hR.ex
 obtain rfl:rs'=rs:=by
  rw[hra]at r1
  exact(O7 (f:=V.ref) (fun a b h=>V.ref.inj h) |>.mp (HO.lst.inj (Option.some.inj r1))).symm
 refine⟨fun i=>match rs'[i]? with
  | some p=>(match H p with
   | some (.tup xs)=>xs
   | _=>[])
  | none=>[],fun i p hp=>?_⟩
 have hi:=(gI hp)
 obtain⟨xs,hx⟩:=(r3 i p _ hp (U3 (by omega))).x
 simp only[hp,hx.1]
 exact hx
theorem c7K{s:Str}(h:H l=some (.lst (ss.map V.str)))(k:Q (.bl (decide (s∈ss))) H):qIn false (.str s) (.ref l) H Q:=by
 have e:inV (.str s) (ss.map V.str)=decide (s∈ss):=by
  unfold inV
  rw[a1R,a5y,decide_eq_true_iff]
  constructor
  ·rintro⟨z,hz,e⟩
   obtain⟨u,hu,rfl⟩:=C8.mp hz
   have:u=s:=by simpa[eqV]using e
   rw[<-this];exact hu
  ·intro h
   exact⟨_,C8.mpr ⟨s,h,rfl⟩,by simp[eqV]⟩
 unfold qIn
 simp only[h]
 refine⟨rfl,?_,?_⟩
 ·rw[P9]
  intro x hx
  obtain⟨u,_,rfl⟩:=C8.mp hx
  rfl
 ·rw[e];exact k
theorem c7J{s:Str}(h:H l=some (.lst (ss.map V.str)))(k:Q (.bl (!decide (s∈ss))) H):qIn true (.str s) (.ref l) H Q:=by
 have z:=c7K (Q:=fun v _=>v=.bl (decide (s∈ss))) (s:=s) h rfl
 unfold qIn at z ⊢
 simp only[h]at z ⊢
 refine⟨z.1,z.2.1,?_⟩
 have e:=V.bl.inj z.2.2
 have e:inV (.str s) (ss.map V.str)=decide (s∈ss):=e
 show Q (.bl (!inV (.str s) (ss.map V.str))) H
 rw[e];exact k
end
theorem b3R{to ti:TE}(h:to σ H fun x H1=>ti σ H1 fun y H2=>∃a v,x=.ref a/\a3u H2 a y (some v)/\Q v H2):b0F to ti σ H Q:=h
theorem c6O{ti:TIp}{x:V}(e:σ[n]? = some (some x))(h:te σ H fun y H1=>ti x y H1 fun z H2=>D.nx (σ.set n (some z)) H2):c1V n te ti D σ H:=⟨x,e,h⟩
theorem d0G{K:Fg}(k:∀d H',H d=none->H' d=some (.dK [(Sum.inl 0,.ref a)])->A0 H H'->Q (.ref d) H'):b5h ((tC (.int 0),tC (.ref a))::[]) σ H Q:=by
 intro d hd
 refine⟨d8,[(Sum.inl 0,.ref a)],rfl,by simp,?_⟩
 have e:(upd (upd H d (.dK [])) d (.dK (a7r [] [(Sum.inl 0,V.ref a)])))=upd H d (.dK [(Sum.inl 0,.ref a)]):=by rw[a9V];rfl
 rw[e]
 exact k d _ hd d8 (D0 hd)
def inK(ks:List (List Key))(k:List Key):Bool:=ks.any fun u=>decide (u=k)
theorem b8L{k:List Key}:inK ks k=true↔k∈ks:=by
 unfold inK
 rw[a5y]
 exact⟨fun⟨u,h,e⟩=>of_decide_eq_true e ▸ h,fun h=>⟨k,h,d2G rfl⟩⟩
def b8h(ks:List (List Key))(o:Option (List Key)):List (List Key):=match o with
 | some k=>if inK ks k=true then ks else ks++[k]
 | none=>ks
def a4w(D:Nat->Option (List Key))(n:Nat):List (List Key):=((J2 n).map D).foldl b8h []
def KM(ks:List (List Key))(g:List Key->V):List (List Key×V):=ks.map fun k=>(k,g k)
section
variable {D:Nat->Option (List Key)}{k:List Key}{g:List Key->V}
theorem a7t:a4w D (n+1)=b8h (a4w D n) (D n):=by
 unfold a4w
 rw[a6G,z9,c6B];rfl
theorem c3w{o:Option (List Key)}:(b8h ks o).length<=ks.length+1:=by
 unfold b8h
 cases o with
 | none=>simp
 | some u=>
  simp only
  split
  ·omega
  ·simp
theorem b3d(D:Nat->Option (List Key)):∀n,(a4w D n).length<=n
 | 0=>by simp[a4w]
 | n+1=>by
  rw[a7t]
  have:=c3w (ks:=a4w D n) (o:=D n)
  have:=b3d D n
  omega
theorem c6x(ks:List (List Key))(g:List Key->V):(KM ks g).map (·.1)=ks:=by
 unfold KM
 rw[V0]
 exact(a1w fun _ _=>rfl).trans (b2x _)
theorem c9j:(KM ks g).length=ks.length:=by unfold KM;rw[a9]
theorem c9h(ks:List (List Key))(g:List Key->V)(k:List Key):a3R (KM ks g) k=if inK ks k=true then some (g k)else none:=by
 induction ks with
 | nil=>rfl
 | cons u ks ih=>
  unfold KM a3R at ih ⊢
  rw[E2,a0r]
  by_cases e:u=k
  ·rw[show decide (((u,g u):List Key×V).1=k)=true from d2G e]
   subst e
   rw[if_pos (b8L.mpr F4)];rfl
  ·rw[show decide (((u,g u):List Key×V).1=k)=false from d2F e]
   refine ih.trans ?_
   have:inK (u::ks) k=inK ks k:=by unfold inK;rw[a0S,d2F e,d0N]
   rw[this]
theorem c9i(ks:List (List Key))(g:List Key->V)(k:List Key)(v:V):a1g (KM ks g) k v=KM (b8h ks (some k)) fun u=>if u=k then v else g u:=by
 unfold a1g
 rw[a2s,c9h]
 by_cases h:inK ks k=true
 ·rw[if_pos h,if_pos (show(some (g k)).isSome=true from rfl)]
  unfold b8h
  simp only[if_pos h]
  unfold KM
  rw[V0]
  apply a1w
  intro u _
  show(if u=k then (u,v)else (u,g u))=(u,if u=k then v else g u)
  split <;> rfl
 ·rw[if_neg h,if_neg (by intro z;cases z)]
  unfold b8h
  simp only[if_neg h]
  unfold KM
  rw[z9]
  congr 1
  ·apply a1w
   intro u hu
   show(u,g u)=(u,if u=k then v else g u)
   rw[if_neg fun z:u=k=>h (b8L.mpr (z ▸ hu))]
  ·simp
end
def b6y(H:Hp)(p:Addr)(o:Option (List Key)):Prop:=match o with
 | some k=>∃n d,H p=some (.tup [.str "set",n,.ref d])/\H d=some (.tup (k.map kV))
 | none=>∃s xs,H p=some (.tup (.str s::xs))/\s≠("set" : Str)
def b1J(H:Hp)(rs:List Addr)(D:Nat->Option (List Key)):Prop:=∀(i:Nat) p,rs[i]? = some p->b6y H p (D i)
theorem b6y.ts{o:Option (List Key)}(h:b6y H p o)(t:L0 H H'):b6y H' p o:=by
 cases o with
 | some k=>
  obtain⟨n,d,h1,h2⟩:=h
  exact⟨n,d,t _ _ h1,t _ _ h2⟩
 | none=>
  obtain⟨s,xs,h1,h2⟩:=h
  exact⟨s,xs,t _ _ h1,h2⟩
theorem b1J.ts{D:Nat->Option (List Key)}(h:b1J H rs D)(t:L0 H H'):b1J H' rs D:=fun i p e=>(h i p e).ts t
theorem OpN.key(h:OpN v):∃k:Key,v=kV k:=by
 rcases h with ⟨s,rfl,_⟩ | ⟨n,rfl,_⟩
 ·exact⟨.inr s,rfl⟩
 ·exact⟨.inl n,rfl⟩
theorem a5u.dk(h:H p=some (.tup xs))(r:a5u H xs):∃o,b6y H p o:=by
 cases r with
 | set n q a d=>
  obtain⟨k,v1,v2,hd,o1,o2,_⟩:=d
  obtain⟨k1,rfl⟩:=o1.key
  obtain⟨k2,rfl⟩:=o2.key
  exact⟨some [.inr k,k1,k2],.str n,q,h,hd⟩
 | copy n v a o=>exact⟨none,_,_,h,by decide⟩
 | take n a=>exact⟨none,_,_,h,by decide⟩
 | tell v o=>exact⟨none,_,_,h,by decide⟩
 | ask v o=>exact⟨none,_,_,h,by decide⟩
 | skip=>exact⟨none,_,_,h,by decide⟩
theorem b1J.ex(hr:U5 H a N)(h:H a=some (.lst (rs.map V.ref))):∃D,b1J H rs D:=by
 obtain⟨rs',q1,q2,q3⟩:=hr.ex
 rw[h]at q1
 obtain rfl:rs=rs':=(O7 (f:=V.ref) (fun a b h=>V.ref.inj h) |>.mp (HO.lst.inj (Option.some.inj q1)))
 have:∀i:Nat,∃o,∀p,rs[i]? = some p->b6y H p o:=fun i=>by
  cases e:rs[i]? with
  | none=>exact⟨none,fun p z=>by cases z⟩
  | some p=>
   have hi:=(gI e)
   obtain⟨q,xs,e2,h1,h2,_⟩:=q3 i p N[i] e (by simp)
   cases e2
   obtain⟨o,ho⟩:=a5u.dk h1 h2
   exact⟨o,fun p' z=>by cases z;exact ho⟩
 obtain⟨D,hD⟩:=Classical.axiomOfChoice this
 exact⟨D,fun i p e=>hD i p e⟩
theorem a2c(r n e:Addr)(m:Str)(h:m∉(["rows","nexts","entries"]:List Str)):([("rows",.ref r),("nexts",.ref n),("entries",.ref e)]:List (Str×V)).lookup m=none:=by
 rw[List.lookup_eq_none_iff]
 intro p hp
 simp only[j4,v8,or_false]at h hp
 rcases hp with rfl | rfl | rfl
 ·simp;intro z;exact h (.inl z)
 ·simp;intro z;exact h (.inr (.inl z))
 ·simp;intro z;exact h (.inr (.inr z))
structure a6T(c:Cn)(H:Hp)(x:Addr)(N:Nt)(rs:List Addr):Prop where
 ex:∃dx r n e,H x=some (.ins c.K6 dx [("rows",.ref r),("nexts",.ref n),("entries",.ref e)])/\K7 H n N/\H r=some (.lst (rs.map V.ref))/\rs.length=N.length
section
variable {K:Fg}{c:Cn}{x:Addr}{S:List Stp}{D:Nat->Option (List Key)}{E:XK}
theorem a6T.same(h:a6T c H x N rs)(s:A0 H H'):a6T c H' x N rs:=by
 obtain⟨dx,r,n,e,h1,h2,h3,h4⟩:=h.ex
 exact⟨dx,r,n,e,s _ _ h1,h2.same s,s _ _ h3,h4⟩
theorem a6T.px(h:a6T c H x N rs):b6A c H x N:=by
 obtain⟨dx,r,n,e,h1,h2,_⟩:=h.ex
 exact⟨dx,_,n,h1,rfl,h2⟩
theorem a6S.pc(h:a6S K c Z rs H x N):a6T c H x N rs:=by
 obtain⟨dx,r,n,e,es,ns,h1,⟨h2,h2r⟩,h3,h4,h5,h6,h7,h8,_⟩:=h.ex
 refine⟨dx,r,n,e,h1,⟨ns,h3,h4,h5⟩,h2r,?_⟩
 obtain⟨rs',q1,q2,_⟩:=h2.ex
 rw[h2r]at q1
 have:=congrArg c1l (HO.lst.inj (Option.some.inj q1))
 rw[a9,a9]at this
 omega
theorem c7j{s:Str}(h:s≠("set" : Str)):decide (V.str s=V.str "set")=false:=d2F fun z=>h (V.str.inj z)
theorem b4o{k:List Key}(h:b6y H a (some k))(q:∀d,H d=some (.tup (k.map kV))->Q (.ref d) H):a3j K [.ref a] H Q E:=by
 obtain⟨n,d,h1,h2⟩:=h
 refine⟨rfl,?_⟩
 unfold a8K
 ext
 exists M7 h1 (a0p _ _) ?_
 exists K9 (by decide) ?_
 refine M7 h1 (b6x _ _ _ _) ?_
 exact q d h2
theorem b4p(h:b6y H a none)(q:Q .non H):a3j K [.ref a] H Q E:=by
 obtain⟨s,xs,h1,h2⟩:=h
 refine⟨rfl,?_⟩
 unfold a8K
 ext
 exists M7 h1 (a0p _ _) ?_
 exists C7 (c7j h2) ?_
 exact q
theorem c3P(ck:a2I K c)(hz:a6T c H x N rs)(h400:N.length<=400)(hD:b1J H rs D)
  (k:∀l bs H',H' l=some (.lst ((bs:List Addr).map V.ref))->a9L H' bs (a4w D rs.length)->H l=none->A0 H H'->Q (.ref l) H'):a2k K [.ref x] H Q E:=by
 obtain⟨dx,r,n,e,p1,p2,p3,p4⟩:=id hz.ex
 refine⟨rfl,?_⟩
 unfold a7S
 nofun
 intro fd hfd
 have s1:A0 H (upd H fd (.dT [])):=D0 hfd
 obtain⟨H1,hH1⟩:∃H1,H1=upd H fd (.dT []):=⟨_,rfl⟩
 have e1:H1 fd=some (.dT (KM (a4w D 0) fun _=>.bl true)):=hH1 ▸ d8
 rw[<-hH1]at s1 ⊢
 ext
 exact_mod_cast X5 ?_
 specialize a0E (W9 ?_)
 specialize a1V ?_
 refine⟨x,_,dx,_,.ref r,rfl,s1 _ _ p1,ck.L3,ck.a0g,rfl,?_⟩
 refine⟨r,rfl,⟨_,SqL.of (s1 _ _ p3)⟩,a0Q (xs:=rs.map V.ref) (fun i σ H2=>∃y2 y3,σ=[some (.ref x),some (.ref fd),y2,y3]/\H2 fd=some (.dT (KM (a4w D i) fun _=>.bl true))/\A0 H H2) ⟨_,_,rfl,e1,s1⟩ ?_ ?_ ?_⟩
 ·rintro i σ H2 _ ⟨_,_,_,_,s2⟩
  exact SqL.of (s2 _ _ p3)
 ·rintro i v _ H2 hv ⟨y2,y3,rfl,e2,s2⟩
  rw[b8]at hv
  obtain⟨p,hp,rfl⟩:=l9.mp hv
  have hi:=(gI hp)
  have rd:=(hD i p hp).ts (A0.ts s2)
  have ln:=b3d D i
  ext
  nofun
  cases hk:D i with
  | none=>
   rw[hk]at rd
   exists b4p rd ?_
   exists ⟨rfl,?_⟩
   exists C7 (by decide) ?_
   refine⟨_,_,rfl,?_,s2⟩
   rw[a7t,hk];exact e2
  | some u=>
   rw[hk]at rd
   exists b4o rd fun d hd=>?_
   exists ⟨rfl,?_⟩
   exists K9 (by rw[d2F (by intro z;cases z)];rfl) ?_
   specialize a8R ?_
   refine⟨fd,_,rfl,a9U.t e2 hd (J8 (by rw[c9j];omega)),?_⟩
   refine⟨_,_,rfl,?_,fun b o q=>by rw[j7 (d6 q hfd)];exact s2 _ _ q⟩
   rw[d8,c9i,a7t,hk]
   exact congrArg (fun g=>some (HO.dT (KM _ g))) (funext fun u'=>by split <;> rfl)
 ·rintro _ H2 ⟨y2,y3,rfl,e2,s2⟩
  rw[a9]at e2
  ext
  refine⟨fd,_,rfl,e2,fun bs kb l hl=>?_⟩
  rw[c6x]at kb
  have s3:A0 H2 (upd H2 l (.lst (bs.map V.ref))):=D0 hl
  exact k l bs _ d8 ⟨kb.1,fun i b k a1 a2=>s3 _ _ (kb.2 i b k a1 a2)⟩ (s2.free hl) (s2.trans s3)
end
abbrev Sto:=List (Str×Int)
def d0C(S:Sto)(s:Str):Int:=match S with
 | []=>0
 | p::r=>if p.1=s then p.2 else d0C r s
def c4T(S:Sto)(n:Str)(i:Int):Sto:=match S with
 | []=>[(n,i)]
 | p::r=>if p.1=n then (p.1,i)::r else p::c4T r n i
def c1I(S:Sto)(v:V):Int:=match v with
 | .str s=>d0C S s
 | .int i=>i
 | _=>0
def wv(kd:Str)(x y:Int):Int:=if kd = "plus" then (x+y) % 1000000000000 else if kd = "minus" then (x - y) % 1000000000000 else if kd = "times" then x * y % 1000000000000 else if kd = "less" then (if x<y then 1 else 0)else (if x=y then 1 else 0)
inductive Rw
 | set (n k:Str) (a b:V) | copy (n:Str) (v:V) | take (n:Str) | tell (v:V) | ask (v:V) | skip
def RwS(H:Hp)(xs:List V)(w:Rw):Prop:=match w with
 | .set n k a b=>∃q,xs=[.str "set",.str n,.ref q]/\H q=some (.tup [.str k,a,b])/\OpN a/\OpN b/\NmS n
 | .copy n v=>xs=[.str "copy",.str n,v]/\OpN v/\NmS n
 | .take n=>xs=[.str "take",.str n]/\NmS n
 | .tell v=>xs=[.str "tell",v]/\OpN v
 | .ask v=>xs=[.str "ask",v]/\OpN v
 | .skip=>xs=[.str "skip"]
structure Rs where
 S:Sto
 L:List Int
 T:List Int
 W:List Stp
 p:Stp
 e:Bool
def doR(w:Rw)(S:Sto)(L T:List Int):Sto×List Int×List Int:=match w with
 | .set n k a b=>(c4T S n (wv k (c1I S a) (c1I S b)),L,T)
 | .copy n v=>(c4T S n (c1I S v),L,T)
 | .take n=>(c4T S n (L.getLast?.getD 0),L.dropLast,T)
 | .tell v=>(S,L,T++[c1I S v])
 | _=>(S,L,T)
def c9C(w:Rw)(S:Sto):Int:=match w with
 | .ask v=>if c1I S v=0 then 1 else 0
 | _=>0
def st1(N:Nt)(W:Nat->Rw)(r:Rs):Rs:=
 let t:=U2 N r.p
 let d:=doR (W t) r.S r.L r.T
 ⟨d.1,d.2.1,d.2.2,r.W++[r.p],((t:Int),c9C (W t) d.1),decide ((N.getD t []).length=0)⟩
def rn(N:Nt)(W:Nat->Rw):Nat->Rs->Rs
 | 0,r=>r
 | m+1,r=>if r.e=true then r else rn N W m (st1 N W r)
section
variable {S:Sto}{n s:Str}{i:Int}{w:Rw}
theorem RwS.ts(h:RwS H xs w)(t:L0 H H'):RwS H' xs w:=by
 cases w with
 | set n k a b=>obtain⟨q,h1,h2,h3⟩:=h;exact⟨q,h1,t _ _ h2,h3⟩
 | _=>exact h
theorem a5u.rw(h:a5u H xs):∃w,RwS H xs w:=by
 cases h with
 | set n p nm d=>obtain⟨k,a,b,h,o1,o2,_⟩:=d;exact⟨.set n k a b,p,rfl,h,o1,o2,nm⟩
 | copy n v nm o=>exact⟨.copy n v,rfl,o,nm⟩
 | take n nm=>exact⟨.take n,rfl,nm⟩
 | tell v o=>exact⟨.tell v,rfl,o⟩
 | ask v o=>exact⟨.ask v,rfl,o⟩
 | skip=>exact⟨.skip,rfl⟩
end
def a5t(v:V):List Str:=match v with
 | .str s=>[s]
 | _=>[]
def rdW(w:Rw):List Str:=match w with
 | .set _ _ a b=>a5t a++a5t b
 | .copy _ v=>a5t v
 | .tell v=>a5t v
 | .ask v=>a5t v
 | _=>[]
def opW(w:Rw):List V:=match w with
 | .set _ _ a b=>[a,b]
 | .copy _ v=>[v]
 | .tell v=>[v]
 | .ask v=>[v]
 | _=>[]
def seW(w:Rw):List Str:=match w with
 | .set n _ _ _=>[n]
 | .copy n _=>[n]
 | .take n=>[n]
 | _=>[]
def nmW(w:Rw):List Str:=rdW w++seW w
section
variable {K:Fg}{c:Cn}{x:Addr}{w:Rw}{W:Nat->Rw}{E:XK}
theorem d1d(h:te σ H fun x H1=>∃(l:Addr) (ss:List Str),x=.ref l/\H1 l=some (.lst (ss.map V.str))/\ss.length<4000/\(∀ds:List Str,ds.Nodup->(∀x∈ds,x∈ss)->ds.length<64) /\
 ∀(p:Addr) (ts:List Str),ts.Nodup->(∀x,x∈ts↔x∈ss)->Q2 ts=true->H1 p=none->Q (.ref p) (upd H1 p (.lst (ts.map V.str)))):tSS te σ H Q:=h
theorem a5M:(a5t v).length<=1:=by cases v <;> simp[a5t]
theorem c8B:(opW w).length<=2:=by cases w <;> simp[opW]
theorem d0p(h:RwS H xs w):∀v∈opW w,OpN v:=by
 intro v hv
 cases w with
 | set n k a b=>
  obtain⟨q,_,_,o1,o2,_⟩:=h
  simp only[opW,j4,v8,or_false]at hv
  rcases hv with rfl | rfl
  ·exact o1
  ·exact o2
 | copy n v'=>rw[d9.mp hv];exact h.2.1
 | tell v'=>rw[d9.mp hv];exact h.2
 | ask v'=>rw[d9.mp hv];exact h.2
 | _=>cases hv
theorem c9R(s:Str):s∈rdW w↔V.str s∈opW w:=by
 have one:∀v:V,s∈a5t v↔V.str s=v:=fun v=>by
  cases v with
  | str t=>show s∈[t]↔_;rw[d9];exact⟨fun e=>by rw[e],V.str.inj⟩
  | _=>exact⟨(fun h=>nomatch h),fun h=>nomatch h⟩
 cases w with
 | set n k a b=>show s∈a5t a++a5t b↔V.str s∈[a,b];rw[t5,one,one];simp
 | copy n v=>show s∈a5t v↔V.str s∈[v];rw[one];simp
 | tell v=>show s∈a5t v↔V.str s∈[v];rw[one];simp
 | ask v=>show s∈a5t v↔V.str s∈[v];rw[one];simp
 | _=>exact⟨(fun h=>nomatch h),fun h=>nomatch h⟩
theorem c9E(h:RwS H xs w):seW w=(match sbV xs with | some n=>[n] | none=>[]):=by
 cases w with
 | set n k a b=>obtain⟨q,rfl,_⟩:=h;rfl
 | copy n v=>obtain⟨rfl,_⟩:=h;rfl
 | take n=>obtain⟨rfl,_⟩:=h;rfl
 | tell v=>obtain⟨rfl,o⟩:=h;rcases o with ⟨s,rfl,_⟩ | ⟨i,rfl,_⟩ <;> rfl
 | ask v=>obtain⟨rfl,o⟩:=h;rcases o with ⟨s,rfl,_⟩ | ⟨i,rfl,_⟩ <;> rfl
 | skip=>cases h;rfl
theorem b5F(hp:H p=some (.tup xs))(hw:RwS H xs w)(k:∀l H',H l=none->H' l=some (.lst (opW w))->A0 H H'->Q (.ref l) H'):a1E K [.ref p] H Q E:=by
 refine⟨rfl,?_⟩
 unfold a6M
 nofun
 cases w with
 | set n kd v1 v2=>
  obtain⟨q,rfl,hq,_⟩:=hw
  refine M7 hp (a0p _ _) ?_
  walk_at "go"
  exists K9 (by decide) ?_
  exists M7 hp (b6x _ _ _ _) ?_
  exists M7 hq (a2z _ _ _) ?_
  exists M7 hp (b6x _ _ _ _) ?_
  exists M7 hq (b6x _ _ _ _) ?_
  exact E7 (by simp) k
 | copy n v=>
  obtain⟨rfl,_⟩:=hw
  refine M7 hp (a0p _ _) ?_
  walk_at "go"
  refine C7 (by decide) ?_
  walk_at "go"
  exists K9 (by decide) ?_
  exists M7 hp (b6x _ _ _ _) ?_
  exact E7 (by simp) k
 | take n=>
  obtain⟨rfl,_⟩:=hw
  refine M7 hp (a0p _ _) ?_
  walk_at "go"
  refine C7 (by decide) ?_
  walk_at "go"
  refine C7 (by decide) ?_
  walk_at "go"
  refine E7 (by decide) fun q G _ e s=>?_
  exists a8h e rfl (by decide +kernel) ?_
  exists C7 (by decide +kernel) ?_
  exact E7 (by decide) fun l H' hl e' s'=>k l H' (s.free hl) e' (s.trans s')
 | tell v=>
  obtain⟨rfl,_⟩:=hw
  refine M7 hp (a0p _ _) ?_
  walk_at "go"
  refine C7 (by decide) ?_
  walk_at "go"
  refine C7 (by decide) ?_
  walk_at "go"
  refine E7 (by decide) fun q G _ e s=>?_
  exists a8h e rfl (by decide +kernel) ?_
  exists K9 (by decide +kernel) ?_
  exists M7 (s _ _ hp) (a2z _ _ _) ?_
  exact E7 (by simp) fun l H' hl e' s'=>k l H' (s.free hl) e' (s.trans s')
 | ask v=>
  obtain⟨rfl,_⟩:=hw
  refine M7 hp (a0p _ _) ?_
  walk_at "go"
  refine C7 (by decide) ?_
  walk_at "go"
  refine C7 (by decide) ?_
  walk_at "go"
  refine E7 (by decide) fun q G _ e s=>?_
  exists a8h e rfl (by decide +kernel) ?_
  exists K9 (by decide +kernel) ?_
  exists M7 (s _ _ hp) (a2z _ _ _) ?_
  exact E7 (by simp) fun l H' hl e' s'=>k l H' (s.free hl) e' (s.trans s')
 | skip=>
  cases hw
  refine M7 hp (a0p _ _) ?_
  walk_at "go"
  refine C7 (by decide) ?_
  walk_at "go"
  refine C7 (by decide) ?_
  walk_at "go"
  refine E7 (by decide) fun q G _ e s=>?_
  exists a8h e rfl (by decide +kernel) ?_
  exists C7 (by decide +kernel) ?_
  exact E7 (by decide) fun l H' hl e' s'=>k l H' (s.free hl) e' (s.trans s')
theorem c2y(hp:H p=some (.tup xs))(hw:RwS H xs w)(k:∀l R H',H l=none->H' l=some (.lst ((R:List Str).map V.str))->R.length<=2->(∀s,s∈R↔s∈rdW w)->A0 H H'->Q (.ref l) H'):a3A K [.ref p] H Q E:=by
 refine⟨rfl,?_⟩
 unfold b0z
 nofun
 exists E7 (by decide) fun D H1 hD e1 s1=>?_
 exact_mod_cast X5 ?_
 specialize a0E (W9 ?_)
 refine b5F (s1 _ _ hp) (hw.ts (A0.ts s1)) fun ol H2 hol e2 s2=>?_
 have nD:ol≠D:=(d6 e1 hol).symm
 have s02:=s1.trans s2
 have oo:=d0p hw
 have lo:=c8B (w:=w)
 refine⟨ol,rfl,⟨_,SqL.of e2⟩,a0Q (xs:=opW w) (fun i σ H3=>∃y2 R,σ=[some (.ref p),some (.ref D),y2]/\H3 D=some (.lst ((R:List Str).map V.str))/\R.length<=i/\(∀s,s∈R↔V.str s∈(opW w).take i)/\H3 ol=some (.lst (opW w))/\A0 H H3) ⟨_,[],rfl,s2 _ _ e1,j6 _,fun s=>by simp,e2,s02⟩ ?_ ?_ ?_⟩
 ·rintro i σ H3 _ ⟨_,_,_,_,_,_,h,_⟩
  exact SqL.of h
 ·rintro i v _ H3 hv ⟨y2,R,rfl,f1,f2,f3,f4,s3⟩
  have hi:=(gI hv)
  have tk:(opW w).take (i+1)=(opW w).take i++[v]:=by rw[O2,hv];rfl
  ext
  rcases oo v (mI hv)with ⟨s,rfl,_⟩ | ⟨n,rfl,_⟩
  ·refine a1W (s := "str") rfl (by decide) ?_
   refine⟨_,rfl,?_⟩
   exists K9 (by decide) ?_
   refine c7J f1 ?_
   refine⟨_,rfl,?_⟩
   by_cases hm:s∈R
   ·exists C7 (by simp[hm]) ?_
    refine⟨_,R,rfl,f1,by omega,fun z=>?_,f4,s3⟩
    rw[f3,tk,t5,d9]
    refine⟨.inl,fun h=>h.elim id fun e=>?_⟩
    rw[e]
    exact(f3 s).mp hm
   ·exists K9 (by simp[hm]) ?_
    specialize a4O ?_
    exists ⟨V7 f1,?_⟩
    refine Y9 f1 (J8 (by rw[a9];omega)) ?_
    refine⟨_,R++[s],rfl,by rw[d8,z9];rfl,by rw[g8];simp;omega,fun z=>?_,by rw[j7 nD];exact f4,fun b o e=>by rw[j7 (d6 e hD)];exact s3 _ _ e⟩
    rw[t5,f3,tk,t5,d9,d9]
    exact⟨fun h=>h.imp id fun e=>by rw[e],fun h=>h.imp id V.str.inj⟩
  ·refine a1W (s := "int") rfl (by decide) ?_
   refine⟨_,rfl,?_⟩
   exists C7 (by decide) ?_
   refine⟨_,R,rfl,f1,by omega,fun z=>?_,f4,s3⟩
   rw[f3,tk,t5,d9]
   exact⟨.inl,fun h=>h.elim id fun e=>nomatch e⟩
 rintro _ H3 ⟨y2,R,rfl,f1,f2,f3,f4,s3⟩
 rw[R8]at f3
 ext
 exact k D R H3 hD f1 (by omega) (fun s=>(f3 s).trans (c9R s).symm) s3
theorem b9X(ck:a2I K c)(hz:a6T c H x N rs)(h400:N.length<=400)(hr:a6R H rs RC)(hw:∀(i:Nat) p,rs[i]? = some p->RwS H (RC i) (W i))(bd:∀ds:List Str,ds.Nodup->(∀s∈ds,∃i,i<rs.length/\s∈nmW (W i))->ds.length<64)
  (k:∀l ts H',H l=none->H' l=some (.lst ((ts:List Str).map V.str))->ts.Nodup->(∀s,s∈ts↔∃i,i<rs.length/\s∈nmW (W i))->Q2 ts=true->A0 H H'->Q (.ref l) H'):a2j K [.ref x] H Q E:=by
 obtain⟨dx,r,n,e,p1,p2,p3,p4⟩:=id hz.ex
 refine⟨rfl,?_⟩
 unfold a7R
 nofun
 exists E7 (by decide) fun D H1 hD e1 s1=>?_
 exact_mod_cast X5 ?_
 specialize a0E (W9 ?_)
 specialize a1V ?_
 refine⟨x,_,dx,_,.ref r,rfl,s1 _ _ p1,ck.L3,ck.a0g,rfl,?_⟩
 refine⟨r,rfl,⟨_,SqL.of (s1 _ _ p3)⟩,a0Q (xs:=rs.map V.ref) (fun i σ H2=>∃y2 F,σ=[some (.ref x),some (.ref D),y2]/\H2 D=some (.lst ((F:List Str).map V.str))/\F.length<=3 * i/\(∀s,s∈F↔∃j,j<i/\s∈nmW (W j))/\A0 H H2) ⟨_,[],rfl,e1,j6 _,fun s=>⟨(fun h=>nomatch h),fun⟨j,h,_⟩=>absurd h (a3v _)⟩,s1⟩ ?_ ?_ ?_⟩
 ·rintro i σ H2 _ ⟨_,_,_,_,_,_,s2⟩
  exact SqL.of (s2 _ _ p3)
 ·rintro i v _ H2 hv ⟨y2,F,rfl,f1,f2,f3,s2⟩
  rw[b8]at hv
  obtain⟨p,hp,rfl⟩:=l9.mp hv
  have hi:=(gI hp)
  have rX:=(hr i p hp).ts (A0.ts s2)
  have rW:=(hw i p hp).ts (A0.ts s2)
  ext
  nofun
  specialize a4O ?_
  exists ⟨V7 f1,?_⟩
  exists c2y rX.1 rW fun rl R H3 hrl e3 lR mR s3=>?_
  refine b0Y (s3 _ _ f1) e3 (a4a (J8 (by rw[a9,a9];omega))) ?_
  rw[<-z9]
  have t4:L0 H3 (upd H3 D (.lst ((F++R).map V.str))):=L0.put (s3 _ _ f1)
  have s4:A0 H (upd H3 D (.lst ((F++R).map V.str))):=fun b o e=>by rw[j7 (d6 e hD)];exact s3 _ _ (s2 _ _ e)
  obtain⟨H4,hH4⟩:∃H4,H4=upd H3 D (.lst ((F++R).map V.str)):=⟨_,rfl⟩
  have e4:H4 D=some (.lst ((F++R).map V.str)):=hH4 ▸ d8
  rw[<-hH4]at t4 s4 ⊢
  have rX4:=(hr i p hp).ts (A0.ts s4)
  have rW4:=(hw i p hp).ts (A0.ts s4)
  ext
  refine b2W rX4 fun H5 s5=>?_
  have step:∀(G:List Str),(∀s,s∈G↔(s∈F\/s∈R)\/s∈seW (W i))->∀s,s∈G↔∃j,j<i+1/\s∈nmW (W j):=fun G hG s=>by
   rw[hG,f3,mR]
   unfold nmW
   constructor
   ·rintro((⟨j,h1,h2⟩ | h) | h)
    ·exact⟨j,by omega,h2⟩
    ·exact⟨i,by omega,D8 _ h⟩
    ·exact⟨i,by omega,A6 _ h⟩
   ·rintro⟨j,h1,h2⟩
    by_cases e:j=i
    ·subst e
     rcases t5.mp h2 with h | h
     ·exact .inl (.inr h)
     ·exact .inr h
    ·exact .inl (.inl ⟨j,by omega,h2⟩)
  have sb:=c9E rW4
  cases hs:sbV (RC i)with
  | none=>
   rw[hs]at sb
   exists ⟨rfl,_,rfl,C7 rfl ?_⟩
   exact⟨_,F++R,rfl,s5 _ _ e4,by rw[g8];omega,step _ fun s=>by rw[t5,sb];simp,s4.trans s5⟩
  | some n=>
   rw[hs]at sb
   exists ⟨rfl,_,rfl,K9 rfl ?_⟩
   specialize a4O ?_
   exists ⟨V7 (s5 _ _ e4),?_⟩
   refine b2W (rX4.ts (A0.ts s5)) fun H6 s6=>?_
   rw[hs]
   ext
   have s46:=s5.trans s6
   refine Y9 (s46 _ _ e4) (J8 (by rw[a9,g8];omega)) ?_
   refine⟨_,F++R++[n],rfl,by rw[d8,z9,z9,z9];rfl,by rw[g8,g8];simp;omega,step _ fun s=>by rw[t5,t5,sb],fun b o e=>by rw[j7 (d6 e hD)];exact s46 _ _ (s4 _ _ e)⟩
 rintro _ H2 ⟨y2,F,rfl,f1,f2,f3,s2⟩
 rw[a9]at f2 f3
 ext
 specialize d1d ?_
 refine⟨D,F,rfl,f1,by omega,fun ds nd hd=>bd ds nd fun s hs=>(f3 s).mp (hd s hs),fun l ts nd mem so hl=>?_⟩
 exact k l ts _ (s2.free hl) d8 nd (fun s=>(mem s).trans (f3 s)) so (s2.trans (D0 hl))
end
inductive Fw(N:Nt):Stp->List Stp->Nat->Prop
 | one {s:Stp}:a2g N s->Fw N s [] (U2 N s)
 | cons {s s':Stp} {r:List Stp} {t:Nat}:a2g N s->s'.1=(U2 N s:Int)->Fw N s' r t->Fw N s (s'::r) t
theorem b0J{K:Fg}{S:List Stp}(h1:H w=some (.lst (vs.map V.ref)))(h2:vs.length=S.length)(h3:∀(i:Nat) x s,vs[i]? = some x->S[i]? = some s->Z6 K H x s)(ha:Z6 K H a s) :
  E8 K (upd H w (.lst ((vs++[a]).map V.ref))) w (S++[s]):=by
 refine⟨vs++[a],d8,by simp[h2],fun i x t f1 f2=>?_⟩
 rcases W8 f1 with ⟨i1,g1⟩ | ⟨i1,g1⟩
 ·rcases W8 f2 with ⟨_,g2⟩ | ⟨i2,_⟩
  ·exact(h3 i x t g1 g2).ts (L0.put h1)
  ·omega
 ·rcases W8 f2 with ⟨i2,_⟩ | ⟨_,g2⟩
  ·omega
  ·subst g1 g2
   exact ha.ts (L0.put h1)
theorem E8.rev{K:Fg}{S:List Stp}(h1:H w=some (.lst (vs.map V.ref)))(h2:vs.length=S.length)(h3:∀(i:Nat) x s,vs[i]? = some x->S[i]? = some s->Z6 K H x s):E8 K (upd H w (.lst (vs.map V.ref).reverse)) w S.reverse:=by
 refine⟨vs.reverse,by rw[d8,List.map_reverse],by simp[h2],fun i x s f1 f2=>?_⟩
 have hi:=(gI f1)
 rw[a8B]at hi
 rw[c1c hi]at f1
 rw[c1c (by omega),<-h2]at f2
 exact(h3 _ x s f1 f2).ts (L0.put h1)
theorem b9T(hl:H l=some (.lst xs))(h:Q .non (upd H l (.lst xs.reverse))):a4t (.ref l) [] H Q:=by
 unfold a4t
 simp only[hl]
 exact h
theorem a3Y{p q:Nat}:¬(((p:Int),(q:Int)):Stp)=FST:=by
 unfold FST
 intro z
 have:=congrArg Prod.fst z
 simp at this
theorem a3K{p q:Nat}{l:List Nat}{t:Nat}(h1:N[p]? = some l)(h2:l[q]? = some t):U2 N ((p:Int),(q:Int))=t:=by
 unfold U2
 rw[if_neg a3Y]
 show(N.getD (p:Int).toNat []).getD (q:Int).toNat 0=t
 rw[o4,o4]
 simp[O4,h1,h2]
theorem b8j(a b:List Nat):IL (a++b)=IL a++IL b:=by unfold IL;rw[z9]
theorem c0u(h:a2g N s):s∈Z8 N:=by
 rcases h with rfl | ⟨p,q,l,t,rfl,h1,h2⟩
 ·exact F4 ..
 ·refine F9 _ (a5w.mpr ⟨p,U9.mpr (gI h1),?_⟩)
  unfold a3z
  refine C8.mpr ⟨q,U9.mpr ?_,rfl⟩
  simp only[O4,h1,a2C]
  exact(gI h2)
theorem a8j{K:Fg}{c:Cn}{x:Addr}{t:Nat}{E:XK}(ck:a2I K c)(hp:a2f K c H x N)(ht:t<N.length)
  (k:∀a H',H a=none->E8 K H' a ((Z8 N).filter fun s=>decide (U2 N s=t))->A0 H H'->Q (.ref a) H'):Y8 K [.ref x,.int (t:Int)] H Q E:=by
 obtain⟨dx,r,n,e,es,h1,_,_,h4,h5,h6⟩:=hp.ex
 refine⟨rfl,?_⟩
 unfold a3y
 ext
 specialize a1V ?_
 exists ⟨x,_,dx,_,.ref e,rfl,h1,ck.L3,ck.a0B,rfl,?_⟩
 obtain⟨y,hy⟩:∃y,es[t]? = some y:=⟨_,d4 (by omega)⟩
 exists F1 h4 (R5 (by rw[b8,hy];rfl)) ?_
 obtain⟨vs,v1,v2,v3⟩:=(h6 t y hy).ex
 refine a6u v1 fun l H' hl e' s'=>?_
 exact k l H' hl ⟨vs,e',v2,fun i x s a b=>(v3 i x s a b).ts (A0.ts s')⟩ s'
theorem a3V{K:Fg}{c:Cn}{x:Addr}{E:XK}(ck:a2I K c)(hp:a2f K c H x N)(hv:a1j N)
  (k:∀a H',H a=none->H' a=some (.lst (IL (a0w N)))->A0 H H'->Q (.ref a) H'):a0C K [.ref x] H Q E:=by
 obtain⟨dx,fs,n,hx,hf,hn⟩:=hp.x
 refine⟨rfl,?_⟩
 unfold a7P
 ext
 specialize a1V ?_
 exists ⟨x,_,dx,fs,_,rfl,hx,ck.L3,ck.L7,hf,?_⟩
 exact a9D hn hv.le k
def b6C(N:Nt)(Do Sp:Nat->Bool)(t:Nat):Prop:=Do t=false/\(Sp t=true\/N[t]? = some [])
def Jgb(K:Fg)(H:Hp)(N:Nt)(Do Sp:Nat->Bool)(S:List Nat)(i t:Nat)(v:V):Prop:=
 (v=.non/\b6C N Do Sp t)\/∃(a:Addr) (q:Nat) (l:List Nat) (u j:Nat),v=.ref a/\Z6 K H a ((t:Int),(q:Int))/\N[t]? = some l/\l[q]? = some u/\S[j]? = some u/\j<i/\Do t=false
theorem Jgb.grow{K:Fg}{Sp:Nat->Bool}{S ext:List Nat}{t:Nat}(h:Jgb K H N Do Sp S i t v)(ts:L0 H H'):Jgb K H' N Do Sp (S++ext) i t v:=by
 rcases h with h | ⟨a,q,l,u,j,h1,h2,h3,h4,h5,h6,h7⟩
 ·exact .inl h
 ·exact .inr ⟨a,q,l,u,j,h1,h2.ts ts,h3,h4,by rw[v9 (gI h5)];exact h5,h6,h7⟩
structure GbK(K:Fg)(H:Hp)(d:Addr)(N:Nt)(Do Sp:Nat->Bool)(S:List Nat)(kvs:List (Key×V)):Prop where
 hd:H d=some (.dK kvs)
 nd:S.Nodup
 lt:∀t∈S,t<N.length
 len:kvs.length=S.length
 at_:∀(i:Nat) t,S[i]? = some t->∃v,kvs[i]? = some (Sum.inl (t:Int),v)/\Jgb K H N Do Sp S i t v
section
variable {K:Fg}{Sp:Nat->Bool}{S:List Nat}
theorem GbK.keys(h:GbK K H d N Do Sp S kvs):kvs.map (·.1)=S.map fun(t:Nat)=>(Sum.inl (t:Int):Key):=by
 apply a5k
 intro i
 rw[b8,b8]
 cases e:S[i]? with
 | none=>
  have:kvs[i]? = none:=by
   rw[a0l]at e ⊢
   have:=h.len
   omega
  rw[this];rfl
 | some t=>
  obtain⟨v,q,_⟩:=h.at_ i t e
  rw[q];rfl
theorem GbK.ndk(h:GbK K H d N Do Sp S kvs):(kvs.map (·.1)).Nodup:=by
 rw[h.keys]
 refine a6H _ (fun a b hab z=>hab ?_) h.nd
 have:=Sum.inl.inj z
 omega
theorem GbK.in_(h:GbK K H d N Do Sp S kvs)(t:Nat):(a3R kvs (Sum.inl (t:Int))).isSome=decide (t∈S):=by
 by_cases ht:t∈S
 ·rw[d2G ht]
  obtain⟨i,hi⟩:=v6.mp ht
  obtain⟨v,q,_⟩:=h.at_ i t hi
  rw[a5H h.ndk (mI q)]
  rfl
 ·rw[d2F ht]
  cases e:a3R kvs (Sum.inl (t:Int))with
  | none=>rfl
  | some v=>
   have:=b8o e
   rw[h.keys]at this
   obtain⟨u,hu,z⟩:=C8.mp this
   have:=Sum.inl.inj z
   have:u=t:=by omega
   exact absurd (this ▸ hu) ht
theorem GbK.notin(h:GbK K H d N Do Sp S kvs)(t:Nat):∃o,a3u H d (.int (t:Int)) o/\o.isSome=decide (t∈S):=⟨_,a3u.k (k:=Sum.inl (t:Int)) h.hd,h.in_ t⟩
theorem GbK.same(h:GbK K H d N Do Sp S kvs)(s:A0 H H'):GbK K H' d N Do Sp S kvs:=
 ⟨s _ _ h.hd,h.nd,h.lt,h.len,fun i t e=>by
  obtain⟨v,q1,q2⟩:=h.at_ i t e
  have:=q2.grow (ext:=[]) (A0.ts s)
  rw[a1P]at this
  exact⟨v,q1,this⟩⟩
theorem GbK.add{t:Nat}(h:GbK K H d N Do Sp S kvs)(ht:¬t∈S)(hlt:t<N.length)(hj:Jgb K H N Do Sp S S.length t v) :
  GbK K (upd H d (.dK (a1g kvs (Sum.inl (t:Int)) v))) d N Do Sp (S++[t]) (a1g kvs (Sum.inl (t:Int)) v):=by
 have e:a1g kvs (Sum.inl (t:Int)) v=kvs++[(Sum.inl (t:Int),v)]:=by
  unfold a1g
  rw[a2s,h.in_,d2F ht,if_neg (by decide)]
 rw[e]
 have ts:L0 H (upd H d (.dK (kvs++[(Sum.inl (t:Int),v)]))):=fun b xs q=>by rw[j7 (S8 q h.hd (by intro z;cases z))];exact q
 refine⟨d8,?_,fun u hu=>?_,by simp[h.len],fun i u hu=>?_⟩
 ·rw[a0W]
  exact⟨h.nd,by simp,fun x hx y hy=>by rw[d9.mp hy];intro z;exact ht (z ▸ hx)⟩
 ·rcases t5.mp hu with q | q
  ·exact h.lt u q
  ·rw[d9.mp q];exact hlt
 ·rcases W8 hu with ⟨hi,g⟩ | ⟨hi,g⟩
  ·obtain⟨v',q1,q2⟩:=h.at_ i u g
   exact⟨v',by rw[v9 (gI q1)];exact q1,q2.grow ts⟩
  ·subst g
   refine⟨v,?_,?_⟩
   ·rw[hi,<-h.len];simp
   ·rw[hi];exact hj.grow ts
end
structure d1w(N:Nt)(Do Sp:Nat->Bool)(S:List Nat):Prop where
 en:∀t,t<N.length->b6C N Do Sp t->t∈S
 no:∀(p:Nat) l,N[p]? = some l->Do p=false->∀t∈l,t∈S->p∈S
def a4u(L:List Nat):List (Key×V):=L.map fun(p:Nat)=>(Sum.inl (p:Int),V.non)
theorem c0F{K:Fg}{tr:TE}{L:List Nat}(nd:L.Nodup)(l400:L.length<=400)(htr:∀R:VK,(∀a H',H' a=some (.lst (IL L))->A0 H H'->R (.ref a) H')->tr σ H R)
  (k:∀d H',H d=none->H' d=some (.dK (a4u L))->A0 H H'->Q (.ref d) H'):tCB b3T (b9 (Y0 (X0 K tr) X4 (a2E (b9 (c8 0) (b9 (tC .non) j3)))) j3) σ H Q:=by
 exact_mod_cast c9O ?_
 exact_mod_cast a8T ?_
 exact_mod_cast Z9 (W9 ?_)
 refine htr _ fun a H1 e1 s1=>?_
 refine⟨a,rfl,⟨_,SqL.of e1⟩,fun T hT=>?_⟩
 refine Z0 (xs:=IL L) (fun i ys H8=>ys.length=i/\H8 T=some (.lst ys)/\A0 H1 H8/\∀(j p:Nat),j<i->L[j]? = some p->∃b,ys[j]? = some (V.ref b)/\H8 b=some (.tup [.int (p:Int),.non])) ?_ ?_ ?_ ?_ ?_
 ·exact⟨rfl,d8,D0 hT,by omega⟩
 ·rintro i ys H8 ⟨_,h,_⟩
  exact h
 ·rintro i ys H8 _ ⟨_,_,s8,_⟩
  exact SqL.of (s8 _ _ e1)
 ·rintro i y ys H8 hy ⟨l8,hT8,s8,a8⟩ R hR
  unfold IL at hy
  rw[b8]at hy
  cases hz:L[i]? with
  | none=>rw[hz]at hy;cases hy
  | some z=>
   rw[hz]at hy
   cases hy
   have hi:=(gI hz)
   ext
   refine E7 (by simp) fun b H9 hb e9 s9=>?_
   have bT:b≠T:=fun q=>by rw[q,hT8]at hb;cases hb
   refine hR _ _ (s9 _ _ hT8) (J8 (by omega)) ⟨by rw[g8,l8];rfl,d8,fun b o e=>?_,fun j p hj hp=>?_⟩
   ·rw[j7 (d6 e hT)];exact s9 _ _ (s8 _ _ e)
   ·by_cases q:j=i
    ·subst q
     rw[hz]at hp
     cases hp
     exact⟨b,by rw[<-l8];simp,by rw[j7 bT];exact e9⟩
    ·obtain⟨b',q1,q2⟩:=a8 j p (by omega) hp
     exact⟨b',by rw[v9 (by omega)];exact q1,by rw[j7 (S8 q2 hT8 (by intro z;cases z))];exact s9 _ _ q2⟩
 ·rintro ys H8 ⟨l8,hT8,s8,a8⟩
  rw[R7]at l8 a8
  exact_mod_cast b5v ?_
  refine⟨T,ys,a4u L,rfl,hT8,by rw[l8];simp[a4u],fun i kk x e=>?_,?_,fun d hd=>?_⟩
  ·unfold a4u at e
   rw[b8]at e
   cases hz:L[i]? with
   | none=>rw[hz]at e;cases e
   | some z=>
    rw[hz]at e
    cases e
    obtain⟨b,q1,q2⟩:=a8 i z (gI hz) hz
    exact⟨b,q1,q2⟩
  ·unfold a4u
   rw[V0]
   refine a6H _ (fun a b hab z=>hab ?_) nd
   have:=Sum.inl.inj z
   omega
  ·have s08:=s1.trans s8
   exact k d _ (s08.free hd) d8 (s08.trans (D0 hd))
theorem c3J{K:Fg}{Sp:Nat->Bool}{L:List Nat}(hd:H d=some (.dK (a4u L)))(nd:L.Nodup)(lt:∀t∈L,t<N.length)(en:∀t∈L,b6C N Do Sp t):GbK K H d N Do Sp L (a4u L):=by
 refine⟨hd,nd,lt,by simp[a4u],fun i t e=>⟨.non,?_,.inl ⟨rfl,en t (mI e)⟩⟩⟩
 unfold a4u
 rw[b8,e]
 rfl
structure GbI(K:Fg)(H0 H:Hp)(d o:Addr)(N:Nt)(Do Sp:Nat->Bool)(S:List Nat)(kvs:List (Key×V)):Prop where
 gb:GbK K H d N Do Sp S kvs
 same:A0 H0 H
 ho:H o=some (.lst (IL S))
 fr:H0 d=none/\H0 o=none
def But(d o:Addr)(H H':Hp):Prop:=∀b ob,b≠d->b≠o->H b=some ob->H' b=some ob
section
variable {K:Fg}{o:Addr}{Sp:Nat->Bool}{S:List Nat}
theorem GbI.next(h:GbI K H0 H d o N Do Sp S kvs)(s:A0 H H'):GbI K H0 H' d o N Do Sp S kvs:=⟨h.gb.same s,h.same.trans s,s _ _ h.ho,h.fr⟩
theorem But.ts(h:But d o H H')(hd:H d=some (.dK kvs))(ho:H o=some (.lst (IL S))):L0 H H':=fun b xs q=>h b _ (S8 q hd (by intro z;cases z)) (S8 q ho (by intro z;cases z)) q
theorem c6g{a b g p q t:Nat}{x:Addr}{l:List Nat}(ha:σ[a]? = some (some (.ref x)))(hb:σ[b]? = some (some (.ref d)))(hg:σ[g]? = some (some (.ref o)))(I:GbI K H0 H d o N Do Sp S kvs)(h400:N.length<=400)(hx:H x=some (.tup [.int (p:Int),.int (q:Int)]))(hl:N[p]? = some l)(ht:l[q]? = some t)(hj:S[j]? = some t)(hD:Do p=false)(hps:¬p∈S)
  (k:∀H' kvs',kvs'=kvs++[(Sum.inl (p:Int),.ref x)]->GbI K H0 H' d o N Do Sp (S++[p]) kvs'->But d o H H'->D.nx σ H'):A4 (a3G (c8 b) (tOp qIx (c8 a) (tC (.int 0))) (c8 a)) (Y7 (tBM K "list" U7 (c8 g) (b9 (tOp qIx (c8 a) (tC (.int 0))) (j3)))) D σ H:=by
 exact_mod_cast X5 ?_
 exact_mod_cast a8R ?_
 exact_mod_cast a3D ha ?_
 exact_mod_cast a3D hb ?_
 exact_mod_cast c7q ?_
 exact_mod_cast a3D ha ?_
 exact_mod_cast s_c ?_
 refine M7 hx (a0p _ _) ?_
 have hlen:S.length<=400:=J5 (a4v _ _ I.gb.nd I.gb.lt) h400
 refine⟨d,_,rfl,a9U.k (k:=Sum.inl (p:Int)) I.gb.hd (J8 (by rw[I.gb.len];omega)),?_⟩
 have add:=I.gb.add (v:=.ref x) hps (gI hl) (.inr ⟨x,q,l,t,j,rfl,.inl hx,hl,ht,hj,(gI hj),hD⟩)
 have ek:a1g kvs (Sum.inl (p:Int)) (.ref x)=kvs++[(Sum.inl (p:Int),.ref x)]:=by
  unfold a1g
  rw[a2s,I.gb.in_,d2F hps,if_neg (by decide)]
 obtain⟨kvs',hk⟩:∃kvs',kvs'=a1g kvs (Sum.inl (p:Int)) (.ref x):=⟨_,rfl⟩
 rw[<-hk]at add ⊢
 obtain⟨H2,hH2⟩:∃H2,H2=upd H d (.dK kvs'):=⟨_,rfl⟩
 rw[<-hH2]at add ⊢
 have nod:o≠d:=S8 I.ho I.gb.hd (by intro z;cases z)
 have ho2:H2 o=some (.lst (IL S)):=by rw[hH2,j7 nod];exact I.ho
 have hx2:H2 x=some (.tup [.int (p:Int),.int (q:Int)]):=by rw[hH2,j7 (S8 hx I.gb.hd (by intro z;cases z))];exact hx
 exact_mod_cast b7j ?_
 exact_mod_cast a4O ?_
 exact_mod_cast a3D hg ?_
 refine⟨V7 ho2,?_⟩
 exact_mod_cast a8T ?_
 exact_mod_cast c7q ?_
 exact_mod_cast a3D ha ?_
 exact_mod_cast s_c ?_
 refine M7 hx2 (a0p _ _) ?_
 exact_mod_cast b5v ?_
 refine Y9 ho2 (J8 (by rw[R7];omega)) ?_
 have e3:IL S++[V.int (p:Int)]=IL (S++[p]):=by simp[IL]
 rw[e3]
 have ts:L0 H2 (upd H2 o (.lst (IL (S++[p])))):=L0.put ho2
 refine k _ kvs' (hk.trans ek) ⟨⟨by rw[j7 nod.symm];exact add.hd,add.nd,add.lt,add.len,fun i u hu=>?_⟩,fun b' o'' q'=>?_,d8,I.fr⟩ fun b ob n1 n2 e=>?_
 ·obtain⟨v,q1,q2⟩:=add.at_ i u hu
  have:=q2.grow (ext:=[]) ts
  rw[a1P]at this
  exact⟨v,q1,this⟩
 ·rw[j7 (d6 q' I.fr.2),hH2,j7 (d6 q' I.fr.1)];exact I.same _ _ q'
 ·rw[j7 n2,hH2,j7 n1];exact e
end
theorem But.trans{o:Addr}{H'':Hp}(h:But d o H H')(h':But d o H' H''):But d o H H'':=fun b ob n1 n2 e=>h' b ob n1 n2 (h b ob n1 n2 e)
theorem But.refl{o:Addr}:But d o H H:=fun _ _ _ _ e=>e
inductive On(N:Nt):Nat->List Stp->Nat->Prop
 | nil {t:Nat}:On N t [] t
 | cons {p q u e:Nat} {l:List Nat} {W:List Stp}:N[p]? = some l->l[q]? = some u->On N u W e->On N p (((p:Int),(q:Int))::W) e
section
variable {t e e':Nat}{W W':List Stp}
theorem On.app(h:On N t W e)(h':On N e W' e'):On N t (W++W') e':=by
 induction h with
 | nil=>exact h'
 | cons h1 h2 _ ih=>exact .cons h1 h2 (ih h')
theorem On.snoc{q u:Nat}{l:List Nat}(h:On N t W e)(h1:N[e]? = some l)(h2:l[q]? = some u):On N t (W++[((e:Int),(q:Int))]) u:=h.app (.cons h1 h2 .nil)
theorem On.isStep(h:On N t W e):∀x∈W,a2g N x:=by
 induction h with
 | nil=>intro x hx;cases hx
 | @cons p q u e l W h1 h2 _ ih=>
  intro x hx
  rcases j4.mp hx with rfl | hx
  ·exact .inr ⟨p,q,l,u,rfl,h1,h2⟩
  ·exact ih x hx
theorem On.beg(h:On N t W e):t::W.map (U2 N)=(W.map fun s=>s.1.toNat)++[e]:=by
 induction h with
 | nil=>rfl
 | @cons p q u e l W h1 h2 _ ih=>
  rw[E2,E2,a3K h1 h2,ih]
  rfl
theorem On.head(h:On N t W e):∀s r,W=s::r->s.1=(t:Int):=by
 intro s r e
 cases h with
 | nil=>cases e
 | cons h1 h2 h3=>cases e;rfl
theorem On.link(h:On N t W e):∀(i:Nat) a b,W[i]? = some a->W[i+1]? = some b->b.1=(U2 N a:Int):=by
 induction h with
 | nil=>intro i a b f1;simp at f1
 | @cons p q u e l W h1 h2 h3 ih=>
  intro i a b f1 f2
  cases i with
  | zero=>
   cases f1
   rw[a3K h1 h2]
   cases W with
   | nil=>simp at f2
   | cons s r=>
    cases f2
    exact h3.head _ _ rfl
  | succ i=>exact ih i a b f1 f2
end
def a1u(L:List (Nat×Option Stp)):List Nat:=L.map (·.1)
def b7s(L:List (Nat×Option Stp))(t:Nat)(s:Stp):List (Nat×Option Stp):=if t∈a1u L then L else L++[(t,some s)]
def upO(L:List (Nat×Option Stp))(Z:List Stp):Nat->List (Nat×Option Stp)
 | 0=>L
 | i+1=>match Z[i]? with
  | none=>upO L Z i
  | some s=>if s=FST then upO L Z i else b7s (upO L Z i) s.1.toNat s
def b3g(N:Nt)(t:Nat):List Stp:=(Z8 N).filter fun s=>decide (U2 N s=t)
def bfo(N:Nt):Nat->List (Nat×Option Stp)
 | 0=>(a0w N).map fun t=>(t,none)
 | n+1=>match (bfo N n)[n]? with
  | none=>bfo N n
  | some x=>upO (bfo N n) (b3g N x.1) (b3g N x.1).length
def gO(L:List (Nat×Option Stp))(t:Nat):Option Stp:=((L.find? fun x=>x.1 == t).map (·.2)).getD none
def a8m(N:Nt)(g:Nat->Option Stp):Nat->Nat->List Stp
 | 0,_=>[]
 | f+1,t=>match g t with
  | none=>[]
  | some s=>s::a8m N g f (U2 N s)
def b8m(N:Nt)(t:Nat):List Stp:=a8m N (gO (bfo N N.length)) 1000 t
section
variable {t:Nat}{o:Option Stp}{Z:List Stp}
theorem c0x(a b:List (Nat×Option Stp)):a1u (a++b)=a1u a++a1u b:=by unfold a1u;rw[z9]
theorem c0w:(a1u L).length=L.length:=by simp[a1u]
theorem b6w(h:L[i]? = some (t,o)):(a1u L)[i]? = some t:=by unfold a1u;rw[b8,h];rfl
theorem c2I(L:List (Nat×Option Stp))(t:Nat)(s:Stp):∃e,b7s L t s=L++e:=by
 unfold b7s
 by_cases h:t∈a1u L
 ·rw[if_pos h];exact⟨[],by simp⟩
 ·rw[if_neg h];exact⟨[(t,some s)],rfl⟩
theorem c1L(h:Z[i]? = none):upO L Z (i+1)=upO L Z i:=by rw[upO,h]
theorem b0w(h:Z[i]? = some s):upO L Z (i+1)=if s=FST then upO L Z i else b7s (upO L Z i) s.1.toNat s:=by rw[upO,h]
theorem b8p(L:List (Nat×Option Stp))(Z:List Stp):∀i,∃e,upO L Z i=L++e
 | 0=>⟨[],by simp[upO]⟩
 | i+1=>by
  obtain⟨e,he⟩:=b8p L Z i
  cases h:Z[i]? with
  | none=>exact⟨e,by rw[c1L h,he]⟩
  | some s=>
   rw[b0w h]
   by_cases q:s=FST
   ·rw[if_pos q];exact⟨e,he⟩
   ·rw[if_neg q]
    obtain⟨e',he'⟩:=c2I (upO L Z i) s.1.toNat s
    exact⟨e++e',by rw[he',he,V2]⟩
theorem c3Z(h:(bfo N n)[n]? = none):bfo N (n+1)=bfo N n:=by rw[bfo,h]
theorem b6u{x:Nat×Option Stp}(h:(bfo N n)[n]? = some x):bfo N (n+1)=upO (bfo N n) (b3g N x.1) (b3g N x.1).length:=by rw[bfo,h]
theorem c6o(N:Nt)(n:Nat):∃e,bfo N (n+1)=bfo N n++e:=by
 cases h:(bfo N n)[n]? with
 | none=>exact⟨[],by rw[c3Z h];simp⟩
 | some x=>rw[b6u h];exact b8p _ _ _
theorem b9b(N:Nt)(n:Nat):∀k,∃e,bfo N (n+k)=bfo N n++e
 | 0=>⟨[],by simp⟩
 | k+1=>by
  obtain⟨e,he⟩:=b9b N n k
  obtain⟨e',he'⟩:=c6o N (n+k)
  exact⟨e++e',by rw[<-d0W,he',he,V2]⟩
theorem d0D(nd:(a1u L).Nodup)(h:L[i]? = some (t,o))(e:List (Nat×Option Stp)):gO (L++e) t=o:=by
 unfold gO
 have hf:L.find? (fun x=>x.1 == t)=some (t,o):=by
  rw[b2y]
  refine⟨by simp,L.take i,L.drop (i+1),?_,fun x hx=>?_⟩
  ·have h2:=(u6.mp h).2
   rw[<-h2,b9f,a6V]
  ·obtain⟨j,hj⟩:=v6.mp hx
   have hjl:=(gI hj)
   rw[L9]at hjl
   rw[a5s (by omega)]at hj
   simp only[b0i,beq_eq_false_iff_ne]
   intro z
   have a1:=b6w (o:=x.2) (t:=x.1) hj
   have a2:=b6w h
   rw[z]at a1
   have hil:=(gI h)
   have:=(b0h (i:=j) (j:=i) (by rw[c0w];omega) nd).mp (a1.trans a2.symm)
   omega
 rw[c6C,hf]
 rfl
end
theorem c1X{t:Nat}(ht:t<N.length):(t∈a0w N↔N[t]? = some []):=by
 refine⟨fun h=>?_,a9g⟩
 have h:=(a0q.mp h).2
 have hg:N.getD t []=N[t]:=by simp[O4,ht]
 unfold a5d at h
 rw[U3 ht]
 simp only[hg]at h
 simpa using h
def KO(H:Hp)(kvs:List (Key×V))(L:List (Nat×Option Stp)):Prop:=kvs.length=L.length/\∀(i t:Nat) (o:Option Stp),L[i]? = some (t,o)->∃v,kvs[i]? = some (Sum.inl (t:Int),v)/\(o=none->v=.non)/\∀s,o=some s->∃a,v=.ref a/\H a=some (.tup [.int s.1,.int s.2])
theorem KO.ts(h:KO H kvs L)(t:L0 H H'):KO H' kvs L:=
 ⟨h.1,fun i u o e=>let⟨v,q1,q2,q3⟩:=h.2 i u o e; ⟨v,q1,q2,fun s es=>let⟨a,z1,z2⟩:=q3 s es; ⟨a,z1,t _ _ z2⟩⟩⟩
theorem KO.snoc{t:Nat}(h:KO H kvs L)(ha:H a=some (.tup [.int s.1,.int s.2])):KO H (kvs++[(Sum.inl (t:Int),.ref a)]) (L++[(t,some s)]):=by
 refine⟨by simp[h.1],fun i u o e=>?_⟩
 rcases W8 e with ⟨hi,g⟩ | ⟨hi,g⟩
 ·obtain⟨v,q1,q2,q3⟩:=h.2 i u o g
  exact⟨v,by rw[v9 (gI q1)];exact q1,q2,q3⟩
 ·cases g
  exact⟨.ref a,by rw[hi,<-h.1];simp,(fun z=>by cases z),fun s' z=>by cases z;exact⟨a,rfl,ha⟩⟩
theorem KO.ends(S:List Nat):KO H (a4u S) (S.map fun t=>(t,none)):=by
 refine⟨by simp[a4u],fun i t o e=>?_⟩
 rw[b8]at e
 cases hz:S[i]? with
 | none=>rw[hz]at e;cases e
 | some z=>
  rw[hz]at e
  cases e
  exact⟨.non,by unfold a4u;rw[b8,hz];rfl,fun _=>rfl,fun s z=>by cases z⟩
structure FD(K:Fg)(H:Hp)(d:Addr)(N:Nt)(Do Sp:Nat->Bool)(S:List Nat)(kvs:List (Key×V))(g:Nat->Option Stp):Prop where
 gb:GbK K H d N Do Sp S kvs
 at_:∀(i t:Nat),S[i]? = some t->∃v,kvs[i]? = some (Sum.inl (t:Int),v)/\((g t=none/\v=.non/\b6C N Do Sp t)\/∃(a:Addr) (q:Nat) (l:List Nat) (u j:Nat),g t=some ((t:Int),(q:Int))/\v=.ref a/\Z6 K H a ((t:Int),(q:Int))/\N[t]? = some l/\l[q]? = some u/\S[j]? = some u/\j<i/\Do t=false)
section
variable {K:Fg}{Sp:Nat->Bool}{S:List Nat}{g:Nat->Option Stp}
theorem FD.same(h:FD K H d N Do Sp S kvs g)(s:A0 H H'):FD K H' d N Do Sp S kvs g:=by
 refine⟨h.gb.same s,fun i t e=>?_⟩
 obtain⟨v,q1,q2⟩:=h.at_ i t e
 refine⟨v,q1,?_⟩
 rcases q2 with q2 | ⟨a,q,l,u,j,z1,z2,z3,z4⟩
 ·exact .inl q2
 ·exact .inr ⟨a,q,l,u,j,z1,z2,z3.ts (A0.ts s),z4⟩
theorem FD.get(h:FD K H d N Do Sp S kvs g){t:Nat}(hi:S[i]? = some t):∃v,a3u H d (.int (t:Int)) (some v)/\((g t=none/\v=.non/\b6C N Do Sp t)\/∃(a:Addr) (q:Nat) (l:List Nat) (u j:Nat),g t=some ((t:Int),(q:Int))/\v=.ref a/\Z6 K H a ((t:Int),(q:Int))/\N[t]? = some l/\l[q]? = some u/\S[j]? = some u/\j<i/\Do t=false):=by
 obtain⟨v,q,q2⟩:=h.at_ i t hi
 refine⟨v,?_,q2⟩
 have:=a3u.k (k:=Sum.inl (t:Int)) h.gb.hd
 rw[a5H h.gb.ndk (mI q)]at this
 exact this
theorem FD.of(gb:GbK K H d N Do Sp (a1u L) kvs)(ko:KO H kvs L)(hg:∀(i t:Nat) o,L[i]? = some (t,o)->g t=o):FD K H d N Do Sp (a1u L) kvs g:=by
 refine⟨gb,fun i t e=>?_⟩
 obtain⟨o,ho⟩:∃o,L[i]? = some (t,o):=by
  unfold a1u at e
  rw[b8]at e
  cases h:L[i]? with
  | none=>rw[h]at e;cases e
  | some x=>
   rw[h]at e
   cases e
   exact⟨x.2,rfl⟩
 obtain⟨v,q1,q2,q3⟩:=ko.2 i t o ho
 have go:=hg i t o ho
 obtain⟨v',r1,r2⟩:=gb.at_ i t e
 rw[q1]at r1
 cases r1
 refine⟨v,q1,?_⟩
 rcases r2 with ⟨z1,z2⟩ | ⟨a,q,l,u,j,z1,z2,z3,z4,z5,z6,z7⟩
 ·refine .inl ⟨?_,z1,z2⟩
  rw[go]
  cases o with
  | none=>rfl
  | some s=>
   obtain⟨a,w1,_⟩:=q3 s rfl
   rw[z1]at w1
   cases w1
 ·refine .inr ⟨a,q,l,u,j,?_,z1,z2,z3,z4,z5,z6,z7⟩
  rw[go]
  cases o with
  | none=>
   have:=q2 rfl
   rw[z1]at this
   cases this
  | some s=>
   obtain⟨a',w1,w2⟩:=q3 s rfl
   rw[z1]at w1
   cases w1
   rcases z2 with z2 | ⟨z,_⟩
   ·rw[w2]at z2
    injection z2 with z2
    injection z2 with z2
    injection z2 with y1 y2
    injection y2 with y2 _
    rw[Prod.ext_iff.mpr ⟨V.int.inj y1,V.int.inj y2⟩]
   ·exact(a3Y z).elim
end
theorem b5Y{K:Fg}{c:Cn}{x:Addr}{Sp:Nat->Bool}{S:List Nat}{g:Nat->Option Stp}{i0:Nat}{E:XK}(ck:a2I K c)(hz:a2f K c H x N)(hc:FD K H d N Do Sp S kvs g)(h400:N.length<=400)(hi0:S[i0]? = some t0)
  (k:∀w e H',H w=none->On N t0 (a8m N g 1000 t0) e->(a8m N g 1000 t0).length<=400->(∀s∈a8m N g 1000 t0,Do s.1.toNat=false)->b6C N Do Sp e->E8 K H' w (a8m N g 1000 t0)->A0 H H'->Q (.ref w) H'):a3C K c [.ref x,.ref d,.int (t0:Int)] H Q E:=by
 obtain⟨dx2,r2,n2,e2',es,p1,_⟩:=id hz.ex
 refine⟨rfl,?_⟩
 unfold b0C
 nofun
 exists E7 (by simp) fun w H1 hw e1 s1=>?_
 nofun
 specialize b3R ?_
 obtain⟨v,g1,g2⟩:=(hc.same s1).get hi0
 exists ⟨d,_,rfl,g1,?_⟩
 have hSl:S.length<=N.length:=a4v _ _ hc.gb.nd hc.gb.lt
 have hi0l:=(gI hi0)
 exact_mod_cast X5 ?_
 exact_mod_cast a8a ?_
 refine⟨fun m σ H2=>∃(vs:List Addr) (W:List Stp) (i t f:Nat) (v:V),σ=[some (.ref x),some (.ref d),some (.int (t0:Int)),some (.ref w),some v]/\H2 w=some (.lst (vs.map V.ref))/\vs.length=W.length/\(∀(j:Nat) x st,vs[j]? = some x->W[j]? = some st->Z6 K H2 x st)/\On N t0 W t/\S[i]? = some t/\((g t=none/\v=.non/\b6C N Do Sp t)\/∃(a:Addr) (q:Nat) (l:List Nat) (u j:Nat),g t=some ((t:Int),(q:Int))/\v=.ref a/\Z6 K H2 a ((t:Int),(q:Int))/\N[t]? = some l/\l[q]? = some u/\S[j]? = some u/\j<i/\Do t=false)/\a8m N g 1000 t0=W++a8m N g f t/\i<f/\W.length+i<=i0/\(∀s∈W,Do s.1.toNat=false)/\A0 H H2/\m=i,
  ⟨_,[],[],i0,t0,1000,v,rfl,e1,rfl,fun j x st f1 f2=>by simp at f1,.nil,hi0,g2,rfl,by omega,by simp,by simp,s1,rfl⟩,?_⟩
 rintro m _ H2 ⟨vs,W,i,t,f,v,rfl,hw2,lv,at2,on,hi,js,fo,hf,hle,low,s2,rfl⟩
 obtain⟨f',rfl⟩:∃f',f=f'+1:=⟨f - 1,by omega⟩
 ext
 exists ⟨rfl,?_⟩
 rcases js with ⟨gn,rfl,en⟩ | ⟨a,q,l,u,j,gn,rfl,h2,h3,h4,h5,h6,h7⟩
 ·exists C7 (by simp) ?_
  have fo:a8m N g 1000 t0=W:=by rw[fo,a8m,gn,a1P]
  rw[<-fo]at on low lv at2
  refine k w t H2 hw on ?_ low en ⟨vs,hw2,lv,at2⟩ s2
  rw[fo];omega
 ·refine K9 (by simp) ?_
  refine⟨fun σ H3=>∃(m':Nat) (vs:List Addr) (W:List Stp) (i t f:Nat) (v:V),σ=[some (.ref x),some (.ref d),some (.int (t0:Int)),some (.ref w),some v]/\H3 w=some (.lst (vs.map V.ref))/\vs.length=W.length/\(∀(j:Nat) x st,vs[j]? = some x->W[j]? = some st->Z6 K H3 x st)/\On N t0 W t/\S[i]? = some t/\((g t=none/\v=.non/\b6C N Do Sp t)\/∃(a:Addr) (q:Nat) (l:List Nat) (u j:Nat),g t=some ((t:Int),(q:Int))/\v=.ref a/\Z6 K H3 a ((t:Int),(q:Int))/\N[t]? = some l/\l[q]? = some u/\S[j]? = some u/\j<i/\Do t=false)/\a8m N g 1000 t0=W++a8m N g f t/\i<f/\W.length+i<=i0/\(∀s∈W,Do s.1.toNat=false)/\A0 H H3/\m'=i/\m'<m,?_,?_⟩
  ·rintro σ' H3 ⟨m',vs,W,i',t,f,v,e,q1,q2,q3,q4,q5,q6,q7,q8,q9,q10,q11,q12,q13⟩
   exact⟨m',q13,vs,W,i',t,f,v,e,q1,q2,q3,q4,q5,q6,q7,q8,q9,q10,q11,q12⟩
  nofun
  specialize a4O ?_
  exists ⟨V7 hw2,?_⟩
  refine Y9 hw2 (J8 (by rw[a9];omega)) ?_
  have sn:=b0J (S:=W) hw2 lv at2 h2
  have ew:vs.map V.ref++[V.ref a]=(vs++[a]).map V.ref:=by simp
  rw[ew]
  have t3:L0 H2 (upd H2 w (.lst ((vs++[a]).map V.ref))):=L0.put hw2
  obtain⟨H3,hH3⟩:∃H3,H3=upd H2 w (.lst ((vs++[a]).map V.ref)):=⟨_,rfl⟩
  have hw3:H3 w=some (.lst ((vs++[a]).map V.ref)):=hH3 ▸ d8
  have s3:A0 H H3:=fun b o e=>by rw[hH3,j7 (d6 e hw)];exact s2 _ _ e
  rw[<-hH3]at sn t3 ⊢
  obtain⟨vs',z1,z2,z3⟩:=sn.ex
  have ev:vs'=vs++[a]:=by
   rw[hw3]at z1
   exact(O7 (f:=V.ref) (fun a b h=>V.ref.inj h) |>.mp (HO.lst.inj (Option.some.inj z1))).symm
  subst ev
  ext
  specialize b3R ?_
  specialize a1G ?_
  exists ⟨x,dx2,_,rfl,s3 _ _ p1,a2c r2 n2 e2' _ (by decide),?_⟩
  refine a2x ck (hz.same s3).x (h2.ts t3) (.inr ⟨t,q,l,u,rfl,h3,h4⟩) ?_
  rw[a3K h3 h4]
  obtain⟨v',y1,y2⟩:=(hc.same s3).get h5
  exists ⟨d,_,rfl,y1,?_⟩
  exact⟨_,vs++[a],W++[((t:Int),(q:Int))],j,u,f',v',rfl,hw3,by simp[lv],z3,on.snoc h3 h4,h5,y2,by
   rw[fo,a8m,gn,V2]
   show _++(_::a8m N g f' (U2 N _))=_
   rw[a3K h3 h4];rfl,by omega,by rw[g8,J3];omega,fun s hs=>by
   rcases t5.mp hs with hs | hs
   ·exact low s hs
   ·rw[d9.mp hs];exact h7,s3,rfl,h6⟩
theorem b9u{K:Fg}{c:Cn}{x:Addr}{E:XK}(ck:a2I K c)(hz:a2f K c H x N)(hv:a1j N)(ht0:t0<N.length)
  (k:∀w e H',H w=none->On N t0 (b8m N t0) e->(b8m N t0).length<=400->N[e]? = some []->E8 K H' w (b8m N t0)->A0 H H'->Q (.ref w) H'):a6m K c [.ref x,.int (t0:Int)] H Q E:=by
 have h400:=hv.le
 obtain⟨dx2,r2,n2,e2',es,p1,_⟩:=id hz.ex
 have nd0:(a0w N).Nodup:=List.nodup_range.filter _
 have lt0:∀t∈a0w N,t<N.length:=fun t ht=>U9.mp (a0q.mp ht).1
 have l0:(a0w N).length<=400:=J5 (a4v _ _ nd0 lt0) h400
 refine⟨rfl,?_⟩
 unfold b4Z
 exact_mod_cast X5 ?_
 exact_mod_cast c2v ?_
 refine c0F nd0 l0 (fun R hR=>?_) fun d H1 hd1 e1 s1=>?_
 ·specialize a1G ?_
  exists ⟨x,dx2,_,rfl,p1,a2c r2 n2 e2' _ (by decide),?_⟩
  exact a3V ck hz hv fun a H1 _ e1 s1=>hR a H1 e1 s1
 ext
 nofun
 specialize a1G ?_
 exists ⟨x,dx2,_,rfl,s1 _ _ p1,a2c r2 n2 e2' _ (by decide),?_⟩
 exists a3V ck (hz.same s1) hv fun o H2 ho e2 s2=>?_
 have ek0:a1u (bfo N 0)=a0w N:=by
  show((a0w N).map fun t=>(t,(none:Option Stp))).map (·.1)=a0w N
  rw[V0]
  exact b2x _
 have I2:GbI K H H2 d o N (fun _=>false) (fun _=>false) (a0w N) (a4u (a0w N)):=⟨c3J (s2 _ _ e1) nd0 lt0 fun t ht=>⟨rfl,.inr ((c1X (lt0 t ht)).mp ht)⟩,s1.trans s2,e2,hd1,s1.free ho⟩
 nofun
 exact_mod_cast X5 ?_
 exact_mod_cast a8a ?_
 refine⟨fun m σ H4=>∃(y5 y6:Option V) (S:List Nat) (kvs:List (Key×V)) (dn:Nat),S=a1u (bfo N dn)/\KO H4 kvs (bfo N dn)/\σ=[some (.ref x),some (.int (t0:Int)),some (.ref d),some (.ref o),some (.int (dn:Int)),y5,y6]/\GbI K H H4 d o N (fun _=>false) (fun _=>false) S kvs/\(∃ext,S=a0w N++ext)/\dn<=S.length/\(∀(j t p:Nat) l,j<dn->S[j]? = some t->N[p]? = some l->t∈l->p∈S)/\m=N.length - dn,
  ⟨_,_,_,a0w N,_,0,ek0.symm,KO.ends _,rfl,I2,⟨[],by simp⟩,by omega,by omega,rfl⟩,?_⟩
 rintro m _ H4 ⟨y5,y6,S,kvs,dn,eS,ko,rfl,I4,x4,hdn,c4,rfl⟩
 ext
 specialize a3k ?_
 obtain⟨o',g1,g2⟩:=I4.gb.notin t0
 refine⟨d,o',rfl,g1,?_⟩
 rw[g2]
 ext
 have hSl:S.length<=N.length:=a4v _ _ I4.gb.nd I4.gb.lt
 obtain⟨ext4,hx4⟩:=x4
 by_cases hin:t0∈S
 ·exists C7 (by rw[d2G hin];rfl) ?_
  obtain⟨i0,hi0⟩:=v6.mp hin
  obtain⟨ex,hex⟩:=b9b N dn (N.length - dn)
  rw[show dn+(N.length - dn)=N.length by omega]at hex
  have gb4:=I4.gb
  rw[eS]at gb4 hi0
  have fd:FD K H4 d N (fun _=>false) (fun _=>false) (a1u (bfo N dn)) kvs (gO (bfo N N.length)):=FD.of gb4 ko fun i t o e=>by rw[hex];exact d0D gb4.nd e ex
  refine b5Y ck (hz.same I4.same) fd h400 hi0 fun w e H5 hw on lW _ en sa s5=>?_
  refine k w e H5 (I4.same.free hw) on lW ?_ sa (I4.same.trans s5)
  rcases en.2 with z | z
  ·cases z
  ·exact z
 ·refine K9 (by rw[d2F hin];rfl) ?_
  have hlt:dn<S.length:=by
   refine Classical.byContradiction fun hno=>hin ?_
   have cl:∀z,Gd N z->z∈S:=by
    intro z h
    induction h with
    | @stop z h=>rw[hx4];exact D8 _ (a9g h)
    | @step z t l hl ht _ ih=>
     obtain⟨j,hj⟩:=v6.mp ih
     have:=(gI hj)
     exact c4 j t z l (by omega) hj hl ht
   exact cl t0 (hv.gd t0 ht0)
  obtain⟨t,htS⟩:∃t,S[dn]? = some t:=⟨_,d4 hlt⟩
  have htn:=I4.gb.lt t (mI htS)
  refine⟨fun σ H5=>∃(m':Nat) (y5 y6:Option V) (S:List Nat) (kvs:List (Key×V)) (dn':Nat),S=a1u (bfo N dn')/\KO H5 kvs (bfo N dn')/\σ=[some (.ref x),some (.int (t0:Int)),some (.ref d),some (.ref o),some (.int (dn':Int)),y5,y6]/\GbI K H H5 d o N (fun _=>false) (fun _=>false) S kvs/\(∃ext,S=a0w N++ext)/\dn'<=S.length/\(∀(j t p:Nat) l,j<dn'->S[j]? = some t->N[p]? = some l->t∈l->p∈S)/\m'=N.length - dn'/\m'<N.length - dn,?_,?_⟩
  ·rintro σ' H5 ⟨m',y5,y6,S,kvs,dn',a1,a2,e,r1,r2,r3,r4,r5,r6⟩
   exact⟨m',r6,y5,y6,S,kvs,dn',a1,a2,e,r1,r2,r3,r4,r5⟩
  nofun
  exists F1 I4.ho (c4e htS) ?_
  exact_mod_cast X5 ?_
  specialize c6O rfl ?_
  have e1':(dn:Int)+1=((dn+1:Nat):Int):=by omega
  rw[e1']
  specialize a0E (W9 ?_)
  specialize a1G ?_
  exists ⟨x,dx2,_,rfl,I4.same _ _ p1,a2c r2 n2 e2' _ (by decide),?_⟩
  refine a8j ck (hz.same I4.same) htn fun st H5 hst sa s5=>?_
  obtain⟨vs,v1,v2,v3⟩:=sa.ex
  have I5:=I4.next s5
  have nst:st≠d/\st≠o:=⟨(d6 I4.gb.hd hst).symm,(d6 I4.ho hst).symm⟩
  obtain⟨Z,hZ⟩:∃Z,Z=(Z8 N).filter fun s=>decide (U2 N s=t):=⟨_,rfl⟩
  rw[<-hZ]at v2 v3
  refine⟨st,rfl,⟨_,SqL.of v1⟩,a0Q (xs:=vs.map V.ref) (fun i σ H6=>∃(y6:Option V) (S':List Nat) (kvs':List (Key×V)),σ=[some (.ref x),some (.int (t0:Int)),some (.ref d),some (.ref o),some (.int ((dn+1:Nat):Int)),some (.int (t:Int)),y6]/\GbI K H H6 d o N (fun _=>false) (fun _=>false) S' kvs'/\(∃ext,S'=S++ext)/\But d o H5 H6/\(∀(j p q:Nat),j<i->Z[j]? = some ((p:Int),(q:Int))->p∈S')/\S'=a1u (upO (bfo N dn) Z i)/\KO H6 kvs' (upO (bfo N dn) Z i)) ⟨_,S,kvs,rfl,I5,⟨[],by simp⟩,But.refl,by omega,eS,ko.ts (A0.ts s5)⟩ ?_ ?_ ?_⟩
  ·rintro i σ H6 _ ⟨_,_,_,_,_,_,bt,_⟩
   exact SqL.of (bt _ _ nst.1 nst.2 v1)
  ·rintro i y _ H6 hy ⟨y6,S',kvs',rfl,I6,⟨ext,e6⟩,bt,g6,eS6,ko6⟩
   rw[b8]at hy
   cases hw:vs[i]? with
   | none=>rw[hw]at hy;cases hy
   | some w=>
    rw[hw]at hy
    cases hy
    obtain⟨s,hsi⟩:∃s,Z[i]? = some s:=⟨_,d4 (by have:=(gI hw);omega)⟩
    have sm:=mI hsi
    rw[hZ,a0q]at sm
    have iss:=a9k sm.1
    have ld:=of_decide_eq_true sm.2
    have st6:Z6 K H6 w s:=(v3 i w s hw hsi).ts (bt.ts I5.gb.hd I5.ho)
    have grow:∀S'',(∃e,S''=S'++e)->(∀p q:Nat,s=((p:Int),(q:Int))->p∈S'')->∀(j p q:Nat),j<i+1->Z[j]? = some ((p:Int),(q:Int))->p∈S'':=by
     rintro S'' ⟨e,rfl⟩ h j p q hj hj2
     by_cases z:j=i
     ·subst z
      rw[hsi]at hj2
      exact h p q (Option.some.inj hj2)
     ·exact D8 _ (g6 j p q (by omega) hj2)
    ext
    refine⟨_,_,_,_,rfl,rfl,st6.sq,ck.a0X H6,rfl,rfl,?_⟩
    rw[eq2]
    ext
    rcases iss with rfl | ⟨p,q,l,t',rfl,hl,hq⟩
    ·refine C7 rfl ?_
     exists C7 rfl ?_
     have eu:upO (bfo N dn) Z (i+1)=upO (bfo N dn) Z i:=by rw[b0w hsi,if_pos rfl]
     exact⟨_,S',kvs',rfl,I6,⟨ext,e6⟩,bt,grow S' ⟨[],by simp⟩ (fun p q e=>(a3Y e.symm).elim),by rw[eu];exact eS6,by rw[eu];exact ko6⟩
    ·rw[a3K hl hq]at ld
     subst ld
     refine K9 (by
      have:decide ((((p:Int),(q:Int)).1,((p:Int),(q:Int)).2)=FST)=false:=d2F a3Y
      rw[this];rfl) ?_
     rcases st6 with st6 | ⟨z,_⟩
     rotate_left
     ·exact(a3Y z).elim
     have eqs:∀p' q':Nat,(((p:Int),(q:Int)):Stp)=((p':Int),(q':Int))->p'=p:=fun p' q' e=>by
      have:(p:Int)=(p':Int):=congrArg Prod.fst e
      omega
     ext
     specialize a3k ?_
     exists M7 st6 (a0p _ _) ?_
     obtain⟨o',g1,g2⟩:=I6.gb.notin p
     refine⟨d,o',rfl,g1,?_⟩
     rw[g2]
     ext
     have eu:upO (bfo N dn) Z (i+1)=b7s (upO (bfo N dn) Z i) p ((p:Int),(q:Int)):=by
      rw[b0w hsi,if_neg a3Y]
      show b7s _ (p:Int).toNat _=_
      rw[o4]
     unfold b7s at eu
     rw[<-eS6]at eu
     by_cases hps:p∈S'
     ·exists C7 (by rw[d2G hps];rfl) ?_
      rw[if_pos hps]at eu
      exact⟨_,S',kvs',rfl,I6,⟨ext,e6⟩,bt,grow S' ⟨[],by simp⟩ (fun p' q' e=>by rw[eqs p' q' e];exact hps),by rw[eu];exact eS6,by rw[eu];exact ko6⟩
     ·refine K9 (by rw[d2F hps];rfl) ?_
      rw[if_neg hps]at eu
      refine c6g (a:=6) (b:=2) (g:=3) (j:=dn) rfl rfl rfl I6 h400 st6 hl hq (by rw[e6,v9 hlt];exact htS) rfl hps fun H7 kvs7 ek7 I7 b7=>?_
      refine⟨_,S'++[p],kvs7,rfl,I7,⟨ext++[p],by rw[e6,V2]⟩,bt.trans b7,grow _ ⟨[p],rfl⟩ (fun p' q' e=>by rw[eqs p' q' e];simp),by rw[eu,c0x,<-eS6];rfl,?_⟩
      rw[eu,ek7]
      have t7:=b7.ts I6.gb.hd I6.ho
      exact(ko6.ts t7).snoc (t7 _ _ st6)
  ·rintro _ H6 ⟨y6,S',kvs',rfl,I6,⟨ext,e6⟩,bt,g6,eS6,ko6⟩
   have hdS:∃x,(bfo N dn)[dn]? = some x/\x.1=t:=by
    rw[eS]at htS
    unfold a1u at htS
    rw[b8]at htS
    cases h:(bfo N dn)[dn]? with
    | none=>rw[h]at htS;cases htS
    | some x=>rw[h]at htS;exact⟨x,rfl,Option.some.inj htS⟩
   obtain⟨x0,hx0,hx1⟩:=hdS
   have eb:bfo N (dn+1)=upO (bfo N dn) Z (vs.map V.ref).length:=by
    rw[b6u hx0,hx1,a9,v2,hZ];rfl
   refine⟨_,_,_,S',kvs',dn+1,by rw[eb];exact eS6,by rw[eb];exact ko6,rfl,I6,⟨ext4++ext,by rw[e6,hx4,V2]⟩,by rw[e6,g8];omega,fun j t' p l hj hj2 hl ht=>?_,rfl,by omega⟩
   rw[a9,v2]at g6
   have hj3:S[j]? = some t':=by rw[e6,v9 (by omega)]at hj2;exact hj2
   by_cases q:j=dn
   ·subst q
    rw[htS]at hj3
    cases hj3
    obtain⟨q,hq⟩:=v6.mp ht
    have m1:(((p:Int),(q:Int)):Stp)∈Z:=by
     rw[hZ,a0q]
     exact⟨c0u (.inr ⟨p,q,l,t,rfl,hl,hq⟩),d2G (a3K hl hq)⟩
    obtain⟨i,hi⟩:=v6.mp m1
    exact g6 i p q (gI hi) hi
   ·rw[e6];exact D8 _ (c4 j t' p l (by omega) hj3 hl ht)
def N3(L:List (Nat×Stp)):List Nat:=L.map (·.1)
def a9P(L:List (Nat×Stp))(t:Nat)(s:Stp):List (Nat×Stp):=if t∈N3 L then L else L++[(t,s)]
def a1i(L:List (Nat×Stp))(p:Nat)(l:List Nat):Nat->List (Nat×Stp)
 | 0=>L
 | i+1=>match l[i]? with
  | none=>a1i L p l i
  | some t=>a9P (a1i L p l i) t ((p:Int),(i:Int))
def bfs(N:Nt):Nat->List (Nat×Stp)
 | 0=>[(0,FST)]
 | n+1=>match (bfs N n)[n]? with
  | none=>bfs N n
  | some x=>a1i (bfs N n) x.1 (N.getD x.1 []) (N.getD x.1 []).length
def gB(L:List (Nat×Stp))(t:Nat):Stp:=((L.find? fun x=>x.1 == t).map (·.2)).getD FST
def trG(g:Nat->Stp)(stop:Stp->Bool):Nat->Nat->List Stp
 | 0,_=>[]
 | f+1,t=>if stop (g t)=true then [g t] else g t::trG g stop f (g t).1.toNat
def isF(s:Stp):Bool:=decide (s=FST)
def c6J(N:Nt)(t:Nat):List Stp:=(trG (gB (bfs N N.length)) isF 1000 t).reverse
section
variable {L L':List (Nat×Stp)}{t p q:Nat}{l:List Nat}
theorem a2X(a b:List (Nat×Stp)):N3 (a++b)=N3 a++N3 b:=by unfold N3;rw[z9]
theorem a9h(h:L[i]? = some (t,s)):t∈N3 L:=C8.mpr ⟨_,mI h,rfl⟩
theorem b1t(h:(N3 L)[i]? = some t):∃s,L[i]? = some (t,s):=by
 unfold N3 at h
 rw[b8]at h
 cases e:L[i]? with
 | none=>rw[e]at h;cases h
 | some x=>
  rw[e]at h
  cases h
  exact⟨x.2,rfl⟩
theorem a8v(h:L[i]? = some (t,s)):(N3 L)[i]? = some t:=by unfold N3;rw[b8,h];rfl
theorem a4x:(N3 L).length=L.length:=by simp[N3]
theorem b5C(L:List (Nat×Stp))(t:Nat)(s:Stp):∃e,a9P L t s=L++e:=by
 unfold a9P
 by_cases h:t∈N3 L
 ·rw[if_pos h];exact⟨[],by simp⟩
 ·rw[if_neg h];exact⟨[(t,s)],rfl⟩
theorem c2J(L:List (Nat×Stp))(t:Nat)(s:Stp):t∈N3 (a9P L t s):=by
 unfold a9P
 by_cases h:t∈N3 L
 ·rw[if_pos h];exact h
 ·rw[if_neg h,a2X];simp[N3]
theorem a9r(L:List (Nat×Stp))(p:Nat)(l:List Nat):∀i,∃e,a1i L p l i=L++e
 | 0=>⟨[],by simp[a1i]⟩
 | i+1=>by
  obtain⟨e,he⟩:=a9r L p l i
  unfold a1i
  cases l[i]? with
  | none=>exact⟨e,he⟩
  | some t=>
   obtain⟨e',he'⟩:=b5C (a1i L p l i) t ((p:Int),(i:Int))
   exact⟨e++e',by show a9P _ _ _=_;rw[he',he,V2]⟩
theorem a9q(L:List (Nat×Stp))(p:Nat)(l:List Nat):∀i t,t∈l.take i->t∈N3 (a1i L p l i)
 | 0,t,h=>by simp at h
 | i+1,t,h=>by
  unfold a1i
  rw[O2]at h
  cases e:l[i]? with
  | none=>
   rw[e]at h
   exact a9q L p l i t (by simpa using h)
  | some u=>
   rw[e]at h
   rcases t5.mp h with h | h
   ·obtain⟨e',he'⟩:=b5C (a1i L p l i) u ((p:Int),(i:Int))
    show t∈N3 (a9P _ _ _)
    rw[he',a2X]
    exact D8 _ (a9q L p l i t h)
   ·have:t=u:=by simpa using h
    subst this
    exact c2J _ _ _
theorem c3X(h:(bfs N n)[n]? = none):bfs N (n+1)=bfs N n:=by rw[bfs,h]
theorem b6t{x:Nat×Stp}(h:(bfs N n)[n]? = some x):bfs N (n+1)=a1i (bfs N n) x.1 (N.getD x.1 []) (N.getD x.1 []).length:=by rw[bfs,h]
theorem b4z(N:Nt)(n:Nat):∃e,bfs N (n+1)=bfs N n++e:=by
 cases h:(bfs N n)[n]? with
 | none=>exact⟨[],by rw[c3X h];simp⟩
 | some x=>rw[b6t h];exact a9r _ _ _ _
theorem b9a(N:Nt)(n:Nat):∀k,∃e,bfs N (n+k)=bfs N n++e
 | 0=>⟨[],by simp⟩
 | k+1=>by
  obtain⟨e,he⟩:=b9a N n k
  obtain⟨e',he'⟩:=b4z N (n+k)
  exact⟨e++e',by rw[<-d0W,he',he,V2]⟩
structure BF(N:Nt)(L:List (Nat×Stp)):Prop where
 nd:(N3 L).Nodup
 lt:∀t∈N3 L,t<N.length
 z:L[0]? = some (0,FST)
 just:∀(i t:Nat) (s:Stp),L[i]? = some (t,s)->(i=0/\s=FST/\t=0)\/∃(p q:Nat) (l:List Nat),s=((p:Int),(q:Int))/\N[p]? = some l/\l[q]? = some t/\∃j s',j<i/\L[j]? = some (p,s')
theorem BF.put{s':Stp}(h:BF N L)(hj:L[j]? = some (p,s'))(hl:N[p]? = some l)(hq:l[q]? = some t)(ht:t<N.length):BF N (a9P L t ((p:Int),(q:Int))):=by
 unfold a9P
 by_cases hm:t∈N3 L
 ·rw[if_pos hm];exact h
 rw[if_neg hm]
 refine⟨?_,fun u hu=>?_,?_,fun i u s e=>?_⟩
 ·rw[a2X,a0W]
  refine⟨h.nd,by simp[N3],fun x hx y hy=>?_⟩
  have:y=t:=by simpa[N3]using hy
  rw[this]
  exact fun z=>hm (z ▸ hx)
 ·rw[a2X]at hu
  rcases t5.mp hu with hu | hu
  ·exact h.lt u hu
  ·have:u=t:=by simpa[N3]using hu
   rw[this];exact ht
 ·rw[v9 (u6.mp h.z).1];exact h.z
 ·rcases W8 e with ⟨_,e⟩ | ⟨hi,e⟩
  ·rcases h.just i u s e with r | ⟨p',q',l',r1,r2,r3,j',s'',r4,r5⟩
   ·exact .inl r
   ·exact .inr ⟨p',q',l',r1,r2,r3,j',s'',r4,by rw[v9 (gI r5)];exact r5⟩
  ·cases e
   have hjl:=(gI hj)
   exact .inr ⟨p,q,l,rfl,hl,hq,j,s',by omega,by rw[v9 hjl];exact hj⟩
theorem BF.up{s':Stp}(hv:a1j N)(h:BF N L)(hj:L[j]? = some (p,s'))(hl:N[p]? = some l):∀i,BF N (a1i L p l i)
 | 0=>h
 | i+1=>by
  have ih:=BF.up hv h hj hl i
  unfold a1i
  cases e:l[i]? with
  | none=>exact ih
  | some t=>
   obtain⟨e',he'⟩:=a9r L p l i
   exact ih.put (by rw[he',v9 (gI hj)];exact hj) hl e (hv.lt l (mI hl) t (mI e))
theorem b8f(hv:a1j N):∀n,BF N (bfs N n)
 | 0=>by
  have pos:=hv.pos
  refine⟨by simp[bfs,N3],by simpa[bfs,N3]using pos,rfl,fun i t s e=>?_⟩
  cases i with
  | zero=>cases e;exact .inl ⟨rfl,rfl,rfl⟩
  | succ i=>simp[bfs]at e
 | n+1=>by
  have ih:=b8f hv n
  show BF N (match (bfs N n)[n]? with | none=>bfs N n | some x=>_)
  cases e:(bfs N n)[n]? with
  | none=>exact ih
  | some x=>
   have hx:=ih.lt x.1 (a9h (s:=x.2) e)
   have hl:=U3 hx
   have hg:N.getD x.1 []=N[x.1]:=by simp[O4,hx]
   show BF N (a1i _ _ _ _)
   rw[hg]
   exact ih.up hv (s':=x.2) e hl _
theorem c3Y(hv:a1j N):∀(n j p:Nat) s l,j<n->(bfs N n)[j]? = some (p,s)->N[p]? = some l->∀t∈l,t∈N3 (bfs N n)
 | 0,_,_,_,_,h,_,_,_,_=>by omega
 | n+1,j,p,s,l,hj,e,hl,t,ht=>by
  obtain⟨ex,hex⟩:=b4z N n
  have bf:=b8f hv n
  by_cases q:j<(bfs N n).length
  ·have e0:=e
   rw[hex,v9 q]at e
   by_cases z:j=n
   ·subst z
    show t∈N3 (match (bfs N j)[j]? with | none=>bfs N j | some x=>_)
    rw[e]
    show t∈N3 (a1i _ p (N.getD p []) (N.getD p []).length)
    have hg:N.getD p []=l:=by simp[O4,hl]
    rw[hg]
    refine a9q _ _ _ _ _ ?_
    rw[R8];exact ht
   ·rw[hex,a2X]
    exact D8 _ (c3Y hv n j p s l (by omega) e hl t ht)
  ·-- then nothing was new
   exfalso
   have:(bfs N n)[n]? = none:=by rw[a0l];omega
   have e2:bfs N (n+1)=bfs N n:=by
    show(match (bfs N n)[n]? with | none=>bfs N n | some x=>_)=_
    rw[this]
   rw[e2,a0l.mpr (by omega)]at e
   cases e
theorem d0E(nd:(N3 L).Nodup)(h:L[i]? = some (t,s))(e:List (Nat×Stp)):gB (L++e) t=s:=by
 unfold gB
 have hf:L.find? (fun x=>x.1 == t)=some (t,s):=by
  rw[b2y]
  refine⟨by simp,L.take i,L.drop (i+1),?_,fun x hx=>?_⟩
  ·have h2:=(u6.mp h).2
   rw[<-h2,b9f,a6V]
  ·obtain⟨j,hj⟩:=v6.mp hx
   have hjl:=(gI hj)
   rw[L9]at hjl
   rw[a5s (by omega)]at hj
   simp only[b0i,beq_eq_false_iff_ne]
   intro z
   have a1:=a8v (s:=x.2) (t:=x.1) hj
   have a2:=a8v h
   rw[z]at a1
   have hil:=(gI h)
   have:=(b0h (i:=j) (j:=i) (by rw[a4x];omega) nd).mp (a1.trans a2.symm)
   omega
 rw[c6C,hf]
 rfl
end
structure DL(K:Fg)(H:Hp)(d:Addr)(L:List (Nat×Stp))(kvs:List (Key×V)):Prop where
 hd:H d=some (.dK kvs)
 nd:(N3 L).Nodup
 len:kvs.length=L.length
 at_:∀(i t:Nat) (s:Stp),L[i]? = some (t,s)->∃a,kvs[i]? = some (Sum.inl (t:Int),.ref a)/\Z6 K H a s
section
variable {K:Fg}{o:Addr}{L:List (Nat×Stp)}
theorem DL.keys(h:DL K H d L kvs):kvs.map (·.1)=(N3 L).map fun(t:Nat)=>(Sum.inl (t:Int):Key):=by
 apply a5k
 intro i
 rw[b8,b8]
 cases e:L[i]? with
 | none=>
  have h1:kvs[i]? = none:=by
   rw[a0l]at e ⊢
   have:=h.len
   omega
  have h2:(N3 L)[i]? = none:=by
   rw[a0l]at e ⊢
   rw[a4x];exact e
  rw[h1,h2];rfl
 | some x=>
  obtain⟨a,q,_⟩:=h.at_ i x.1 x.2 e
  rw[q,a8v (s:=x.2) e];rfl
theorem DL.ndk(h:DL K H d L kvs):(kvs.map (·.1)).Nodup:=by
 rw[h.keys]
 refine a6H _ (fun a b hab z=>hab ?_) h.nd
 have:=Sum.inl.inj z
 omega
theorem DL.in_(h:DL K H d L kvs)(t:Nat):(a3R kvs (Sum.inl (t:Int))).isSome=decide (t∈N3 L):=by
 by_cases ht:t∈N3 L
 ·rw[d2G ht]
  obtain⟨i,hi⟩:=v6.mp ht
  obtain⟨s,hs⟩:=b1t hi
  obtain⟨a,q,_⟩:=h.at_ i t s hs
  rw[a5H h.ndk (mI q)]
  rfl
 ·rw[d2F ht]
  cases e:a3R kvs (Sum.inl (t:Int))with
  | none=>rfl
  | some v=>
   have:=b8o e
   rw[h.keys]at this
   obtain⟨u,hu,z⟩:=C8.mp this
   have:=Sum.inl.inj z
   have:u=t:=by omega
   exact absurd (this ▸ hu) ht
theorem DL.get(h:DL K H d L kvs){t:Nat}(hi:L[i]? = some (t,s)):∃a,a3u H d (.int (t:Int)) (some (.ref a))/\Z6 K H a s:=by
 obtain⟨a,q,q2⟩:=h.at_ i t s hi
 refine⟨a,?_,q2⟩
 have:=a3u.k (k:=Sum.inl (t:Int)) h.hd
 rw[a5H h.ndk (mI q)]at this
 exact this
theorem DL.notin(h:DL K H d L kvs)(t:Nat):∃o,a3u H d (.int (t:Int)) o/\o.isSome=decide (t∈N3 L):=⟨_,a3u.k (k:=Sum.inl (t:Int)) h.hd,h.in_ t⟩
theorem DL.same(h:DL K H d L kvs)(s:A0 H H'):DL K H' d L kvs:=
 ⟨s _ _ h.hd,h.nd,h.len,fun i t st e=>let⟨a,q1,q2⟩:=h.at_ i t st e; ⟨a,q1,q2.ts (A0.ts s)⟩⟩
theorem DL.add{t:Nat}(h:DL K H d L kvs)(ht:¬t∈N3 L)(ha:Z6 K H a s) :
  DL K (upd H d (.dK (a1g kvs (Sum.inl (t:Int)) (.ref a)))) d (L++[(t,s)]) (a1g kvs (Sum.inl (t:Int)) (.ref a)):=by
 have e:a1g kvs (Sum.inl (t:Int)) (.ref a)=kvs++[(Sum.inl (t:Int),.ref a)]:=by
  unfold a1g
  rw[a2s,h.in_,d2F ht,if_neg (by decide)]
 rw[e]
 have ts:L0 H (upd H d (.dK (kvs++[(Sum.inl (t:Int),.ref a)]))):=fun b xs q=>by rw[j7 (S8 q h.hd (by intro z;cases z))];exact q
 refine⟨d8,?_,by simp[h.len],fun i u st hu=>?_⟩
 ·rw[a2X,a0W]
  refine⟨h.nd,by simp[N3],fun x hx y hy=>?_⟩
  have:y=t:=by simpa[N3]using hy
  rw[this]
  exact fun z=>ht (z ▸ hx)
 ·rcases W8 hu with ⟨hi,g⟩ | ⟨hi,g⟩
  ·obtain⟨a',q1,q2⟩:=h.at_ i u st g
   exact⟨a',by rw[v9 (gI q1)];exact q1,q2.ts ts⟩
  ·cases g
   refine⟨a,?_,ha.ts ts⟩
   rw[hi,<-h.len];simp
structure DLI(K:Fg)(H0 H:Hp)(d o:Addr)(L:List (Nat×Stp))(kvs:List (Key×V)):Prop where
 dl:DL K H d L kvs
 same:A0 H0 H
 ho:H o=some (.lst (IL (N3 L)))
 fr:H0 d=none/\H0 o=none
theorem DLI.next(h:DLI K H0 H d o L kvs)(s:A0 H H'):DLI K H0 H' d o L kvs:=⟨h.dl.same s,h.same.trans s,s _ _ h.ho,h.fr⟩
theorem c6j{a b e f g p q t:Nat}(ha:σ[a]? = some (some (.int (t:Int))))(hb:σ[b]? = some (some (.ref d)))(he:σ[e]? = some (some (.int (p:Int))))(hf:σ[f]? = some (some (.int (q:Int))))(hg:σ[g]? = some (some (.ref o)))
  (I:DLI K H0 H d o L kvs) (hL:L.length<=400) (k:∀H' kvs',DLI K H0 H' d o (a9P L t ((p:Int),(q:Int))) kvs'->D.nx σ H') :
  O8 (tB (a1C (c8 a) (c8 b))) (A4 (a3G (c8 b) (c8 a) (a2E (b9 (c8 e) (b9 (c8 f) (j3))))) (Y7 (tBM K "list" U7 (c8 g) (b9 (c8 a) (j3))))) (F0) D σ H:=by
 exact_mod_cast c9N ?_
 exact_mod_cast c9G ?_
 exact_mod_cast a3k ?_
 exact_mod_cast a3D ha ?_
 exact_mod_cast a3D hb ?_
 obtain⟨o',g1,g2⟩:=I.dl.notin t
 refine⟨d,o',rfl,g1,?_⟩
 rw[g2]
 refine⟨_,rfl,?_⟩
 unfold a9P at k
 by_cases hts:t∈N3 L
 ·refine C7 (by rw[d2G hts];rfl) ?_
  exact_mod_cast c2o ?_
  rw[if_pos hts]at k
  exact k H kvs I
 refine K9 (by rw[d2F hts];rfl) ?_
 rw[if_neg hts]at k
 exact_mod_cast X5 ?_
 exact_mod_cast a8R ?_
 exact_mod_cast c6N ?_
 exact_mod_cast a8T ?_
 exact_mod_cast a3D he ?_
 exact_mod_cast a8T ?_
 exact_mod_cast a3D hf ?_
 exact_mod_cast b5v ?_
 refine E7 (by simp) fun z H1 hz e1 s1=>?_
 have I1:=I.next s1
 exact_mod_cast a3D hb ?_
 exact_mod_cast a3D ha ?_
 refine⟨d,_,rfl,a9U.k (k:=Sum.inl (t:Int)) I1.dl.hd (J8 (by rw[I.dl.len];omega)),?_⟩
 have add:=I1.dl.add (a:=z) (s:=((p:Int),(q:Int))) hts (.inl e1)
 obtain⟨kvs',hk⟩:∃kvs',kvs'=a1g kvs (Sum.inl (t:Int)) (.ref z):=⟨_,rfl⟩
 rw[<-hk]at add ⊢
 obtain⟨H2,hH2⟩:∃H2,H2=upd H1 d (.dK kvs'):=⟨_,rfl⟩
 rw[<-hH2]at add ⊢
 have nod:o≠d:=S8 I1.ho I1.dl.hd (by intro z;cases z)
 have ho2:H2 o=some (.lst (IL (N3 L))):=by rw[hH2,j7 nod];exact I1.ho
 have s2:A0 H0 H2:=fun b' o'' q'=>by rw[hH2,j7 (d6 q' I.fr.1)];exact I1.same _ _ q'
 exact_mod_cast b7j ?_
 exact_mod_cast a4O ?_
 exact_mod_cast a3D hg ?_
 refine⟨V7 ho2,?_⟩
 exact_mod_cast a8T ?_
 exact_mod_cast a3D ha ?_
 exact_mod_cast b5v ?_
 refine Y9 ho2 (J8 (by rw[R7,a4x];omega)) ?_
 have e3:IL (N3 L)++[V.int (t:Int)]=IL (N3 (L++[(t,((p:Int),(q:Int)))])):=by simp[IL,N3]
 rw[e3]
 have ts:L0 H2 (upd H2 o (.lst (IL (N3 (L++[(t,((p:Int),(q:Int)))]))))):=L0.put ho2
 exact k _ kvs' ⟨⟨by rw[j7 nod.symm];exact add.hd,add.nd,add.len,fun i u st hu=>let⟨a',q1,q2⟩:=add.at_ i u st hu; ⟨a',q1,q2.ts ts⟩⟩,fun b' o'' q'=>by rw[j7 (d6 q' I.fr.2)];exact s2 _ _ q',d8,I.fr⟩
end
theorem b9z{K:Fg}{c:Cn}{L:List (Nat×Stp)}{i0:Nat}{s0:Stp}{g:Nat->Stp}{E:XK}(ck:a2I K c)(hc:DL K H d L kvs)(bf:BF N L)(hL:L.length<=400)(hg:∀(i t:Nat) s,L[i]? = some (t,s)->g t=s)(hi0:L[i0]? = some (t0,s0))
  (k:∀w r H',H w=none->(trG g isF 1000 t0).reverse=FST::r->Fw N FST r t0->r.length<=400->E8 K H' w (trG g isF 1000 t0).reverse->A0 H H'->Q (.ref w) H'):a6o K c [.ref d,.int (t0:Int)] H Q E:=by
 refine⟨rfl,?_⟩
 unfold b5b
 nofun
 specialize b3R ?_
 obtain⟨a,g1,g2⟩:=hc.get hi0
 exists ⟨d,_,rfl,g1,?_⟩
 exists E7 (by simp) fun w H1 hw e1 s1=>?_
 have hi0l:=(gI hi0)
 have stp:∀(i t:Nat) s,L[i]? = some (t,s)->a2g N s/\U2 N s=t:=fun i t s e=>by
  rcases bf.just i t s e with ⟨_,rfl,rfl⟩ | ⟨p,q,l,rfl,h2,h3,_⟩
  ·exact⟨.inl rfl,by unfold U2;rw[if_pos rfl]⟩
  ·exact⟨.inr ⟨p,q,l,t,rfl,h2,h3⟩,a3K h2 h3⟩
 exact_mod_cast X5 ?_
 exact_mod_cast a8a ?_
 refine⟨fun m σ H2=>∃(vs:List Addr) (a:Addr) (s:Stp) (r:List Stp) (i t f:Nat),σ=[some (.ref d),some (.int (t0:Int)),some (.ref w)]/\H2 w=some (.lst ((vs++[a]).map V.ref))/\vs.length=r.length/\(∀(j:Nat) x st,(vs++[a])[j]? = some x->(r.reverse++[s])[j]? = some st->Z6 K H2 x st)/\Fw N s r t0/\L[i]? = some (t,s)/\r.length+i<=i0/\trG g isF 1000 t0=r.reverse++trG g isF f t/\i<f/\A0 H H2/\m=i,
  ⟨_,[],a,s0,[],i0,t0,1000,rfl,e1,rfl,fun j x st f1 f2=>?_,?_,hi0,by simp,rfl,by omega,s1,rfl⟩,?_⟩
 ·cases j with
  | zero=>
   cases f1
   cases f2
   exact g2.ts (A0.ts s1)
  | succ j=>simp at f1
 ·have:=stp _ _ _ hi0
  rw[<-this.2]
  exact .one this.1
 rintro m _ H2 ⟨vs,a,s,r,i,t,f,rfl,hw2,lv,at2,fw,hi,hle,tr,hf,s2,rfl⟩
 have hst:Z6 K H2 a s:=at2 vs.length a s (by simp) (by rw[lv,<-a8B];simp)
 rw[z9]at hw2
 ext
 refine F1 hw2 a6d ?_
 refine⟨_,_,_,_,rfl,rfl,hst.sq,ck.a0X H2,rfl,rfl,?_⟩
 rw[eq2]
 ext
 obtain⟨f',rfl⟩:∃f',f=f'+1:=⟨f - 1,by omega⟩
 have gt:=hg _ _ _ hi
 have tr1:trG g isF (f'+1) t=if isF s=true then [s] else s::trG g isF f' s.1.toNat:=by rw[<-gt];rfl
 rcases bf.just _ _ _ hi with ⟨_,rfl,rfl⟩ | ⟨p,q,l,rfl,h2,h3,j,s',j1,j2⟩
 ·refine C7 (by simp[FST]) ?_
  nofun
  specialize c2u ?_
  exists ⟨V7 hw2,b9T hw2 ?_⟩
  rw[<-z9]at hw2
  have st:=E8.rev (S:=r.reverse++[FST]) hw2 (by simp[lv]) at2
  rw[tr1,if_pos (show isF FST=true from rfl)]at tr
  rw[<-tr]at st
  rw[<-z9]
  refine k w r _ hw ?_ fw (by omega) st fun b o e=>by rw[j7 (d6 e hw)];exact s2 _ _ e
  rw[tr,List.reverse_append,List.reverse_reverse];rfl
 ·have nF:isF ((p:Int),(q:Int))=false:=d2F a3Y
  rw[tr1,if_neg (by rw[nF];decide)]at tr
  refine K9 (by
   have:decide ((((p:Int),(q:Int)).1,((p:Int),(q:Int)).2)=FST)=false:=d2F a3Y
   rw[this];rfl) ?_
  rcases hst with hst | ⟨z,_⟩
  rotate_left
  ·exact(a3Y z).elim
  refine⟨fun σ H3=>∃(m':Nat) (vs:List Addr) (a:Addr) (s:Stp) (r:List Stp) (i t f:Nat),σ=[some (.ref d),some (.int (t0:Int)),some (.ref w)]/\H3 w=some (.lst ((vs++[a]).map V.ref))/\vs.length=r.length/\(∀(j:Nat) x st,(vs++[a])[j]? = some x->(r.reverse++[s])[j]? = some st->Z6 K H3 x st)/\Fw N s r t0/\L[i]? = some (t,s)/\r.length+i<=i0/\trG g isF 1000 t0=r.reverse++trG g isF f t/\i<f/\A0 H H3/\m'=i/\m'<m,?_,?_⟩
  ·rintro σ' H3 ⟨m',vs,a,s,r,i',t,f,e,q1,q2,q3,q4,q5,q6,q7,q8,q9,q10,q11⟩
   exact⟨m',q11,vs,a,s,r,i',t,f,e,q1,q2,q3,q4,q5,q6,q7,q8,q9,q10⟩
  ext
  specialize a4O ?_
  exists ⟨V7 hw2,?_⟩
  specialize b3R ?_
  exists F1 hw2 a6d ?_
  refine M7 hst (a0p _ _) ?_
  obtain⟨a',y1,y2⟩:=(hc.same s2).get j2
  exists ⟨d,_,rfl,y1,?_⟩
  refine Y9 hw2 (J8 (by rw[g8,a9];simp;omega)) ?_
  have hw2':H2 w=some (.lst ((vs++[a]).map V.ref)):=by rw[z9];exact hw2
  have sn:=b0J (S:=r.reverse++[((p:Int),(q:Int))]) hw2' (by simp[lv]) at2 y2
  obtain⟨vs',z1,z2,z3⟩:=sn.ex
  have ev:vs'=(vs++[a])++[a']:=by
   rw[d8]at z1
   exact(O7 (f:=V.ref) (fun a b h=>V.ref.inj h) |>.mp (HO.lst.inj (Option.some.inj z1))).symm
  subst ev
  have ew:vs.map V.ref++List.map V.ref [a]++[V.ref a']=((vs++[a])++[a']).map V.ref:=by simp
  rw[ew]
  have hs':=stp _ _ _ j2
  refine⟨_,vs++[a],a',s',((p:Int),(q:Int))::r,j,p,f',rfl,d8,by simp[lv],fun j x st f1 f2=>?_,.cons hs'.1 ?_ fw,j2,by rw[A2];omega,?_,by omega,fun b o e=>by rw[j7 (d6 e hw)];exact s2 _ _ e,rfl,j1⟩
  ·refine z3 j x st f1 ?_
   rw[a5j]at f2
   exact f2
  ·rw[hs'.2]
  ·rw[tr,a5j,V2]
   show _++((p:Int),(q:Int))::trG g isF f' (p:Int).toNat=_
   rw[o4];rfl
theorem b9t{K:Fg}{c:Cn}{x:Addr}{E:XK}(ck:a2I K c)(hp:b6A c H x N)(hv:a1j N)(ht0:t0<N.length)
  (k:∀w r H',H w=none->c6J N t0=FST::r->Fw N FST r t0->r.length<=400->E8 K H' w (c6J N t0)->A0 H H'->Q (.ref w) H'):a6l K c [.ref x,.int (t0:Int)] H Q E:=by
 have h400:=hv.le
 obtain⟨dx,fs,n,hx,hfn,hn⟩:=id hp
 refine⟨rfl,?_⟩
 unfold b4Y
 nofun
 exists d0G (K:=K) fun d H1 hd1 e1 s1=>?_
 nofun
 exists E7 (by simp) fun o H2 ho e2 s2=>?_
 have I2:DLI K H H2 d o (bfs N 0) [(Sum.inl 0,.ref c.V9)]:=⟨⟨s2 _ _ e1,by simp[bfs,N3],rfl,fun i t s e=>by
  cases i with
  | zero=>cases e;exact⟨_,rfl,.inr ⟨rfl,ck.a0X⟩⟩
  | succ i=>simp[bfs]at e⟩,s1.trans s2,e2,hd1,s1.free ho⟩
 nofun
 exact_mod_cast X5 ?_
 exact_mod_cast a8a ?_
 refine⟨fun m σ H4=>∃(y5 y6 y7:Option V) (kvs:List (Key×V)) (dn:Nat),σ=[some (.ref x),some (.int (t0:Int)),some (.ref d),some (.ref o),some (.int (dn:Int)),y5,y6,y7]/\DLI K H H4 d o (bfs N dn) kvs/\dn<=(bfs N dn).length/\m=N.length - dn,
  ⟨_,_,_,_,_,0,rfl,I2,by omega,rfl⟩,?_⟩
 rintro m _ H4 ⟨y5,y6,y7,kvs,dn,rfl,I4,hdn,rfl⟩
 have bf:=b8f hv dn
 have hSl:(bfs N dn).length<=N.length:=by rw[<-a4x];exact a4v _ _ bf.nd bf.lt
 ext
 specialize a3k ?_
 obtain⟨o',g1,g2⟩:=I4.dl.notin t0
 refine⟨d,o',rfl,g1,?_⟩
 rw[g2]
 ext
 by_cases hin:t0∈N3 (bfs N dn)
 ·exists C7 (by rw[d2G hin];rfl) ?_
  obtain⟨i0,hi0⟩:=v6.mp hin
  obtain⟨s0,hs0⟩:=b1t hi0
  obtain⟨ex,hex⟩:=b9a N dn (N.length - dn)
  rw[show dn+(N.length - dn)=N.length by omega]at hex
  refine b9z (g:=gB (bfs N N.length)) ck I4.dl bf (by omega) (fun i t s e=>by rw[hex];exact d0E bf.nd e ex) hs0 fun w r H5 hw er fw lr st s5=>?_
  exact k w r H5 (I4.same.free hw) er fw lr st (I4.same.trans s5)
 ·refine K9 (by rw[d2F hin];rfl) ?_
  have hlt:dn<(bfs N dn).length:=by
   refine Classical.byContradiction fun hno=>hin ?_
   have cl:∀z,Rc N z->z∈N3 (bfs N dn):=by
    intro z h
    induction h with
    | zero=>exact a9h bf.z
    | @step a t l _ hl ht ih=>
     obtain⟨j,hj⟩:=v6.mp ih
     obtain⟨s,hs⟩:=b1t hj
     have:=(gI hs)
     exact c3Y hv dn j a s l (by omega) hs hl t ht
   exact cl t0 (hv.rc t0 ht0)
  obtain⟨p,hpS⟩:∃p,(bfs N dn)[dn]? = some p:=⟨_,d4 hlt⟩
  have hpn:=bf.lt p.1 (a9h (s:=p.2) hpS)
  refine⟨fun σ H5=>∃(m':Nat) (y5 y6 y7:Option V) (kvs:List (Key×V)) (dn':Nat),σ=[some (.ref x),some (.int (t0:Int)),some (.ref d),some (.ref o),some (.int (dn':Int)),y5,y6,y7]/\DLI K H H5 d o (bfs N dn') kvs/\dn'<=(bfs N dn').length/\m'=N.length - dn'/\m'<N.length - dn,?_,?_⟩
  ·rintro σ' H5 ⟨m',y5,y6,y7,kvs,dn',e,r1,r2,r3,r4⟩
   exact⟨m',r4,y5,y6,y7,kvs,dn',e,r1,r2,r3⟩
  nofun
  exists F1 I4.ho (c4e (a8v (s:=p.2) hpS)) ?_
  exact_mod_cast X5 ?_
  specialize c6O rfl ?_
  have e1:(dn:Int)+1=((dn+1:Nat):Int):=by omega
  rw[e1]
  specialize a0E (a8d ?_)
  specialize a1V ?_
  exists ⟨x,_,dx,fs,_,rfl,I4.same _ _ hx,ck.L3,ck.L7,hfn,?_⟩
  obtain⟨l,hle⟩:∃l,l=N[p.1]:=⟨_,rfl⟩
  have hl:N[p.1]? = some l:=by rw[hle];exact U3 hpn
  have hgd:N.getD p.1 []=l:=by simp[O4,hl]
  obtain⟨xs,y,f1,f2,f3,_⟩:=hn.at hl
  exists F1 (I4.same _ _ f1) f2 ?_
  refine⟨y,rfl,⟨_,SqL.of (I4.same _ _ f3)⟩,?_⟩
  refine b8Q l.length (fun i σ H'=>∃y6 y7 kvs',σ=[some (.ref x),some (.int (t0:Int)),some (.ref d),some (.ref o),some (.int ((dn+1:Nat):Int)),some (.int (p.1:Int)),y6,y7]/\DLI K H H' d o (a1i (bfs N dn) p.1 l i) kvs') ?_ ?_ ?_ ?_
  ·exact⟨_,_,kvs,rfl,I4⟩
  ·rintro _ H' ⟨y6,y7,kvs',rfl,I'⟩
   have eb:a1i (bfs N dn) p.1 l l.length=bfs N (dn+1):=by rw[b6t hpS,hgd]
   rw[eb]at I'
   refine⟨⟨_,SqL.of (I'.same _ _ f3),by rw[R7];exact j6 _⟩,_,_,_,_,kvs',dn+1,rfl,I',?_,rfl,by omega⟩
   obtain⟨ex,hex⟩:=b4z N dn
   rw[hex,g8];omega
  ·rintro i _ H' hi ⟨y6,y7,kvs',rfl,I'⟩
   exact⟨_,_,SqL.of (I'.same _ _ f3),by unfold IL;rw[b8,d4 hi];rfl⟩
  ·rintro i _ H' hi ⟨y6,y7,kvs',rfl,I'⟩ v H1 ⟨pp,w,hpp,rfl,rfl,gw⟩
   obtain⟨t,ht⟩:∃t,l[i]? = some t:=⟨_,d4 hi⟩
   have gw:=gw _ (SqL.of (I'.same _ _ f3))
   unfold IL at gw
   rw[b8,ht]at gw
   cases gw
   refine a6t (SqT.of d8) ?_
   have I1:=I'.next (D0 (o:=.tup [V.int (i:Int),V.int (t:Int)]) hpp)
   have bfu:=bf.up hv (s':=p.2) hpS hl i
   have lbu:(a1i (bfs N dn) p.1 l i).length<=N.length:=by rw[<-a4x];exact a4v _ _ bfu.nd bfu.lt
   refine c6j (p:=p.1) (q:=i) (t:=t) rfl rfl rfl rfl rfl I1 (by omega) fun H2 kvs2 I2=>?_
   refine⟨_,_,kvs2,rfl,?_⟩
   have eu:a1i (bfs N dn) p.1 l (i+1)=a9P (a1i (bfs N dn) p.1 l i) t ((p.1:Int),(i:Int)):=by rw[a1i,ht]
   rw[eu]
   exact I2
theorem Fw.on{r:List Stp}{t:Nat}(h:Fw N s r t):On N (U2 N s) r t:=by
 induction h with
 | one _=>exact .nil
 | @cons s s' r t h e1 h' ih=>
  have is:a2g N s':=by cases h' with
   | one h=>exact h
   | cons h _ _=>exact h
  rcases is with rfl | ⟨p,q,l,u,rfl,h1,h2⟩
  ·have e1:(-1:Int)=_:=e1
   omega
  ·have e1:(p:Int)=(U2 N s:Int):=e1
   have:U2 N s=p:=by omega
   rw[a3K h1 h2]at ih
   rw[this]
   exact .cons h1 h2 ih
theorem b2Q(n:Nat){K:Fg}{S:List Stp}(ha:E8 K H a S)(hb:E8 K H b S):Dq K H (n+2) (.ref a) (.ref b):=by
 obtain⟨vs,v1,v2,v3⟩:=ha.ex
 obtain⟨us,u1,u2,u3⟩:=hb.ex
 refine .lst (SqL.of v1) (SqL.of u1) (by simp[v2,u2]) fun j x y f1 f2=>?_
 rw[b8]at f1 f2
 cases e1:vs[j]? with
 | none=>rw[e1]at f1;cases f1
 | some v=>
  cases e2:us[j]? with
  | none=>rw[e2]at f2;cases f2
  | some u=>
   rw[e1]at f1
   rw[e2]at f2
   cases f1
   cases f2
   obtain⟨s,hs⟩:∃s,S[j]? = some s:=⟨_,d4 (by have:=(gI e1);omega)⟩
   refine .tup (v3 j v s e1 hs).sq (u3 j u s e2 hs).sq rfl fun i x y g1 g2=>?_
   rw[g1]at g2
   cases g2
   rcases i with _ | _ | i
   ·cases g1;exact .flat rfl
   ·cases g1;exact .flat rfl
   ·simp at g1
section
variable {K:Fg}{c:Cn}{x:Addr}{S:List Stp}{D:Nat->Option (List Key)}{E:XK}
theorem b1b(ck:a2I K c)(hz:a6T c H x N rs)(hw:E8 K H w S)(his:∀s∈S,a2g N s)(lS:S.length<=1000)
  (k:∀D H',H D=none->H' D=some (.lst (IL (S.map (U2 N))))->A0 H H'->Q (.ref D) H'):a1D K c [.ref x,.ref w] H Q E:=by
 obtain⟨dx,r,n,e,p1,_⟩:=id hz.ex
 obtain⟨vs,v1,v2,v3⟩:=hw.ex
 refine⟨rfl,?_⟩
 unfold a9A
 ext
 specialize Z9 (W9 ?_)
 refine⟨w,rfl,⟨_,SqL.of v1⟩,fun T hT=>?_⟩
 refine Z0 (xs:=vs.map V.ref) (fun i ys H2=>ys=IL ((S.take i).map (U2 N))/\H2 T=some (.lst ys)/\A0 H H2) ⟨rfl,d8,D0 hT⟩ ?_ ?_ ?_ ?_
 ·rintro i ys H2 ⟨_,h,_⟩
  exact h
 ·rintro i ys H2 _ ⟨_,_,s2⟩
  exact SqL.of (s2 _ _ v1)
 ·rintro i v ys H2 hv ⟨rfl,hT2,s2⟩ R hR
  rw[b8]at hv
  obtain⟨p,hp,rfl⟩:=l9.mp hv
  have hi:=(gI hp)
  obtain⟨s,hs⟩:∃s,S[i]? = some s:=⟨_,d4 (by omega)⟩
  ext
  specialize a1G ?_
  exists ⟨x,dx,_,rfl,s2 _ _ p1,a2c r n e _ (by decide),?_⟩
  refine a2x ck (hz.same s2).px ((v3 i p s hp hs).ts (A0.ts s2)) (his s (mI hs)) ?_
  refine hR _ _ hT2 (J8 (by rw[R7,a9,L9];omega)) ⟨?_,d8,fun b o e=>by rw[j7 (d6 e hT)];exact s2 _ _ e⟩
  rw[O2,hs,z9]
  unfold IL
  rw[z9];rfl
 rintro ys H2 ⟨rfl,hT2,s2⟩
 rw[a9,v2,R8]at hT2
 exact k T H2 hT hT2 s2
end
theorem c6l{K:Fg}(h:a6U H p)(n:Nat):Dq K H (n+1) (.ref p) (.ref p):=by
 obtain⟨kd,v1,v2,g,o1,o2,_⟩:=h
 refine .tup (SqT.of g) (SqT.of g) rfl fun j x y e1 e2=>?_
 rw[e1]at e2
 cases e2
 have m:=mI e1
 simp only[j4,v8,or_false]at m
 rcases m with rfl | rfl | rfl
 ·exact .flat rfl
 ·exact .flat o1.flat
 ·exact .flat o2.flat
theorem c7B{K:Fg}{x:Addr}{b:Bool}(h:a9T H (.ref x) b):Dq K H 2 (.ref x) (.ref x):=by
 obtain⟨p,xs,ep,hp,rS,_⟩:=h
 cases ep
 refine .tup (SqT.of hp) (SqT.of hp) rfl fun j u v e1 e2=>?_
 rw[e1]at e2
 cases e2
 have m:=mI e1
 cases rS with
 | set n p2 nm d2=>
  simp only[j4,v8,or_false]at m
  rcases m with rfl | rfl | rfl
  ·exact .flat rfl
  ·exact .flat rfl
  ·exact c6l d2 0
 | copy n w nm o=>
  simp only[j4,v8,or_false]at m
  rcases m with rfl | rfl | rfl
  ·exact .flat rfl
  ·exact .flat rfl
  ·exact .flat o.flat
 | take n nm=>
  simp only[j4,v8,or_false]at m
  rcases m with rfl | rfl <;> exact .flat rfl
 | tell w o=>
  simp only[j4,v8,or_false]at m
  rcases m with rfl | rfl
  ·exact .flat rfl
  ·exact .flat o.flat
 | ask w o=>
  simp only[j4,v8,or_false]at m
  rcases m with rfl | rfl
  ·exact .flat rfl
  ·exact .flat o.flat
 | skip=>
  simp only[j4,v8,or_false]at m
  rw[m];exact .flat rfl
theorem a6O{K:Fg}{c:Cn}{x:Addr}{E:XK}(ck:a2I K c)(hp:a2f K c H x N)(hv:a1j N)(k:∀a H',H a=none->E8 K H' a (Z8 N)->A0 H H'->Q (.ref a) H'):a1f K c [.ref x] H Q E:=by
 obtain⟨dx,fs,n,hx,hf,hn⟩:=hp.x
 refine⟨rfl,?_⟩
 unfold a7Q
 ext
 specialize a1V ?_
 exists ⟨x,_,dx,fs,_,rfl,hx,ck.L3,ck.L7,hf,?_⟩
 exact a9E ck hn hv.le hv.two k
section
theorem b2Y:∀(l:List Str) (p:Str),b3q p l=true->(p::l).Pairwise (fun a b=>a.cps.toList<=b.cps.toList)
 | [],p,_=>by simp
 | x::r,p,h=>by
  have h:(!PySem.Spec.ltCps x.cps.toList p.cps.toList&&b3q x r)=true:=h
  rw[Z7,PyProof.Rows.ltCps_eq,b0i,decide_eq_false_iff_not]at h
  have ih:=b2Y r x h.2
  have px:p.cps.toList<=x.cps.toList:=h.1
  refine c4n.mpr ⟨fun y hy=>?_,ih⟩
  rcases j4.mp hy with rfl | hy
  ·exact px
  ·exact List.le_trans px (List.rel_of_pairwise_cons ih hy)
theorem b2R:∀(l:List Str),Q2 l=true->l.Pairwise (fun a b=>a.cps.toList<=b.cps.toList)
 | [],_=>b4L
 | x::r,h=>b2Y r x h
theorem b5j{a b:List Str}(ha:Q2 a=true)(hb:Q2 b=true)(p:a.Perm b):a=b:=by
 refine p.eq_of_pairwise (le:=fun a b:Str=>a.cps.toList<=b.cps.toList) (fun x y _ _ h1 h2=>?_) (b2R a ha) (b2R b hb)
 have:=List.le_antisymm h1 h2
 obtain⟨⟨l⟩⟩:=x
 obtain⟨⟨m⟩⟩:=y
 have e:l=m:=this
 rw[e]
theorem c5N{a b:List Str}(ha:a.Nodup)(hb:b.Nodup)(h:∀x,x∈a↔x∈b):a.Perm b:=(List.perm_ext_iff_of_nodup ha hb).mpr h
theorem c3C(k:List Key):(k.map kV).all V4=true:=by
 rw[P9]
 intro v hv
 obtain⟨a,_,rfl⟩:=C8.mp hv
 cases a <;> rfl
end
section
variable {K:Fg}{c:Cn}{q x:Addr}{w:Rw}{W:Nat->Rw}{D:Nat->Option (List Key)}{s:Str}{E:XK}
theorem b7O{bs:List Addr}(h:a9L H bs ks)(t:L0 H H'):a9L H' bs ks:=⟨h.1,fun i b k a e=>t _ _ (h.2 i b k a e)⟩
theorem b7N{α:Type}(f:α->List Str)(h:∀a,(f a).length<=2):∀l:List α,(l.flatMap f).length<=2 * l.length
 | []=>j6 _
 | a::r=>by
  rw[List.flatMap_cons,g8,A2]
  have:=h a
  have:=b7N f h r
  omega
theorem c3s(l24:rs.length<=24)(l3:ps.length<=3)(hr:a6R H rs RC)(hw:∀(i:Nat) p,rs[i]? = some p->RwS H (RC i) (W i))(hi:∀x∈rs,a8z ps H (.ref x))(ds:List Str)(nd:ds.Nodup)(hd:∀s∈ds,∃i,i<rs.length/\s∈nmW (W i)):ds.length<64:=by
 obtain⟨own,hown⟩:∃own:Nat->List Str,own=fun i=>match W i with | .set n _ _ _=>[n] | w=>nmW w:=⟨_,rfl⟩
 obtain⟨dn,hdn⟩:∃dn:Addr->List Str,dn=fun p=>match H p with | some (.tup [_,a,b])=>a5t a++a5t b | _=>[]:=⟨_,rfl⟩
 have lo:∀i,(own i).length<=2:=fun i=>by
  rw[hown]
  dsimp only
  cases W i with
  | set n k a b=>show 1<=2;omega
  | copy n v=>have:=a5M (v:=v);show(a5t v++[n]).length<=2;rw[g8];simp;omega
  | take n=>show 1<=2;omega
  | tell v=>have:=a5M (v:=v);show(a5t v++[]).length<=2;rw[g8];simp;omega
  | ask v=>have:=a5M (v:=v);show(a5t v++[]).length<=2;rw[g8];simp;omega
  | skip=>show 0<=2;omega
 have ld:∀p,(dn p).length<=2:=fun p=>by
  rw[hdn]
  dsimp only
  split
  ·rename_i a b _
   have:=a5M (v:=a)
   have:=a5M (v:=b)
   rw[g8];omega
  ·exact L6 _
 have sub:∀s∈ds,s∈(J2 rs.length).flatMap own++ps.flatMap dn:=fun s hs=>by
  obtain⟨i,hi',hm⟩:=hd s hs
  obtain⟨p,hp⟩:∃p,rs[i]? = some p:=⟨_,d4 hi'⟩
  rw[t5,a5w,a5w]
  have rW:=hw i p hp
  have rC:=(hr i p hp).1
  cases hw':W i with
  | set n kd a b=>
   rw[hw']at hm rW
   obtain⟨q,ex,hq,_⟩:=rW
   rcases t5.mp hm with z | z
   ·refine .inr ⟨q,?_,?_⟩
    ·obtain⟨p',xs',e1,e2,e3⟩:=hi p (mI hp)
     cases e1
     rw[rC]at e2
     cases e2
     exact e3 _ _ ex
    ·rw[hdn]
     dsimp only
     rw[hq]
     exact z
   ·refine .inl ⟨i,U9.mpr hi',?_⟩
    rw[hown]
    dsimp only
    rw[hw']
    exact z
  | _=>
   refine .inl ⟨i,U9.mpr hi',?_⟩
   rw[hown]
   dsimp only
   rw[hw']
   rw[hw']at hm
   exact hm
 have:=b8H ds _ nd sub
 have:=b7N own lo (J2 rs.length)
 have:=b7N dn ld ps
 rw[g8]at *
 rw[a2q]at *
 omega
theorem c4K(hR:U5 H ra N)(hra:H ra=some (.lst (rs.map V.ref))):∃(RC:Nat->List V) (W:Nat->Rw) (D:Nat->Option (List Key)),a6R H rs RC/\(∀(i:Nat) p,rs[i]? = some p->RwS H (RC i) (W i))/\b1J H rs D:=by
 obtain⟨RC,hr⟩:=c2x hR hra
 have ex:∀i:Nat,∃w:Rw,∀p,rs[i]? = some p->RwS H (RC i) w:=fun i=>by
  cases e:rs[i]? with
  | none=>exact⟨.skip,fun p z=>nomatch z⟩
  | some p=>
   obtain⟨w,hw⟩:=(hr i p e).2.rw
   exact⟨w,fun _ _=>hw⟩
 obtain⟨W,hW⟩:=Classical.axiomOfChoice ex
 obtain⟨D,hD⟩:=b1J.ex hR hra
 exact⟨RC,W,D,hr,hW,hD⟩
end
structure Rwd(H:Hp)(ra na:Addr)(N:Nt)(rs ps:List Addr):Prop where
 r:U5 H ra N
 n:K7 H na N
 ra:H ra=some (.lst (rs.map V.ref))
 i:∀x∈rs,a8z ps H (.ref x)
theorem Rwd.kept(h:Rwd H ra na N rs ps)(hB:Bag H b d)(hv:a1j N)(k:G0 b H H'):Rwd H' ra na N rs ps:=⟨h.r.kept hB k,h.n.kept hB hv.two k,k.1 _ _ h.ra (a2m hB h.ra),fun x hx=>(h.i x hx).ts (k.ts hB)⟩
theorem c7z(h:Rwd H ra na N rs ps)(l24:N.length<=24)(l3:ps.length<=3):∃(RC:Nat->List V) (W:Nat->Rw) (D:Nat->Option (List Key)),a6R H rs RC/\(∀(i:Nat) p,rs[i]? = some p->RwS H (RC i) (W i))/\b1J H rs D/\∀ds:List Str,ds.Nodup->(∀s∈ds,∃i,i<rs.length/\s∈nmW (W i))->ds.length<64:=by
 obtain⟨RC,W,D,h1,h2,h3⟩:=c4K h.r h.ra
 obtain⟨rs',q1,q2,_⟩:=h.r.ex
 rw[h.ra]at q1
 have:=congrArg c1l (HO.lst.inj (Option.some.inj q1))
 rw[a9,a9]at this
 exact⟨RC,W,D,h1,h2,h3,c3s (by omega) l3 h1 h2 h.i⟩
def Frm(Z:Addr->Prop)(H H':Hp):Prop:=∀a o,H a=some o->(∀xs,o=.lst xs->¬Z a)->H' a=some o
section
variable {K:Fg}{c:Cn}{Z':Addr->Prop}{H'':Hp}{q x z:Addr}{W:Nat->Rw}{D:Nat->Option (List Key)}{S:List Stp}{tn:List Str}{E:XK}
theorem E8.off{wl:Addr}(h:E8 K H wl S)(n:wl≠a)(t:L0 H (upd H a o)):E8 K (upd H a o) wl S:=by
 obtain⟨ps,h1,h2,h3⟩:=h.ex
 exact⟨ps,by rw[j7 n];exact h1,h2,fun i p s a c=>(h3 i p s a c).ts t⟩
theorem Frm.ts(f:Frm Z H H'):L0 H H':=fun b xs e=>f b _ e fun _ z=>nomatch z
theorem Frm.lst{xs:List V}(f:Frm Z H H')(h:H a=some (.lst xs))(n:¬Z a):H' a=some (.lst xs):=f a _ h fun _ _=>n
theorem Frm.of_same(s:A0 H H'):Frm Z H H':=fun a o e _=>s a o e
theorem Frm.put(hz:Z z)(h:H z=some (.lst xs)):Frm Z H (upd H z (.lst ys)):=fun a o e n=>by
 rw[j7]
 ·exact e
 ·intro q
  rw[q,h]at e
  cases e
  exact n xs rfl (q ▸ hz)
theorem Frm.weak(f:Frm Z H H')(h:∀z,Z z->Z' z):Frm Z' H H':=fun a o e n=>f a o e fun xs q z=>n xs q (h a z)
theorem Frm.trans(f:Frm Z H H')(g:Frm Z H' H''):Frm Z H H'':=fun a o e n=>g a o (f a o e n) n
theorem Frm.of_kept(hB:Bag H b d)(k:G0 b H H')(hz:Z b):Frm Z H H':=fun a o e n=>by
 by_cases q:a=b
 ·obtain⟨xs,hb⟩:=hB.lst
  rw[q,hb]at e
  cases e
  exact absurd (q ▸ hz) (n xs rfl)
 ·exact k.1 _ _ e q
theorem E8.fr(h:E8 K H a S)(n:¬Z a)(f:Frm Z H H'):E8 K H' a S:=let⟨vs,h1,h2,h3⟩:=h.ex; ⟨vs,f.lst h1 n,h2,fun i x s e1 e2=>(h3 i x s e1 e2).ts f.ts⟩
theorem a6S.fr(h:a6S K c Z rs H x N)(f:Frm Z H H'):a6S K c Z rs H' x N:=by
 obtain⟨dx,r,n,e,es,ns,h1,⟨h2,h2r⟩,h3,h4,h5,h6,h7,h8,h9⟩:=h.ex
 have nr:¬Z r:=fun q=>(h9 r q).1 rfl
 refine⟨dx,r,n,e,es,ns,(f _ _ h1 fun _ z=>nomatch z),⟨?_,f.lst h2r nr⟩,f.lst h3 fun q=>(h9 n q).2.1 rfl,h4,fun i y l a b=>f.lst (h5 i y l a b) fun q=>(h9 y q).2.2.2.1 (mI a),f.lst h6 fun q=>(h9 e q).2.2.1 rfl,h7,fun t y q=>(h8 t y q).fr (fun u=>(h9 y u).2.2.2.2 (mI q)) f,h9⟩
 obtain⟨rs',r1,r2,r3⟩:=h2.ex
 exact⟨rs',f.lst r1 nr,r2,fun i y l a b=>(r3 i y l a b).ts f.ts⟩
structure PlN(K:Fg)(c:Cn)(Z:Addr->Prop)(H:Hp)(x:Addr)(N:Nt)(rs:List Addr)(RC:Nat->List V)(W:Nat->Rw)(D:Nat->Option (List Key)):Prop where
 pz:a6S K c Z rs H x N
 rc:a6R H rs RC
 rw:∀(i:Nat) p,rs[i]? = some p->RwS H (RC i) (W i)
 dk:b1J H rs D
 bd:∀ds:List Str,ds.Nodup->(∀s∈ds,∃i,i<rs.length/\s∈nmW (W i))->ds.length<64
theorem PlN.fr(h:PlN K c Z H x N rs RC W D)(f:Frm Z H H'):PlN K c Z H' x N rs RC W D:=⟨h.pz.fr f,h.rc.ts f.ts,fun i p e=>(h.rw i p e).ts f.ts,h.dk.ts f.ts,h.bd⟩
theorem PlN.same(h:PlN K c Z H x N rs RC W D)(s:A0 H H'):PlN K c Z H' x N rs RC W D:=h.fr (Frm.of_same s)
structure a7x(K:Fg)(Z:Addr->Prop)(H:Hp)(l:Addr)(N:Nt)(ks:List (List Key))(tn:List Str):Prop where
 ex:∃(a0 a1 a2 a3 a4 a5:Addr) (as bs:List Addr),H l=some (.lst [.ref a0,.ref a1,.ref a2,.ref a3,.ref a4,.ref a5])/\E8 K H a0 (Z8 N)/\(H a1=some (.lst (as.map V.ref))/\as.length=N.length/\∀(i:Nat) a,as[i]? = some a->E8 K H a (b3g N i)) /\
  H a2=some (.lst (IL ((Z8 N).map (U2 N))))/\H a3=some (.lst (IL (a0w N)))/\(H a4=some (.lst (bs.map V.ref))/\a9L H bs ks)/\H a5=some (.lst (tn.map V.str))/\∀z,Z z->z≠l/\z∉[a0,a1,a2,a3,a4,a5]/\z∉as
theorem a7x.fr(h:a7x K Z H l N ks tn)(f:Frm Z H H'):a7x K Z H' l N ks tn:=by
 obtain⟨a0,a1,a2,a3,a4,a5,as,bs,h1,h2,⟨h3,h3l,h3a⟩,h4,h5,⟨h6,h6k⟩,h7,h8⟩:=h.ex
 have nm:∀a∈[a0,a1,a2,a3,a4,a5],¬Z a:=fun a ha q=>(h8 a q).2.1 ha
 exact⟨a0,a1,a2,a3,a4,a5,as,bs,f.lst h1 fun q=>(h8 l q).1 rfl,h2.fr (nm a0 (by simp)) f,⟨f.lst h3 (nm a1 (by simp)),h3l,fun i a e=>(h3a i a e).fr (fun q=>(h8 a q).2.2 (mI e)) f⟩,f.lst h4 (nm a2 (by simp)),f.lst h5 (nm a3 (by simp)),⟨f.lst h6 (nm a4 (by simp)),b7O h6k f.ts⟩,f.lst h7 (nm a5 (by simp)),h8⟩
theorem a7x.weak(h:a7x K Z' H l N ks tn)(hz:∀z,Z z->Z' z):a7x K Z H l N ks tn:=let⟨a0,a1,a2,a3,a4,a5,as,bs,h1,h2,h3,h4,h5,h6,h7,h8⟩:=h.ex; ⟨a0,a1,a2,a3,a4,a5,as,bs,h1,h2,h3,h4,h5,h6,h7,fun z q=>h8 z (hz z q)⟩
theorem PlN.weak(h:PlN K c Z' H x N rs RC W D)(hz:∀z,Z z->Z' z):PlN K c Z H x N rs RC W D:=by
 obtain⟨dx,r,n,e,es,ns,h1,h2,h3,h4,h5,h6,h7,h8,h9⟩:=h.pz.ex
 exact⟨⟨dx,r,n,e,es,ns,h1,h2,h3,h4,h5,h6,h7,h8,fun z q=>h9 z (hz z q)⟩,h.rc,h.rw,h.dk,h.bd⟩
theorem c3E(n:Nat){L:List Nat}(h1:H p=some (.lst (IL L)))(h2:H q=some (.lst (IL L))):Dq K H (n+1) (.ref p) (.ref q):=by
 refine .lst (SqL.of h1) (SqL.of h2) rfl fun i u v f1 f2=>?_
 rw[f1]at f2
 cases f2
 exact .flat (P9.mp (b4F L) u (mI f1))
theorem c3B(n:Nat){bs bs':List Addr}(h1:H p=some (.lst (bs.map V.ref)))(k1:a9L H bs ks)(h2:H q=some (.lst (bs'.map V.ref)))(k2:a9L H bs' ks):Dq K H (n+2) (.ref p) (.ref q):=by
 refine .lst (SqL.of h1) (SqL.of h2) (by rw[a9,a9,k1.1,k2.1]) fun i u v f1 f2=>?_
 rw[b8]at f1 f2
 obtain⟨a,ha,rfl⟩:=l9.mp f1
 obtain⟨b,hb,rfl⟩:=l9.mp f2
 have li:=(gI ha)
 obtain⟨k',hk'⟩:∃k',ks[i]? = some k':=⟨_,d4 (by rw[<-k1.1];exact li)⟩
 refine .tup (SqT.of (k1.2 i a k' ha hk')) (SqT.of (k2.2 i b k' hb hk')) rfl fun j u v g1 g2=>?_
 rw[g1]at g2
 cases g2
 exact .flat (P9.mp (c3C k') u (mI g1))
theorem c1W(n:Nat)(h1:H p=some (.lst (tn.map V.str)))(h2:H q=some (.lst (tn.map V.str))):Dq K H (n+1) (.ref p) (.ref q):=by
 refine .lst (SqL.of h1) (SqL.of h2) rfl fun i u v f1 f2=>?_
 rw[f1]at f2
 cases f2
 rw[b8]at f1
 obtain⟨z,_,rfl⟩:=l9.mp f1
 exact .flat rfl
theorem a7x.dq(h:a7x K Z H p N ks tn)(h':a7x K Z' H q N ks tn):Dq K H 4 (.ref p) (.ref q):=by
 obtain⟨a0,a1,a2,a3,a4,a5,as,bs,h1,h2,⟨h3,h3l,h3a⟩,h4,h5,⟨h6,h6k⟩,h7,_⟩:=h.ex
 obtain⟨b0,b1,b2,b3,b4,b5,as',bs',g1,g2,⟨g3,g3l,g3a⟩,g4,g5,⟨g6,g6k⟩,g7,_⟩:=h'.ex
 refine .lst (SqL.of h1) (SqL.of g1) rfl fun i u v f1 f2=>?_
 match i with
 | 0=>cases f1;cases f2;exact b2Q 1 h2 g2
 | 1=>
  cases f1;cases f2
  refine .lst (SqL.of h3) (SqL.of g3) (by rw[a9,a9,h3l,g3l]) fun i u v f1 f2=>?_
  rw[b8]at f1 f2
  obtain⟨a,ha,rfl⟩:=l9.mp f1
  obtain⟨b,hb,rfl⟩:=l9.mp f2
  exact b2Q 0 (h3a i a ha) (g3a i b hb)
 | 2=>cases f1;cases f2;exact c3E 2 h4 g4
 | 3=>cases f1;cases f2;exact c3E 2 h5 g5
 | 4=>cases f1;cases f2;exact c3B 1 h6 h6k g6 g6k
 | 5=>cases f1;cases f2;exact c1W 2 h7 g7
 | i+6=>cases f1
theorem b8q(ck:a2I K c)(P:PlN K c Z H x N rs RC W D)(hv:a1j N)(hZ:∀z,Z z->∃o,H z=some o)
  (k:∀l ts H',ts.Nodup->(∀s,s∈ts↔∃i,i<rs.length/\s∈nmW (W i))->Q2 ts=true->a7x K (fun z=>∃o,H z=some o) H' l N (a4w D rs.length) ts->A0 H H'->Q (.ref l) H'):a4G K c [.ref x,.int (N.length:Int)] H Q E:=by
 have h400:=hv.le
 obtain⟨dx,r,n,e,es,ns,p1,_⟩:=id P.pz.ex
 have pa:=P.pz.at
 refine⟨rfl,?_⟩
 unfold c1P
 exact_mod_cast X5 ?_
 refine b7i ?_
 specialize Z9 (a2b ?_)
 refine⟨(N.length:Int),rfl,by omega,by omega,fun L1 hL1=>?_⟩
 rw[o4]
 refine a4y (n:=N.length) (fun i ys H1=>∃as:List Addr,ys=as.map V.ref/\as.length=i/\(∀(j:Nat) a,as[j]? = some a->E8 K H1 a (b3g N j)/\H a=none/\a≠L1)/\H1 L1=some (.lst ys)/\A0 H H1) ⟨[],rfl,rfl,by simp,d8,D0 hL1⟩ ?_ ?_ ?_
 ·rintro i ys H1 ⟨_,_,_,_,h,_⟩
  exact h
 ·rintro i ys H1 hi ⟨as,rfl,la,aa,e1,s1⟩ R hR
  rw[a1p]
  ext
  specialize a1G ?_
  exists ⟨x,dx,_,rfl,s1 _ _ p1,a2c r n e _ (by decide),?_⟩
  refine a8j ck (pa.same s1) hi fun a H2 ha S2 s2=>?_
  have e2:=s2 _ _ e1
  have nL:a≠L1:=(d6 e1 ha).symm
  have t3:L0 H2 (upd H2 L1 (.lst (as.map V.ref++[.ref a]))):=L0.put e2
  refine hR _ _ e2 (J8 (by rw[a9];omega)) ⟨as++[a],by simp,by simp[la],fun j y f=>?_,d8,fun b o z=>by rw[j7 (d6 z hL1)];exact s2 _ _ (s1 _ _ z)⟩
  rcases W8 f with ⟨_,f⟩ | ⟨hj,f⟩
  ·obtain⟨g1,g2,g3⟩:=aa j y f
   exact⟨(g1.same s2).off g3 t3,g2,g3⟩
  ·subst f
   refine⟨?_,s1.free ha,nL⟩
   rw[hj,la]
   exact S2.off nL t3
 rintro _ H1 ⟨as,rfl,la,aa,e1,s1⟩
 ext
 exact_mod_cast X5 ?_
 refine b7i ?_
 specialize Z9 (W9 ?_)
 specialize a1G ?_
 exists ⟨x,dx,_,rfl,s1 _ _ p1,a2c r n e _ (by decide),?_⟩
 refine a6O ck (pa.same s1) hv fun sa H2 hsa S2 s2=>?_
 obtain⟨vs,v1,v2,v3⟩:=id S2.ex
 have lS:=b2P hv.two
 refine⟨sa,rfl,⟨_,SqL.of v1⟩,fun L2 hL2=>?_⟩
 have s02:=s1.trans s2
 refine Z0 (xs:=vs.map V.ref) (fun i ys H3=>ys=IL (((Z8 N).take i).map (U2 N))/\H3 L2=some (.lst ys)/\A0 H2 H3) ⟨rfl,d8,D0 hL2⟩ ?_ ?_ ?_ ?_
 ·rintro i ys H3 ⟨_,h,_⟩
  exact h
 ·rintro i ys H3 _ ⟨_,_,s3⟩
  exact SqL.of (s3 _ _ v1)
 ·rintro i y ys H3 hy ⟨rfl,e3,s3⟩ R hR
  rw[b8]at hy
  obtain⟨a,ha,rfl⟩:=l9.mp hy
  have hi:=(gI ha)
  obtain⟨s,hs⟩:∃s,(Z8 N)[i]? = some s:=⟨_,d4 (by omega)⟩
  have s03:=s02.trans s3
  ext
  specialize a1G ?_
  exists ⟨x,dx,_,rfl,s03 _ _ p1,a2c r n e _ (by decide),?_⟩
  refine a2x ck (pa.same s03).x ((v3 i a s ha hs).ts (A0.ts s3)) (a9k (mI hs)) ?_
  have tk:(Z8 N).take (i+1)=(Z8 N).take i++[s]:=by rw[O2,hs];rfl
  refine hR _ _ e3 (J8 (by rw[R7,a9,L9];omega)) ⟨by rw[tk,z9,b8j];rfl,d8,fun b o z=>by rw[j7 (d6 z hL2)];exact s3 _ _ z⟩
 rintro _ H3 ⟨rfl,e3,s3⟩
 rw[a9,v2,R8]at e3
 ext
 have s13:=s2.trans s3
 have s03:=s02.trans s3
 specialize a1G ?_
 exists ⟨x,dx,_,rfl,s03 _ _ p1,a2c r n e _ (by decide),?_⟩
 exists a6O ck (pa.same s03) hv fun a0 H4 h4 S4 s4=>?_
 have s04:=s03.trans s4
 specialize a1G ?_
 exists ⟨x,dx,_,rfl,s04 _ _ p1,a2c r n e _ (by decide),?_⟩
 exists a3V ck (pa.same s04) hv fun a3 H5 h5 e5 s5=>?_
 have s05:=s04.trans s5
 specialize a1G ?_
 exists ⟨x,dx,_,rfl,s05 _ _ p1,a2c r n e _ (by decide),?_⟩
 have P5:=P.same s05
 exists c3P ck P5.pz.pc h400 P5.dk fun a4 bs H6 e6 kb h6 s6=>?_
 have s06:=s05.trans s6
 specialize a1G ?_
 exists ⟨x,dx,_,rfl,s06 _ _ p1,a2c r n e _ (by decide),?_⟩
 have P6:=P.same s06
 exists b9X ck P6.pz.pc h400 P6.rc P6.rw P6.bd fun a5 ts H7 h7 e7 nd mm so s7=>?_
 refine E7 (by simp) fun l H8 h8 e8 s8=>?_
 have s78:=s7.trans s8
 have s68:=s6.trans s78
 have s58:=s5.trans s68
 have s48:=s4.trans s58
 have s18:=s13.trans s48
 refine k l ts H8 nd mm so ⟨a0,L1,L2,a3,a4,a5,as,bs,e8,S4.same s58,⟨s18 _ _ e1,la,fun i a q=>(aa i a q).1.same s18⟩,s48 _ _ e3,s68 _ _ e5,⟨s78 _ _ e6,b7O kb (A0.ts s78)⟩,s8 _ _ e7,fun z ⟨o,hz⟩=>⟨?_,?_,?_⟩⟩ (s06.trans s78)
 ·exact d6 hz ((s06.trans s7).free h8)
 ·simp only[j4,v8,or_false,not_or]
  exact⟨d6 hz (s03.free h4),d6 hz hL1,d6 hz (s02.free hL2),d6 hz (s04.free h5),d6 hz (s05.free h6),d6 hz (s06.free h7)⟩
 ·intro hm
  obtain⟨i,hi⟩:=v6.mp hm
  exact d6 hz (aa i z hi).2.1 rfl
end
section
variable {K:Fg}{c:Cn}{x:Addr}{S:List Stp}{tn:List Str}{E:XK}
theorem a9l(hte:∀R:VK,R (.ref l) H->te σ H R)(h:H l=some (.lst (as.map V.ref)))(hl:as.length<=1000)(ha:∀a∈as,∃vs,H a=some (.lst vs))
  (k:∀L cs H',H L=none->H' L=some (.lst ((cs:List Addr).map V.ref))->cs.length=as.length->(∀(j:Nat) c,cs[j]? = some c->∃a vs,as[j]? = some a/\H a=some (.lst vs)/\H' c=some (.lst vs)/\H c=none/\c≠L)->A0 H H'->Q (.ref L) H'):Y0 (X0 K te) X4 (tCB a3H (b9 (c8 0) j3)) σ H Q:=by
 exact_mod_cast Z9 (W9 ?_)
 refine hte _ ?_
 refine⟨l,rfl,⟨_,SqL.of h⟩,fun L hL=>?_⟩
 refine Z0 (xs:=as.map V.ref) (fun i ys H1=>∃cs:List Addr,ys=cs.map V.ref/\cs.length=i/\(∀(j:Nat) c,cs[j]? = some c->∃a vs,as[j]? = some a/\H a=some (.lst vs)/\H1 c=some (.lst vs)/\H c=none/\c≠L)/\H1 L=some (.lst ys)/\A0 H H1) ⟨[],rfl,rfl,by simp,d8,D0 hL⟩ ?_ ?_ ?_ ?_
 ·rintro i ys H1 ⟨_,_,_,_,h,_⟩
  exact h
 ·rintro i ys H1 _ ⟨_,_,_,_,_,s1⟩
  exact SqL.of (s1 _ _ h)
 ·rintro i y ys H1 hy ⟨cs,rfl,lc,cc,e1,s1⟩ R hR
  rw[b8]at hy
  obtain⟨a,ha',rfl⟩:=l9.mp hy
  have hi:=(gI ha')
  obtain⟨vs,hvs⟩:=ha a (mI ha')
  ext
  refine a6u (s1 _ _ hvs) fun c H2 hc e2 s2=>?_
  have nL:c≠L:=(d6 e1 hc).symm
  refine hR _ _ (s2 _ _ e1) (J8 (by rw[a9];omega)) ⟨cs++[c],by simp,by simp[lc],fun j y f=>?_,d8,fun b o z=>by rw[j7 (d6 z hL)];exact s2 _ _ (s1 _ _ z)⟩
  rcases W8 f with ⟨_,f⟩ | ⟨hj,f⟩
  ·obtain⟨a',vs',g1,g2,g3,g4,g5⟩:=cc j y f
   exact⟨a',vs',g1,g2,by rw[j7 g5];exact s2 _ _ g3,g4,g5⟩
  ·subst f
   exact⟨a,vs,by rw[hj,lc];exact ha',hvs,by rw[j7 nL];exact e2,s1.free hc,nL⟩
 rintro _ H1 ⟨cs,rfl,lc,cc,e1,s1⟩
 rw[a9]at lc
 exact k L cs H1 hL e1 lc cc s1
theorem E8.copy{vs:List V}(h:E8 K H a S)(e:H a=some (.lst vs))(e':H' w=some (.lst vs))(t:L0 H H'):E8 K H' w S:=by
 obtain⟨ps,h1,h2,h3⟩:=h.ex
 rw[h1]at e
 cases e
 exact⟨ps,e',h2,fun i p s a c=>(h3 i p s a c).ts t⟩
theorem E8.isl(h:E8 K H a S):∃vs,H a=some (.lst vs):=let⟨_,h1,_⟩:=h.ex; ⟨_,h1⟩
theorem d0A(h:n<m):ixN m (n:Int)=some n:=by
 unfold ixN
 rw[if_pos (by omega),if_pos (by omega),o4]
theorem c2B{R:Hp->Prop}(h:H p=some (.lst xs))(hn:n<xs.length)(k:R (upd H p (.lst (xs.set n v)))):a8U (.ref p) (.int (n:Int)) v H R:=by
 unfold a8U
 simp only[h]
 exact⟨n,d0A hn,k⟩
theorem c6n(T:a7x K Z H l N ks tn)(lN:N.length<=1000)(k:∀l' H',a7x K (fun z=>∃o,H z=some o) H' l' N ks tn->A0 H H'->Q (.ref l') H'):a9Y K [.ref l] H Q E:=by
 obtain⟨a0,a1,a2,a3,a4,a5,as,bs,h1,h2,⟨h3,h3l,h3a⟩,h4,h5,⟨h6,h6k⟩,h7,h8⟩:=T.ex
 refine⟨rfl,?_⟩
 unfold c1U
 exact_mod_cast X5 ?_
 refine b7i ?_
 refine a9l (l:=l) (as:=[a0,a1,a2,a3,a4,a5]) (fun R hR=>⟨_,rfl,hR⟩) h1 (by simp) ?_ fun L cs H1 hL e1 lc cc s1=>?_
 ·intro a ha
  simp only[j4,v8,or_false]at ha
  rcases ha with rfl | rfl | rfl | rfl | rfl | rfl
  ·exact h2.isl
  ·exact⟨_,h3⟩
  ·exact⟨_,h4⟩
  ·exact⟨_,h5⟩
  ·exact⟨_,h6⟩
  ·exact⟨_,h7⟩
 match cs,lc with
 | [c0,c1,c2,c3,c4,c5],_=>
  obtain⟨_,v0,z,f0,g0,n0,m0⟩:=cc 0 c0 rfl
  cases z
  obtain⟨_,v2,z,f2,g2,n2,m2⟩:=cc 2 c2 rfl
  cases z
  obtain⟨_,v3,z,f3,g3,n3,m3⟩:=cc 3 c3 rfl
  cases z
  obtain⟨_,v4,z,f4,g4,n4,m4⟩:=cc 4 c4 rfl
  cases z
  obtain⟨_,v5,z,f5,g5,n5,m5⟩:=cc 5 c5 rfl
  cases z
  ext
  exact_mod_cast X5 ?_
  refine c2v ?_
  refine a9l (l:=a1) (as:=as) ?_ (s1 _ _ h3) (by omega) ?_ fun L2 cs2 H2 hL2 e2 lc2 cc2 s2=>?_
  ·intro R hR
   ext
   exact F1 (s1 _ _ h1) (a2z _ _ _) hR
  ·intro a ha
   obtain⟨i,hi⟩:=v6.mp ha
   obtain⟨vs,hvs⟩:=(h3a i a hi).isl
   exact⟨vs,s1 _ _ hvs⟩
  exists c2r ?_
  exists c2B (n:=1) (s2 _ _ e1) (by simp) ?_
  have t3:L0 H2 (upd H2 L (.lst ([V.ref c0,.ref c1,.ref c2,.ref c3,.ref c4,.ref c5].set 1 (.ref L2)))):=L0.put (s2 _ _ e1)
  have s02:=s1.trans s2
  have t03:=(A0.ts s02).trans t3
  have nL2:L2≠L:=(d6 e1 hL2).symm
  refine k L _ ⟨c0,L2,c2,c3,c4,c5,cs2,bs,d8,h2.copy f0 (by rw[j7 m0];exact s2 _ _ g0) t03,⟨by rw[j7 nL2];exact e2,by rw[lc2,h3l],fun i a e=>?_⟩,?_,?_,⟨?_,b7O h6k t03⟩,?_,fun z ⟨o,hz⟩=>⟨d6 hz hL,?_,?_⟩⟩ fun b o e=>by rw[j7 (d6 e hL)];exact s02 _ _ e
  ·obtain⟨a',vs,q1,q2,q3,q4,q5⟩:=cc2 i a e
   have na:a≠L:=(d6 e1 q4).symm
   exact((h3a i a' q1).same s1).copy q2 (by rw[j7 na];exact q3) ((A0.ts s2).trans t3)
  ·rw[h4]at f2
   cases f2
   rw[j7 m2]
   exact s2 _ _ g2
  ·rw[h5]at f3
   cases f3
   rw[j7 m3]
   exact s2 _ _ g3
  ·rw[h6]at f4
   cases f4
   rw[j7 m4]
   exact s2 _ _ g4
  ·rw[h7]at f5
   cases f5
   rw[j7 m5]
   exact s2 _ _ g5
  ·simp only[j4,v8,or_false,not_or]
   exact⟨d6 hz n0,d6 hz (s1.free hL2),d6 hz n2,d6 hz n3,d6 hz n4,d6 hz n5⟩
  ·intro hm
   obtain⟨i,hi⟩:=v6.mp hm
   obtain⟨a',vs,q1,q2,q3,q4,q5⟩:=cc2 i z hi
   exact d6 hz (s1.free q4) rfl
end
section
variable {K:Fg}{c:Cn}{x:Addr}{S:List Stp}{e:Nat}{E:XK}
theorem b7Q(ck:a2I K c)(hp:b6A c H x N)(ha:Z6 K H a s)(hs:a2g N s)(k:Q (.bl true) H):a4H K c [.ref x,.ref a] H Q E:=by
 obtain⟨dx,fs,n,hx,hf,hn⟩:=hp
 have sq:=ha.sq
 refine⟨rfl,?_⟩
 unfold b2K
 nofun
 exists ⟨a,_,rfl,sq,?_⟩
 exists C7 rfl ?_
 exists ⟨a,_,rfl,sq,?_⟩
 exists C7 rfl ?_
 nofun
 exists ⟨a,0,_,_,rfl,rfl,sq,a0p _ _,?_⟩
 exists a2P ?_
 exists C7 rfl ?_
 exists ⟨a,1,_,_,rfl,rfl,sq,a2z _ _ _,?_⟩
 exists a2P ?_
 exists C7 rfl ?_
 nofun
 refine⟨_,_,_,_,rfl,rfl,sq,ck.a0X H,rfl,rfl,?_⟩
 rw[eq2]
 ext
 rcases hs with rfl | ⟨p,q,l,t,rfl,h1,h2⟩
 ·exists K9 (by decide) ?_
  exact k
 ·refine C7 (by
   have:decide ((((p:Int),(q:Int)).1,((p:Int),(q:Int)).2)=FST)=false:=d2F a3Y
   rw[this]) ?_
  have hpn:=(gI h1)
  have hq:=(gI h2)
  obtain⟨us,y,f1,f2,f3,f4⟩:=hn.at h1
  ext
  exists ⟨a,0,_,_,rfl,rfl,sq,a0p _ _,?_⟩
  specialize a1V ?_
  exists ⟨x,_,dx,fs,_,rfl,hx,ck.L3,ck.L7,hf,?_⟩
  refine R6 f1 ?_
  rw[f4]
  ext
  exists a5c (by omega) (by omega) ?_
  exists K9 rfl ?_
  exists ⟨a,1,_,_,rfl,rfl,sq,a2z _ _ _,?_⟩
  specialize a1V ?_
  exists ⟨x,_,dx,fs,_,rfl,hx,ck.L3,ck.L7,hf,?_⟩
  exists ⟨a,0,_,_,rfl,rfl,sq,a0p _ _,?_⟩
  exists F1 f1 f2 ?_
  refine R6 f3 ?_
  rw[R7]
  ext
  exact a5c (by omega) (by omega) k
theorem c7o{ta:TA}(h:ta σ H1 fun vs H2=>∃i j:Int,vs=[.int i,.int j]/\(-(2 ^ 62)<=i/\i<2 ^ 62 /\ -(2 ^ 62)<=j/\j<2 ^ 62)/\R (Itr i (j - i).toNat) H2):b8N ta σ H1 R:=h
theorem a8f(n:Nat):C6 n (V.bl true)=(C6 n true).map V.bl:=by simp
theorem b9d(n:Nat):(C6 n true).all id=true:=by
 induction n with
 | zero=>rfl
 | succ n ih=>rw[List.replicate_succ,a9x,ih];rfl
theorem b3f(ck:a2I K c)(hz:a2f K c H x N)(hw:E8 K H w S)(h0:S≠[])(his:∀s∈S,a2g N s)(hlk:∀(i:Nat) a b,S[i]? = some a->S[i+1]? = some b->b.1=(U2 N a:Int))(lS:S.length<=1000)(k:∀H',A0 H H'->Q (.bl true) H'):a4q K c [.ref x,.ref w] H Q E:=by
 obtain⟨dx,fs,n,hx,hf,hn⟩:=id hz.x
 obtain⟨dx2,r2,n2,e2',es,p1,_⟩:=id hz.ex
 obtain⟨vs,v1,v2,v3⟩:=hw.ex
 have l0:0<S.length:=a8C.mpr h0
 refine⟨rfl,?_⟩
 unfold b5e
 nofun
 exists a1W (s := "list") (by simp only[a1B,v1]) (by decide) ?_
 exists C7 (by decide) ?_
 refine R6 v1 ?_
 rw[a9]
 ext
 exists C7 (by rw[b3i,d2F (by omega)]) ?_
 nofun
 specialize Z9 (W9 ?_)
 refine⟨w,rfl,⟨_,SqL.of v1⟩,fun T hT=>?_⟩
 refine Z0 (xs:=vs.map V.ref) (fun i ys H2=>ys=C6 i (V.bl true)/\H2 T=some (.lst ys)/\A0 H H2) ⟨rfl,d8,D0 hT⟩ ?_ ?_ ?_ ?_
 ·rintro i ys H2 ⟨_,h,_⟩
  exact h
 ·rintro i ys H2 _ ⟨_,_,s2⟩
  exact SqL.of (s2 _ _ v1)
 ·rintro i y ys H2 hy ⟨rfl,hT2,s2⟩ R hR
  rw[b8]at hy
  obtain⟨a,ha,rfl⟩:=l9.mp hy
  have hi:=(gI ha)
  obtain⟨s,hs⟩:∃s,S[i]? = some s:=⟨_,d4 (by omega)⟩
  ext
  refine b7Q ck ⟨dx,fs,n,s2 _ _ hx,hf,hn.same s2⟩ ((v3 i a s ha hs).ts (A0.ts s2)) (his s (mI hs)) ?_
  exact hR _ _ hT2 (J8 (by rw[F2];omega)) ⟨a5I i,d8,fun b o e=>by rw[j7 (d6 e hT)];exact s2 _ _ e⟩
 rintro ys H2 ⟨rfl,hT2,s2⟩
 rw[a8f]at hT2
 ext
 refine c2D hT2 ?_
 rw[b9d]
 ext
 exists C7 rfl ?_
 specialize Z9 (c7o ?_)
 refine R6 (s2 _ _ v1) ?_
 rw[a9]
 ext
 refine⟨1,(vs.length:Int),rfl,⟨by omega,by omega,by omega,by omega⟩,fun T2 hT2'=>?_⟩
 rw[show((vs.length:Int) - 1).toNat=S.length - 1 by omega]
 refine a4y (fun i ys H3=>ys=C6 i (V.bl true)/\H3 T2=some (.lst ys)/\A0 H2 H3) ⟨rfl,d8,D0 hT2'⟩ ?_ ?_ ?_
 ·rintro i ys H3 ⟨_,h,_⟩
  exact h
 ·rintro i ys H3 hi ⟨rfl,hT3,s3⟩ R hR
  have s03:=s2.trans s3
  obtain⟨a,ha⟩:∃a,vs[i]? = some a:=⟨_,d4 (by omega)⟩
  obtain⟨b,hb⟩:∃b,vs[i+1]? = some b:=⟨_,d4 (by omega)⟩
  obtain⟨s,hs⟩:∃s,S[i]? = some s:=⟨_,d4 (by omega)⟩
  obtain⟨s',hs'⟩:∃s',S[i+1]? = some s':=⟨_,d4 (by omega)⟩
  have e1:(1:Int)+(i:Int) - 1=(i:Int):=by omega
  have e2:(1:Int)+(i:Int)=((i+1:Nat):Int):=by omega
  have lk:=hlk i s s' hs hs'
  have hb2:H b=some (.tup [.int s'.1,.int s'.2]):=by
   rcases v3 (i+1) b s' hb hs' with h | ⟨h,_⟩
   ·exact h
   ·rw[h]at lk
    have:(-1:Int)=(U2 N s:Int):=lk
    omega
  ext
  specialize a1G ?_
  exists ⟨x,dx2,_,rfl,s03 _ _ p1,a2c r2 n2 e2' _ (by decide),?_⟩
  rw[e1]
  exists F1 (s03 _ _ v1) (R5 (by rw[b8,ha];rfl)) ?_
  exists a2x ck ⟨dx,fs,n,s03 _ _ hx,hf,hn.same s03⟩ ((v3 i a s ha hs).ts (A0.ts s03)) (his s (mI hs)) ?_
  rw[e2]
  exists F1 (s03 _ _ v1) (R5 (by rw[b8,hb];rfl)) ?_
  exists M7 (s03 _ _ hb2) (a0p _ _) ?_
  rw[lk,d2G rfl]
  exact hR _ _ hT3 (J8 (by rw[F2];omega)) ⟨a5I i,d8,fun b o e=>by rw[j7 (d6 e hT2')];exact s3 _ _ e⟩
 rintro ys H3 ⟨rfl,hT3,s3⟩
 rw[a8f]at hT3
 ext
 refine c2D hT3 ?_
 rw[b9d]
 exact k H3 (s2.trans s3)
theorem b1s:U2 N FST=0:=by unfold U2;rw[if_pos rfl]
theorem c1J{r:List Stp}(on:On N 0 r e):(∀s∈FST::r,a2g N s)/\∀(i:Nat) a b,(FST::r)[i]? = some a->(FST::r)[i+1]? = some b->b.1=(U2 N a:Int):=by
 constructor
 ·intro s hs
  rcases j4.mp hs with rfl | hs
  ·exact .inl rfl
  ·exact on.isStep s hs
 ·intro i a b f1 f2
  cases i with
  | zero=>
   cases f1
   rw[b1s]
   cases r with
   | nil=>simp at f2
   | cons s0 r0=>cases f2;exact on.head _ _ rfl
  | succ i=>exact on.link i a b f1 f2
theorem b9B{r:List Stp}{ws:List Addr}(v1:vs.length=S.length)(v2:∀(i:Nat) a s,vs[i]? = some a->S[i]? = some s->Z6 K H a s)(w1:ws.length=r.length)(w2:∀(i:Nat) a s,ws[i]? = some a->r[i]? = some s->Z6 K H a s)(h:H l=some (.lst (vs.map V.ref++ws.map V.ref))):E8 K H l (S++r):=by
 refine⟨vs++ws,by rw[z9];exact h,by rw[g8,g8,v1,w1],fun i a s f1 f2=>?_⟩
 by_cases hi:i<vs.length
 ·rw[v9 hi]at f1
  rw[v9 (by omega)]at f2
  exact v2 i a s f1 f2
 ·rw[V1 (by omega)]at f1
  rw[V1 (by omega),<-v1]at f2
  exact w2 _ a s f1 f2
theorem b3y(ck:a2I K c)(hz:a2f K c H x N)(hc:a6T c H x N rs)(hv:a1j N)(k:∀H',A0 H H'->Q (.bl true) H'):a2N K c [.ref x,.int (N.length:Int)] H Q E:=by
 have h400:=hv.le
 refine⟨rfl,?_⟩
 unfold a9z
 exact_mod_cast X5 ?_
 specialize a0E (a2b ?_)
 refine⟨(N.length:Int),rfl,by omega,by omega,?_⟩
 rw[o4]
 refine a1v (fun i σ Hi=>∃y2 y3 y4 y5,σ=[some (.ref x),some (.int (N.length:Int)),y2,y3,y4,y5]/\A0 H Hi) ⟨_,_,_,_,rfl,A0.refl _⟩ ?_ ?_
 ·rintro i _ H1 hi ⟨y2,y3,y4,y5,rfl,s1⟩
  rw[a1p]
  ext
  nofun
  refine b9t ck (hz.same s1).x hv hi fun wt r H2 hwt ert fw lr S2 s2=>?_
  rw[ert]at S2
  have on:=fw.on
  rw[b1s]at on
  obtain⟨i1,i2⟩:=c1J on
  have s12:=s1.trans s2
  ext
  nofun
  exists b3f ck (hz.same s12) S2 (by simp) i1 i2 (by rw[A2];omega) fun H3 s3=>?_
  exists C7 rfl ?_
  have s13:=s12.trans s3
  refine b1b ck (hc.same s13) (S2.same s3) i1 (by rw[A2];omega) fun D H4 hD eD s4=>?_
  have bg:=on.beg
  rw[E2,b1s,bg,b8j]at eD
  ext
  exists F1 eD a6d ?_
  exists C7 (by simp) ?_
  have s14:=s13.trans s4
  nofun
  refine b9u ck (hz.same s14) hv hi fun wo e H5 hwo on2 lo he S5 s5=>?_
  have s15:=s14.trans s5
  ext
  refine E7 (by simp) fun em H6 hem e6 s6=>?_
  obtain⟨ws,w1,w2,w3⟩:=id (S5.same s6).ex
  refine⟨wo,em,_,rfl,rfl,w1,e6,?_⟩
  rw[a9,w2]
  ext
  have s16:=s15.trans s6
  generalize hW:b8m N i=W at *
  cases W with
  | nil=>
   exists C7 (by decide) ?_
   exact⟨_,_,_,_,rfl,s16⟩
  | cons s0 W0=>
   exists K9 (by simp) ?_
   nofun
   refine b1b ck (hc.same s16) (S5.same s6) on2.isStep (by omega) fun D2 H7 hD2 eD2 s7=>?_
   have bg2:=on2.beg
   rw[E2]at bg2
   rw[show(s0::W0).map (U2 N)=(W0.map fun s=>s.1.toNat)++[e] from(List.cons.inj (by rw[E2];exact bg2)).2,b8j]at eD2
   ext
   exists F1 eD2 a6d ?_
   have s17:=s16.trans s7
   have s27:A0 H2 H7:=(s3.trans s4).trans ((s5.trans s6).trans s7)
   obtain⟨vs,v1,v2,v3⟩:=id (S2.same s27).ex
   exists b7n v1 (s7 _ _ w1) (E7 (by rw[a9,a9,v2,w2,A2];omega) fun ww H8 hww e8 s8=>?_)
   have s18:=s17.trans s8
   have on3:=on.app on2
   obtain⟨j1,j2⟩:=c1J on3
   exists b3f ck (hz.same s18) (S:=(FST::r)++(s0::W0)) (b9B v2 (fun i a s a1 a2=>(v3 i a s a1 a2).ts (A0.ts s8)) w2 (fun i a s a1 a2=>((w3 i a s a1 a2).ts (A0.ts s7)).ts (A0.ts s8)) e8) (by simp) j1 j2 (by rw[g8,A2];omega) fun H9 s9=>?_
   exists C7 rfl ?_
   have s19:=s18.trans s9
   obtain⟨dx,fs,n,hx,hf,hn⟩:=(hz.same s19).x
   obtain⟨us,y,f1,f2,f3,f4⟩:=hn.at he
   specialize a1V ?_
   exists ⟨x,_,dx,fs,_,rfl,hx,ck.L3,ck.L7,hf,?_⟩
   exists F1 f1 f2 ?_
   refine E7 (by simp) fun em2 H10 hem2 e10 s10=>?_
   exists ⟨_,b8R (s10 _ _ f3) e10 (b4F _) rfl,?_⟩
   exists C7 rfl ?_
   exact⟨_,_,_,_,rfl,s19.trans s10⟩
 rintro _ H1 ⟨y2,y3,y4,y5,rfl,s1⟩
 ext
 exact k H1 s1
end
section
variable {K:Fg}{c:Cn}{x r n q:Addr}{ns:List Addr}{E:XK}
theorem b9s{n:Int}(k:Q (.bl true) H):a7V K [.int n] H Q E:=by
 refine⟨rfl,?_⟩
 unfold b8r
 ext
 exists a1W rfl (by decide) ?_
 exists K9 rfl ?_
 exists a1W rfl (by decide) ?_
 exact k
theorem b2X(hR:U5 H ra N)(hra:H ra=some (.lst (rs.map V.ref))):rs.length=N.length/\∀(i:Nat) y l,rs[i]? = some y->N[i]? = some l->a9T H (.ref y) (l.length == 2):=by
 obtain⟨rs',r1,r2,r3⟩:=hR.ex
 obtain rfl:rs'=rs:=by
  rw[hra]at r1
  exact(O7 (f:=V.ref) (fun a b h=>V.ref.inj h) |>.mp (HO.lst.inj (Option.some.inj r1))).symm
 exact⟨r2,r3⟩
theorem b5x(hR:U5 H p N)(h1:H p=some (.lst (rs.map V.ref)))(h2:H q=some (.lst (rs.map V.ref))):Dq K H 3 (.ref p) (.ref q):=by
 obtain⟨l1,l2⟩:=b2X hR h1
 refine .lst (SqL.of h1) (SqL.of h2) rfl fun i u v f1 f2=>?_
 rw[f1]at f2
 cases f2
 rw[b8]at f1
 obtain⟨y,hy,rfl⟩:=l9.mp f1
 have hi:=(gI hy)
 exact c7B (l2 i y _ hy (d4 (by omega)))
theorem b8G(m:Nat)(h1:K7 H p N)(h2:K7 H q N):Dq K H (m+2) (.ref p) (.ref q):=by
 obtain⟨as,a1,a2,a3⟩:=h1.ex
 obtain⟨bs,b1,b2,b3⟩:=h2.ex
 refine .lst (SqL.of a1) (SqL.of b1) (by rw[a9,a9,a2,b2]) fun i u v f1 f2=>?_
 rw[b8]at f1 f2
 obtain⟨y,hy,rfl⟩:=l9.mp f1
 obtain⟨z,hz,rfl⟩:=l9.mp f2
 have hi:=(gI hy)
 have e:N[i]? = some N[i]:=d4 (by omega)
 exact c3E m (a3 i y _ hy e) (b3 i z _ hz e)
theorem b3h(ck:a2I K c)(P:a6S K c Z rs H x N)(hra:H ra=some (.lst (rs.map V.ref)))(hna:K7 H na N)(k:Q (.bl true) H):a4r K [.ref x,.ref ra,.ref na] H Q E:=by
 obtain⟨dx,r,n,e,es,ns,p1,⟨p2,p2r⟩,p3,p4,p5,p6,p7,p8,p9⟩:=P.ex
 obtain⟨l1,l2⟩:=b2X p2 p2r
 have hn:K7 H n N:=⟨ns,p3,p4,p5⟩
 refine⟨rfl,?_⟩
 unfold b5g
 nofun
 specialize a1V ?_
 exists ⟨x,_,dx,_,.ref r,rfl,p1,ck.L3,ck.a0g,rfl,?_⟩
 exists a1W (s := "list") (by simp only[a1B,p2r]) (by decide) ?_
 exists C7 (by decide) ?_
 specialize a1V ?_
 exists ⟨x,_,dx,_,.ref r,rfl,p1,ck.L3,ck.a0g,rfl,?_⟩
 exists ⟨r,ra,3,rfl,rfl,by decide,b5x p2 p2r hra,?_⟩
 exists C7 rfl ?_
 specialize a1V ?_
 exists ⟨x,_,dx,_,.ref n,rfl,p1,ck.L3,ck.L7,rfl,?_⟩
 exists a1W (s := "list") (by simp only[a1B,p3]) (by decide) ?_
 exists C7 (by decide) ?_
 nofun
 specialize a1V ?_
 exists ⟨x,_,dx,_,.ref n,rfl,p1,ck.L3,ck.L7,rfl,?_⟩
 exists ⟨n,na,2,rfl,rfl,by decide,b8G 0 hn hna,?_⟩
 exists C7 rfl ?_
 exact_mod_cast X5 ?_
 exact_mod_cast a0E (W9 ?_)
 specialize a1V ?_
 refine⟨x,_,dx,_,.ref r,rfl,p1,ck.L3,ck.a0g,rfl,?_⟩
 refine⟨r,rfl,⟨_,SqL.of p2r⟩,a0Q (xs:=rs.map V.ref) (fun i σ H2=>∃y3,σ=[some (.ref x),some (.ref ra),some (.ref na),y3,none,none]/\H2=H) ⟨_,rfl,rfl⟩ ?_ ?_ ?_⟩
 ·rintro i σ H2 _ ⟨_,_,rfl⟩
  exact SqL.of p2r
 ·rintro i v _ H2 hv ⟨y3,rfl,rfl⟩
  rw[b8]at hv
  obtain⟨y,hy,rfl⟩:=l9.mp hv
  have hi:=(gI hy)
  obtain⟨y',xs,ey,hy',_⟩:=l2 i y _ hy (d4 (by omega))
  cases ey
  ext
  exists a1W (s := "tuple") (by simp only[a1B,hy']) (by decide) ?_
  exists C7 (by decide) ?_
  exact⟨_,rfl,rfl⟩
 rintro _ H2 ⟨y3,rfl,rfl⟩
 exact_mod_cast X5 ?_
 exact_mod_cast a0E (W9 ?_)
 specialize a1V ?_
 refine⟨x,_,dx,_,.ref n,rfl,p1,ck.L3,ck.L7,rfl,?_⟩
 refine⟨n,rfl,⟨_,SqL.of p3⟩,a0Q (xs:=ns.map V.ref) (fun i σ H2'=>∃y4 y5,σ=[some (.ref x),some (.ref ra),some (.ref na),y3,y4,y5]/\H2'=H2) ⟨_,_,rfl,rfl⟩ ?_ ?_ ?_⟩
 ·rintro i σ _ _ ⟨_,_,_,rfl⟩
  exact SqL.of p3
 ·rintro i v _ Hx hv ⟨y4,y5,rfl,rfl⟩
  rw[b8]at hv
  obtain⟨y,hy,rfl⟩:=l9.mp hv
  have hi:=(gI hy)
  have ey:=p5 i y _ hy (d4 (by omega))
  ext
  nofun
  exists a1W (s := "list") (by simp only[a1B,ey]) (by decide) ?_
  exists C7 (by decide) ?_
  specialize a0E (W9 ?_)
  refine⟨y,rfl,⟨_,SqL.of ey⟩,a0Q (xs:=IL (N[i]'(by omega))) (fun j σ H3=>∃y5,σ=[some (.ref x),some (.ref ra),some (.ref na),y3,some (.ref y),y5]/\H3=Hx) ⟨_,rfl,rfl⟩ ?_ ?_ ?_⟩
  ·rintro j σ _ _ ⟨_,_,rfl⟩
   exact SqL.of ey
  ·rintro j v _ _ hv ⟨y5,rfl,rfl⟩
   unfold IL at hv
   rw[b8]at hv
   obtain⟨t,_,rfl⟩:=l9.mp hv
   ext
   exists b9s ?_
   exists C7 rfl ?_
   exact⟨_,rfl,rfl⟩
  rintro _ _ ⟨y5,rfl,rfl⟩
  exact⟨_,_,rfl,rfl⟩
 rintro _ _ ⟨y4,y5,rfl,rfl⟩
 ext
 exact k
theorem c1Y(hB:Bag H b d)(hra:H ra=some (.lst xs))(h0:0<xs.length)(hl:xs.length<=100)(hna:H na=some (.lst (ns.map V.ref)))(ln:ns.length=xs.length)(hi:∀y∈ns,∃vs,H y=some (.lst vs)/\vs.length<=10)
  (n1:ra≠b) (n2:na≠b) (n3:∀y∈ns,y≠b/\y≠ra/\y≠na) (n4:ra≠na) (n5:ra≠d/\na≠d/\d∉ns) (k:∀H',Frm (fun z=>z=b\/z=ra\/z=na\/z∈ns) H H'->Bag H' b d->Q .non H'):a7X K [.ref b,.ref ra,.ref na] H Q E:=by
 refine⟨rfl,?_⟩
 unfold b8t
 nofun
 exists R6 hra ?_
 refine O9 hB (by omega) (by omega) fun n H1 a0 a1 B1 k1=>?_
 obtain⟨t,rfl⟩:∃t:Nat,n=(t:Int):=⟨n.toNat,by omega⟩
 have ht:t<xs.length:=by omega
 have f1:Frm (fun z=>z=b\/z=ra\/z=na\/z∈ns) H H1:=Frm.of_kept hB k1 (.inl rfl)
 ext
 nofun
 exists E7 (by simp) fun tp H2 htp e2 s2=>?_
 have ra2:=s2 _ _ (k1.1 _ _ hra n1)
 refine c2B ra2 ht ?_
 have f3:=(f1.trans (Frm.of_same s2)).trans (Frm.put (ys:=xs.set t (.ref tp)) (.inr (.inl rfl)) ra2)
 have ra3:upd H2 ra (.lst (xs.set t (.ref tp))) ra=some (.lst (xs.set t (.ref tp))):=d8
 have na3:upd H2 ra (.lst (xs.set t (.ref tp))) na=some (.lst (ns.map V.ref)):=by rw[j7 n4.symm];exact s2 _ _ (k1.1 _ _ hna n2)
 have ni3:∀y∈ns,∃vs,upd H2 ra (.lst (xs.set t (.ref tp))) y=some (.lst vs)/\vs.length<=10:=fun y hy=>by
  obtain⟨vs,v1,v2⟩:=hi y hy
  exact⟨vs,by rw[j7 (n3 y hy).2.1];exact s2 _ _ (k1.1 _ _ v1 (n3 y hy).1),v2⟩
 have B3:Bag (upd H2 ra (.lst (xs.set t (.ref tp)))) b d:=(B1.same s2).put n1 n5.1
 revert f3 ra3 na3 ni3 B3
 generalize upd H2 ra (.lst (xs.set t (.ref tp)))=H3
 intro f3 ra3 na3 ni3 B3
 ext
 nofun
 specialize a4O ?_
 exists ⟨V7 ra3,?_⟩
 exists E7 (by simp) fun tp2 H4 htp2 e4 s4=>?_
 have ra4:=s4 _ _ ra3
 refine Y9 ra4 (J8 (by rw[a0I];omega)) ?_
 have f5:=(f3.trans (Frm.of_same s4)).trans (Frm.put (ys:=xs.set t (.ref tp)++[.ref tp2]) (.inr (.inl rfl)) ra4)
 have na5:upd H4 ra (.lst (xs.set t (.ref tp)++[.ref tp2])) na=some (.lst (ns.map V.ref)):=by rw[j7 n4.symm];exact s4 _ _ na3
 have ni5:∀y∈ns,∃vs,upd H4 ra (.lst (xs.set t (.ref tp)++[.ref tp2])) y=some (.lst vs)/\vs.length<=10:=fun y hy=>by
  obtain⟨vs,v1,v2⟩:=ni3 y hy
  exact⟨vs,by rw[j7 (n3 y hy).2.1];exact s4 _ _ v1,v2⟩
 have B5:Bag (upd H4 ra (.lst (xs.set t (.ref tp)++[.ref tp2]))) b d:=(B3.same s4).put n1 n5.1
 revert f5 na5 ni5 B5
 generalize upd H4 ra (.lst (xs.set t (.ref tp)++[.ref tp2]))=H5
 intro f5 na5 ni5 B5
 ext
 nofun
 specialize a4O ?_
 obtain⟨y,hy⟩:∃y,ns[t]? = some y:=⟨_,d4 (by omega)⟩
 have my:=mI hy
 obtain⟨vs,v1,v2⟩:=ni5 y my
 exists F1 na5 (R5 (by rw[b8,hy];rfl)) ?_
 exists ⟨V7 v1,?_⟩
 refine Y9 v1 (J8 (by omega)) ?_
 have f6:=f5.trans (Frm.put (ys:=vs++[.int 0]) (.inr (.inr (.inr my))) v1)
 have na6:upd H5 y (.lst (vs++[.int 0])) na=some (.lst (ns.map V.ref)):=by rw[j7 (n3 y my).2.2.symm];exact na5
 have ni6:∀z∈ns,∃vs',upd H5 y (.lst (vs++[.int 0])) z=some (.lst vs'):=fun z hz=>by
  by_cases e:z=y
  ·exact⟨_,by rw[e];exact d8⟩
  ·obtain⟨us,u1,_⟩:=ni5 z hz
   exact⟨us,by rw[j7 e];exact u1⟩
 have B6:Bag (upd H5 y (.lst (vs++[.int 0]))) b d:=B5.put (n3 y my).1 fun e=>n5.2.2 (e ▸ my)
 revert f6 na6 ni6 B6
 generalize upd H5 y (.lst (vs++[.int 0]))=H6
 intro f6 na6 ni6 B6
 ext
 nofun
 specialize c2u ?_
 obtain⟨y0,hy0⟩:∃y,ns[0]? = some y:=⟨_,d4 (by omega)⟩
 have my0:=mI hy0
 obtain⟨us,u1⟩:=ni6 y0 my0
 exists F1 na6 (R5 (j:=0) (by rw[b8,hy0];rfl)) ?_
 exists ⟨V7 u1,?_⟩
 refine c4N u1 ?_
 have f7:=f6.trans (Frm.put (ys:=[]) (.inr (.inr (.inr my0))) u1)
 have na7:upd H6 y0 (.lst []) na=some (.lst (ns.map V.ref)):=by rw[j7 (n3 y0 my0).2.2.symm];exact na6
 have B7:Bag (upd H6 y0 (.lst [])) b d:=B6.put (n3 y0 my0).1 fun e=>n5.2.2 (e ▸ my0)
 revert f7 na7 B7
 generalize upd H6 y0 (.lst [])=H7
 intro f7 na7 B7
 ext
 specialize a4O ?_
 exists ⟨V7 na7,?_⟩
 exists E7 (by simp) fun em H8 hem e8 s8=>?_
 exists Y9 (s8 _ _ na7) (J8 (by rw[a9];omega)) ?_
 exact k _ ((f7.trans (Frm.of_same s8)).trans (Frm.put (.inr (.inr (.inl rfl))) (s8 _ _ na7))) ((B7.same s8).put n2 n5.2.1)
end
section
variable {K:Fg}{c:Cn}{Z':Addr->Prop}{H'':Hp}{x l' r n q o:Addr}{ns:List Addr}{W:Nat->Rw}{D:Nat->Option (List Key)}{ts:List Str}{E:XK}
theorem Frm.fresh(f:Frm Z H H')(g:Frm (fun z=>Z z\/H z=none) H' H''):Frm Z H H'':=fun a o e n=>g a o (f a o e n) fun xs q z=>by
 rcases z with z | z
 ·exact n xs q z
 ·rw[e]at z
  cases z
structure Dr(Z:Addr->Prop)(H:Hp)(p ra na:Addr)(N:Nt)(rs ps:List Addr):Prop where
 t:H p=some (.tup [.ref ra,.ref na])
 w:Rwd H ra na N rs ps
 z:∃ns:List Addr,H na=some (.lst (ns.map V.ref))/\ns.length=N.length/\(∀(i:Nat) y l,ns[i]? = some y->N[i]? = some l->H y=some (.lst (IL l)))/\∀z,Z z->z≠ra/\z≠na/\z∉ns
 v:a1j N
 l:N.length<=24
 lp:ps.length<=3
theorem Dr.fr(h:Dr Z H p ra na N rs ps)(f:Frm Z H H'):Dr Z H' p ra na N rs ps:=by
 obtain⟨ns,h1,h2,h3,h4⟩:=h.z
 have e1:=f.lst h1 fun q=>(h4 na q).2.1 rfl
 have e3:∀(i:Nat) y l,ns[i]? = some y->N[i]? = some l->H' y=some (.lst (IL l)):=fun i y l a b=>f.lst (h3 i y l a b) fun q=>(h4 y q).2.2 (mI a)
 have nr:¬Z ra:=fun q=>(h4 ra q).1 rfl
 refine⟨(f _ _ h.t fun _ z=>nomatch z),⟨?_,⟨ns,e1,h2,e3⟩,f.lst h.w.ra nr,fun x hx=>(h.w.i x hx).ts f.ts⟩,⟨ns,e1,h2,e3,h4⟩,h.v,h.l,h.lp⟩
 obtain⟨q1,q2⟩:=b2X h.w.r h.w.ra
 exact⟨rs,f.lst h.w.ra nr,q1,fun i y l a b=>(q2 i y l a b).ts f.ts⟩
theorem Dr.of(hB:Bag H b d)(t:H p=some (.tup [.ref ra,.ref na]))(w:Rwd H ra na N rs ps)(v:a1j N)(l:N.length<=24)(lp:ps.length<=3)(hz:∀z,Z z->z=b\/H z=none):Dr Z H p ra na N rs ps:=by
 obtain⟨ns,h1,h2,h3⟩:=w.n.ex
 refine⟨t,w,⟨ns,h1,h2,h3,fun z q=>?_⟩,v,l,lp⟩
 have key:∀y,(∃xs,H y=some (.lst xs)/\y≠b)->z≠y:=fun y ⟨xs,hy,nb⟩=>by
  rcases hz z q with rfl | e
  ·exact nb.symm
  ·exact(d6 hy e).symm
 refine⟨key _ ⟨_,w.ra,a2m hB w.ra⟩,key _ ⟨_,h1,a2m hB h1⟩,fun hm=>?_⟩
 obtain⟨i,hi⟩:=v6.mp hm
 have li:=(gI hi)
 have e:=h3 i z _ hi (d4 (by omega))
 refine key z ⟨_,e,b0M hB e ?_⟩ rfl
 rw[R7]
 have:=v.two _ (E9 (show i<N.length by omega))
 omega
structure Rcd(K:Fg)(c:Cn)(Z:Addr->Prop)(H:Hp)(x l l':Addr)(N:Nt)(rs:List Addr)(RC:Nat->List V)(W:Nat->Rw)(D:Nat->Option (List Key))(ts:List Str):Prop where
 p:PlN K c Z H x N rs RC W D
 t1:a7x K Z H l N (a4w D rs.length) ts
 t2:a7x K Z H l' N (a4w D rs.length) ts
 nd:ts.Nodup
 mm:∀s,s∈ts↔∃i,i<rs.length/\s∈nmW (W i)
 so:Q2 ts=true
theorem Rcd.fr(h:Rcd K c Z H x l l' N rs RC W D ts)(f:Frm Z H H'):Rcd K c Z H' x l l' N rs RC W D ts:=⟨h.p.fr f,h.t1.fr f,h.t2.fr f,h.nd,h.mm,h.so⟩
structure Pr(K:Fg)(c:Cn)(Z:Addr->Prop)(H:Hp)(p x o:Addr):Prop where
 ex:∃ra na N rs ps l l' RC W D ts,Dr Z H p ra na N rs ps/\H o=some (.tup [.ref l,.ref l'])/\Rcd K c Z H x l l' N rs RC W D ts
theorem Pr.fr(h:Pr K c Z H p x o)(f:Frm Z H H'):Pr K c Z H' p x o:=let⟨ra,na,N,rs,ps,l,l',RC,W,D,ts,h1,h2,h3⟩:=h.ex; ⟨ra,na,N,rs,ps,l,l',RC,W,D,ts,h1.fr f,f _ _ h2 (fun _ z=>nomatch z),h3.fr f⟩
theorem b2H(ck:a2I K c)(P:PlN K c Z H x N rs RC W D)(hv:a1j N)(nd:ts.Nodup)(mm:∀s,s∈ts↔∃i,i<rs.length/\s∈nmW (W i))(so:Q2 ts=true)
  (k:∀l H',a7x K (fun z=>∃o,H z=some o) H' l N (a4w D rs.length) ts->A0 H H'->Q (.ref l) H'):a4G K c [.ref x,.int (N.length:Int)] H Q E:=
 b8q ck (P.weak (Z:=fun _=>False) fun _ h=>h.elim) hv (fun _ h=>h.elim) fun l ts' H' nd' mm' so' T s=>by
  have:ts'=ts:=b5j so' so (c5N nd' nd fun s=>(mm' s).trans (mm s).symm)
  subst this
  exact k l H' T s
theorem b5D(ck:a2I K c)(hra:H ra=some (.lst (rs.map V.ref)))(R:U5 H ra N)(T:K7 H na N)(hv:a1j N)(hr:a6R H rs RC)(hw:∀(i:Nat) p,rs[i]? = some p->RwS H (RC i) (W i))(hD:b1J H rs D)
  (bd:∀ds:List Str,ds.Nodup->(∀s∈ds,∃i,i<rs.length/\s∈nmW (W i))->ds.length<64) (hx:H x=none) (hdx:H dx=none)
  (k:∀H',PlN K c (fun z=>∃o,H z=some o) H' x N rs RC W D->A0 H H'->Q .non H'):a0U K c [.ref x,.ref ra,.ref na] (upd (upd H dx (.own x)) x (.ins c.K6 dx [])) Q E:=by
 have sm:A0 H (upd (upd H dx (.own x)) x (.ins c.K6 dx [])):=fun b o e=>by
  rw[j7 (d6 e hx),j7 (d6 e hdx)];exact e
 obtain⟨H9,hH9⟩:∃H9,H9=upd (upd H dx (.own x)) x (.ins c.K6 dx []):=⟨_,rfl⟩
 have x9:H9 x=some (.ins c.K6 dx []):=hH9 ▸ d8
 rw[<-hH9]at sm ⊢
 refine b3V ck (sm _ _ hra) (R.same sm) (T.same sm) hv x9 fun H10 pz old=>?_
 have s:A0 H H10:=fun b o e=>old b o (sm _ _ e) (d6 e hx)
 refine k H10 (PlN.weak ⟨pz,hr.ts (A0.ts s),fun i p e=>(hw i p e).ts (A0.ts s),hD.ts (A0.ts s),bd⟩ fun z ⟨o,hz⟩=>⟨o,sm _ _ hz,d6 hz hx⟩) s
end
theorem c7t{K:Fg}(h:ta σ H fun x H2=>∃a,x=.ref a/\(∃xs,SqT K H2 a xs)/\R (Itt K a) H2):c6b K ta σ H R:=h
theorem law_reading(K:Fg)(hl:ns.length<=63)(hO:c6v H)(hS:SqL K H a (ns.map V.int)):b0I K [.ref a] H (fun v _=>v=.bl true) (fun _ _ _=>False):=by
 refine⟨rfl,fun c ck=>?_⟩
 unfold c1S
 nofun
 exists c8Z hS hl fun b d H1 B1 s1 _=>?_
 nofun
 refine b6a B1 fun p1 r1 n1 N1 H3 e3 R3 T3 v1 l1 ⟨ps1,lp1,_,rs1,hr1,hi1⟩ B3 k3=>?_
 have Y:Rwd H3 r1 n1 N1 rs1 ps1:=⟨R3,T3,hr1,hi1⟩
 ext
 refine b6a B3 fun p2 r2 n2 N2 H4 e4 R4 T4 v2 l2 ⟨ps2,lp2,_,rs2,hr2,hi2⟩ B4 k4=>?_
 have U4:Rwd H4 r2 n2 N2 rs2 ps2:=⟨R4,T4,hr2,hi2⟩
 have W4:=Y.kept B3 v1 k4
 have e3':H4 p1=some (.tup [.ref r1,.ref n1]):=k4.ts B3 _ _ e3
 ext
 exists E7 (by simp) fun dl H5 hdl e5 s5=>?_
 nofun
 exists E7 (by simp) fun pl H6 hpl e6 s6=>?_
 nofun
 exists E7 (by simp) fun ol H7 hol e7 s7=>?_
 have s46:=s5.trans s6
 have s47:=s46.trans s7
 have B6:=B4.same s46
 have B5:=B4.same s5
 obtain⟨plb,pld⟩:=B5.nb hpl
 obtain⟨olb,old⟩:=B6.nb hol
 have dlb:=(B4.nb hdl).1
 have hz:∀z,(z=b\/z=pl\/z=ol)->z=b\/H4 z=none:=fun z h=>by
  rcases h with h | rfl | rfl
  ·exact .inl h
  ·exact .inr (s5.free hpl)
  ·exact .inr (s46.free hol)
 have D1:Dr (fun z=>z=b\/z=pl\/z=ol) H7 p1 r1 n1 N1 rs1 ps1:=(Dr.of B4 e3' W4 v1 l1 lp1 hz).fr (Frm.of_same s47)
 have D2:Dr (fun z=>z=b\/z=pl\/z=ol) H7 p2 r2 n2 N2 rs2 ps2:=(Dr.of B4 e4 U4 v2 l2 lp2 hz).fr (Frm.of_same s47)
 have ndl:¬(dl=b\/dl=pl\/dl=ol):=by
  rintro(h | h | h)
  ·exact dlb h
  ·exact d6 e5 hpl h
  ·exact d6 (s6 _ _ e5) hol h
 have npo:pl≠ol:=d6 e6 hol
 have pe6:=s7 _ _ e6
 have de7:=(s6.trans s7) _ _ e5
 have B7:=B4.same s47
 clear hz hi1 hi2 Y W4 U4 R3 R4 T3 T4 hr1 hr2 e3 e3' e4 e5 s5 s6 s7 s46 s47 hdl hpl hol B6 B5 e6
 exact_mod_cast X5 ?_
 specialize a0E (W9 ?_)
 refine⟨dl,rfl,⟨_,SqL.of de7⟩,a0Q (xs:=[p1,p2].map V.ref) (fun i σ Hi=>∃y5 y6 y7 y8 xs os,σ=[some (.ref a),some (.ref b),some (.ref dl),some (.ref pl),some (.ref ol),y5,y6,y7,y8,none,none]/\Hi dl=some (.lst [.ref p1,.ref p2])/\Hi pl=some (.lst ((xs:List Addr).map V.ref))/\Hi ol=some (.lst ((os:List Addr).map V.ref))/\xs.length=i/\os.length=i/\Bag Hi b d/\(∀p∈[p1,p2],∃ra na N rs ps,Dr (fun z=>z=b\/z=pl\/z=ol) Hi p ra na N rs ps)/\∀(j:Nat) p x o,[p1,p2][j]? = some p->xs[j]? = some x->os[j]? = some o->Pr K c (fun z=>z=b\/z=pl\/z=ol) Hi p x o) ⟨_,_,_,_,[],[],rfl,de7,pe6,e7,rfl,rfl,B7,?_,?_⟩ ?_ ?_ ?_⟩
 ·intro p hp
  simp only[j4,v8,or_false]at hp
  rcases hp with rfl | rfl
  ·exact⟨_,_,_,_,_,D1⟩
  ·exact⟨_,_,_,_,_,D2⟩
 ·intro j p x o _ h
  cases h
 ·rintro i σ Hi _ ⟨_,_,_,_,_,_,_,h,_⟩
  exact SqL.of h
 ·rintro i v _ Hi hv ⟨y5,y6,y7,y8,xs,os,rfl,hd,hp,ho,lx,lo,Bi,dr,pr⟩
  have li:i<2:=(gI hv)
  rw[b8]at hv
  obtain⟨p,hpi,rfl⟩:=l9.mp hv
  obtain⟨ra,na,N,rs,ps,Di⟩:=dr p (mI hpi)
  obtain⟨nn,m1,m2,m3,m4⟩:=Di.z
  obtain⟨lr,rr⟩:=b2X Di.w.r Di.w.ra
  have l24:=Di.l
  refine a6t (SqT.of Di.t) ?_
  nofun
  exists a6u Di.w.ra fun hr G1 hhr g1 t1=>?_
  refine a9l (l:=na) (as:=nn) (fun R hR=>⟨_,rfl,hR⟩) (t1 _ _ m1) (by omega) ?_ fun hn cs G2 hhn g2 lc cc t2=>?_
  ·intro y hy
   obtain⟨j,hj⟩:=v6.mp hy
   have:=(gI hj)
   exact⟨_,t1 _ _ (m3 j y _ hj (d4 (by omega)))⟩
  ext
  exists E7 (by simp) fun hd2 G3 hhd g3 t3=>?_
  have t12:=t1.trans t2
  have t13:=t12.trans t3
  have t23:=t2.trans t3
  have gr3:=t23 _ _ g1
  have gn3:=t3 _ _ g2
  have D3:=Di.fr (Frm.of_same t13)
  have NA3:K7 G3 hn N:=⟨cs,gn3,by omega,fun j y q f1 f2=>by
   obtain⟨y',vs,c1,c2,c3,c4,c5⟩:=cc j y f1
   have:=t1 _ _ (m3 j y' q c1 f2)
   rw[this]at c2
   cases c2
   exact t3 _ _ c3⟩
  have RA3:U5 G3 hr N:=⟨rs,gr3,lr,fun j y q f1 f2=>(rr j y q f1 f2).ts (A0.ts t13)⟩
  obtain⟨RC,Wf,Df,q1,q2,q3,q4⟩:=c7z D3.w Di.l Di.lp
  nofun
  specialize a4O ?_
  have p3:=t13 _ _ hp
  exists ⟨V7 p3,?_⟩
  specialize c2q ?_
  exists F1 g3 (a0p _ _) ?_
  exists F1 g3 (a2z _ _ _) ?_
  intro x dx hx hdx hne
  exists b5D ck gr3 RA3 NA3 Di.v q1 q2 q3 q4 hx hdx fun G4 P4 t4=>⟨rfl,?_⟩
  have p4:=t4 _ _ p3
  refine Y9 p4 (J8 (by rw[a9];omega)) ?_
  have f5:Frm (fun z=>z=pl\/z=ol) G4 (upd G4 pl (.lst (xs.map V.ref++[.ref x]))):=Frm.put (.inl rfl) p4
  have p5:upd G4 pl (.lst (xs.map V.ref++[.ref x])) pl=some (.lst (xs.map V.ref++[.ref x])):=d8
  have B5:Bag (upd G4 pl (.lst (xs.map V.ref++[.ref x]))) b d:=((Bi.same t13).same t4).put plb pld
  have ex5:∀z,(∃o,G3 z=some o)->∃o,upd G4 pl (.lst (xs.map V.ref++[.ref x])) z=some o:=fun z ⟨o,hz⟩=>by
   by_cases e:z=pl
   ·exact⟨_,by rw[e];exact d8⟩
   ·exact⟨o,by rw[j7 e];exact t4 _ _ hz⟩
  have o5:upd G4 pl (.lst (xs.map V.ref++[.ref x])) ol=some (.lst (os.map V.ref)):=by rw[j7 npo.symm];exact t4 _ _ (t13 _ _ ho)
  revert f5 p5 B5 ex5 o5
  generalize upd G4 pl (.lst (xs.map V.ref++[.ref x]))=G5
  intro f5 p5 B5 ex5 o5
  ext
  have zp:∀z,(z=pl\/z=ol)->∃o,G3 z=some o:=fun z h=>by
   rcases h with rfl | rfl
   ·exact⟨_,p3⟩
   ·exact⟨_,t13 _ _ ho⟩
  have f35:Frm (fun z=>z=pl\/z=ol) G3 G5:=(Frm.of_same t4).trans f5
  have nz:∀z,Hi z=none->¬(z=pl\/z=ol):=fun z h e=>by
   rcases e with rfl | rfl
   ·exact d6 hp h rfl
   ·exact d6 ho h rfl
  have hhn0:=t1.free hhn
  have hhd0:=t12.free hhd
  have cs0:∀y∈cs,Hi y=none/\y≠hr/\y≠hn:=fun y hy=>by
   obtain⟨j,hj⟩:=v6.mp hy
   obtain⟨y',vs,c1,c2,c3,c4,c5⟩:=cc j y hj
   exact⟨t1.free c4,(d6 g1 c4).symm,c5⟩
  have D5:Dr (fun z=>z=b\/z=pl\/z=ol) G5 p ra na N rs ps:=D3.fr (f35.weak fun z h=>.inr h)
  have gd5:=f35.lst g3 (nz hd2 hhd0)
  have gr5:=f35.lst gr3 (nz hr hhr)
  have gn5:=f35.lst gn3 (nz hn hhn0)
  have NA5:K7 G5 hn N:=⟨cs,gn5,by omega,fun j y q f1 f2=>by
   obtain⟨as',z1,z2,z3⟩:=NA3.ex
   rw[gn3]at z1
   have:cs=as':=O7 (f:=V.ref) (fun a b h=>V.ref.inj h) |>.mp (HO.lst.inj (Option.some.inj z1))
   subst this
   exact f35.lst (z3 j y q f1 f2) (nz y (cs0 y (mI f1)).1)⟩
  have RA5:U5 G5 hr N:=⟨rs,gr5,lr,fun j y q f1 f2=>((rr j y q f1 f2).ts (A0.ts t13)).ts f35.ts⟩
  nofun
  refine E7 (by simp) fun dl2 G6 hdl2 g6 t6=>?_
  refine⟨hd2,dl2,4,rfl,rfl,by decide,.lst (SqL.of (t6 _ _ gd5)) (SqL.of g6) rfl ?_,?_⟩
  ·intro j u v w1 w2
   match j with
   | 0=>cases w1;cases w2;exact b5x (RA5.same t6) (t6 _ _ gr5) (t6 _ _ D5.w.ra)
   | 1=>cases w1;cases w2;exact b8G 1 (NA5.same t6) (D5.w.n.same t6)
   | j+2=>cases w1
  ext
  exists C7 rfl ?_
  nofun
  exists F1 (t6 _ _ p5) a6d ?_
  refine R6 (t6 _ _ D5.w.ra) ?_
  rw[a9,lr]
  ext
  have P6:=(P4.fr (f5.weak zp)).same t6
  exists b8q ck P6 Di.v (fun z h=>let⟨o,e⟩:=ex5 z h; ⟨o,t6 _ _ e⟩) fun td ts G7 nd mm so T7 t7=>?_
  nofun
  specialize a4O ?_
  have f37:Frm (fun z=>z=pl\/z=ol) G3 G7:=(f35.trans (Frm.of_same t6)).trans (Frm.of_same t7)
  have o3:=t13 _ _ ho
  have o7:G7 ol=some (.lst (os.map V.ref)):=t7 _ _ (t6 _ _ o5)
  exists ⟨V7 o7,?_⟩
  exists c6n T7 (by omega) fun td2 G8 T8 t8=>?_
  exists E7 (by simp) fun tp G9 htp g9 t9=>?_
  have o9:=(t8.trans t9) _ _ o7
  refine Y9 o9 (J8 (by rw[a9];omega)) ?_
  have t59:=(t6.trans t7).trans (t8.trans t9)
  have f10:Frm (fun z=>z=pl\/z=ol) G9 (upd G9 ol (.lst (os.map V.ref++[.ref tp]))):=Frm.put (.inr rfl) o9
  have o10:upd G9 ol (.lst (os.map V.ref++[.ref tp])) ol=some (.lst (os.map V.ref++[.ref tp])):=d8
  have p10:upd G9 ol (.lst (os.map V.ref++[.ref tp])) pl=some (.lst (xs.map V.ref++[.ref x])):=by rw[j7 npo];exact t59 _ _ p5
  have B10:Bag (upd G9 ol (.lst (os.map V.ref++[.ref tp]))) b d:=(B5.same t59).put olb old
  revert f10 o10 p10 B10
  generalize upd G9 ol (.lst (os.map V.ref++[.ref tp]))=G10
  intro f10 o10 p10 B10
  ext
  have f710:Frm (fun z=>z=pl\/z=ol) G7 G10:=(Frm.of_same (t8.trans t9)).trans f10
  have f810:Frm (fun z=>z=pl\/z=ol) G8 G10:=(Frm.of_same t9).trans f10
  have f610:Frm (fun z=>z=pl\/z=ol) G6 G10:=(Frm.of_same t7).trans f710
  have f310:Frm (fun z=>z=pl\/z=ol) G3 G10:=f37.trans f710
  have gd10:=f310.lst g3 (nz hd2 hhd0)
  exists F1 gd10 (a0p _ _) ?_
  exists F1 gd10 (a2z _ _ _) ?_
  have nbd:∀z,Hi z=none->z≠b/\z≠d:=fun z h=>Bi.nb h
  have hv2:=Di.v.two
  refine c1Y B10 (f310.lst gr3 (nz hr hhr)) (by rw[a9,lr];exact Di.v.pos) (by rw[a9];omega) (f310.lst gn3 (nz hn hhn0)) (by rw[a9];omega) ?_ (nbd hr hhr).1 (nbd hn hhn0).1 (fun y hy=>⟨(nbd y (cs0 y hy).1).1,(cs0 y hy).2⟩) (d6 g1 hhn) ⟨(nbd hr hhr).2,(nbd hn hhn0).2,fun h=>(nbd d (cs0 d h).1).2 rfl⟩ fun G11 fs B11=>?_
  ·intro y hy
   obtain⟨j,hj⟩:=v6.mp hy
   have hjl:=(gI hj)
   obtain⟨as',z1,z2,z3⟩:=NA3.ex
   rw[gn3]at z1
   have:cs=as':=O7 (f:=V.ref) (fun a b h=>V.ref.inj h) |>.mp (HO.lst.inj (Option.some.inj z1))
   subst this
   have hN:N[j]? = some (N[j]'(by omega)):=d4 (by omega)
   refine⟨_,f310.lst (z3 j y _ hj hN) (nz y (cs0 y hy).1),?_⟩
   rw[R7]
   have:=hv2 _ (mI hN)
   omega
  ext
  have fsb:∀z,(z=b\/z=hr\/z=hn\/z∈cs)->z=b\/Hi z=none:=fun z h=>by
   rcases h with h | rfl | rfl | h
   ·exact .inl h
   ·exact .inr hhr
   ·exact .inr hhn0
   ·exact .inr (cs0 z h).1
  have fs3:∀z,(z=b\/z=hr\/z=hn\/z∈cs)->∃o,G3 z=some o:=fun z h=>by
   rcases h with rfl | rfl | rfl | h
   ·obtain⟨_,e⟩:=(Bi.same t13).lst
    exact⟨_,e⟩
   ·exact⟨_,gr3⟩
   ·exact⟨_,gn3⟩
   ·obtain⟨j,hj⟩:=v6.mp h
    obtain⟨y',vs,c1,c2,c3,c4,c5⟩:=cc j z hj
    exact⟨_,t3 _ _ c3⟩
  have F:Frm (fun z=>z=b\/z=pl\/z=ol) Hi G11:=Frm.fresh ((Frm.of_same t13).trans (f310.weak fun z h=>.inr h)) (fs.weak fun z h=>(fsb z h).imp .inl id)
  have zb3:∀z,(z=b\/z=pl\/z=ol)->∃o,G3 z=some o:=fun z h=>by
   rcases h with rfl | h
   ·exact fs3 _ (.inl rfl)
   ·exact zp z h
  have npz:∀z,z=pl\/z=ol->¬(z=b\/z=hr\/z=hn\/z∈cs):=fun z h e=>by
   have zb:z≠b:=by
    rcases h with rfl | rfl
    ·exact plb
    ·exact olb
   rcases fsb z e with e | e
   ·exact zb e
   ·exact nz z e h
  have P11:=(P6.fr (f610.weak zp)).fr (fs.weak fs3)
  have T11:=((T7.weak (Z:=fun z=>∃o,G3 z=some o) fun z h=>let⟨o,e⟩:=ex5 z h; ⟨o,t6 _ _ e⟩).fr (f710.weak zp)).fr (fs.weak fs3)
  have S11:=((T8.weak (Z:=fun z=>∃o,G3 z=some o) fun z h=>let⟨o,e⟩:=ex5 z h; ⟨o,t7 _ _ (t6 _ _ e)⟩).fr (f810.weak zp)).fr (fs.weak fs3)
  refine⟨_,_,_,_,xs++[x],os++[tp],rfl,F.lst hd ndl,by rw[z9];exact fs.lst p10 (npz pl (.inl rfl)),by rw[z9];exact fs.lst o10 (npz ol (.inr rfl)),by simp[lx],by simp[lo],B11,fun p hp=>?_,fun j p' x' o' w1 w2 w3=>?_⟩
  ·obtain⟨ra',na',N',rs',ps',h⟩:=dr p hp
   exact⟨ra',na',N',rs',ps',h.fr F⟩
  ·rcases W8 w2 with ⟨w4,w2⟩ | ⟨w4,w2⟩
   ·rcases W8 w3 with ⟨w5,w3⟩ | ⟨w5,w3⟩
    ·exact(pr j p' x' o' w1 w2 w3).fr F
    ·omega
   ·rcases W8 w3 with ⟨w5,w3⟩ | ⟨w5,w3⟩
    ·omega
    ·subst w2 w3
     rw[w4,lx,hpi]at w1
     cases w1
     exact⟨ra,na,N,rs,ps,td,td2,RC,Wf,Df,ts,Di.fr F,(fs _ _ (f10 _ _ g9 fun _ z=>nomatch z) fun _ z=>nomatch z),P11.weak zb3,T11.weak zb3,S11.weak zb3,nd,mm,so⟩
 rintro _ Hl ⟨y5,y6,y7,y8,xs,os,rfl,hd,hp,ho,lx,lo,Bl,_,pr⟩
 have pr:∀j,j<2->∃p x o,[p1,p2][j]? = some p/\xs[j]? = some x/\os[j]? = some o/\Pr K c (fun z=>z=b\/z=pl\/z=ol) Hl p x o:=fun j hj=>by
  have l2:xs.length=2:=lx
  have l3:os.length=2:=lo
  have w0:[p1,p2][j]? = some ([p1,p2][j]'hj):=d4 hj
  have w1:xs[j]? = some (xs[j]'(by omega)):=d4 (by omega)
  have w2:os[j]? = some (os[j]'(by omega)):=d4 (by omega)
  exact⟨_,_,_,w0,w1,w2,pr j _ _ _ w0 w1 w2⟩
 have hd:Hl dl=some (.lst ([p1,p2].map V.ref)):=hd
 exact_mod_cast X5 ?_
 specialize a0E (c7t ?_)
 refine E7 (by simp) fun tq Hm htq em sm=>?_
 refine⟨tq,rfl,⟨_,SqT.of em⟩,c6h (xs:=[.int 1,.int 0,.int 1]) (fun i σ Hi=>∃y5 y6 y7 y8 y9,σ=[some (.ref a),some (.ref b),some (.ref dl),some (.ref pl),some (.ref ol),y5,y6,y7,y8,y9,none]/\A0 Hm Hi) ⟨_,_,_,_,_,rfl,A0.refl _⟩ ?_ ?_ ?_⟩
 ·rintro i σ Hi _ ⟨_,_,_,_,_,_,si⟩
  exact SqT.of (si _ _ em)
 ·rintro i v _ Hi hv ⟨y5,y6,y7,y8,y9,rfl,si'⟩
  have si:=sm.trans si'
  obtain⟨j,hj,rfl⟩:∃j:Nat,j<2/\v=.int (j:Int):=by
   have m:=mI hv
   simp only[j4,v8,or_false]at m
   rcases m with rfl | rfl | rfl
   ·exact⟨1,by decide,rfl⟩
   ·exact⟨0,by decide,rfl⟩
   ·exact⟨1,by decide,rfl⟩
  obtain⟨p,x,o,w0,w1,w2,Pj⟩:=pr j hj
  obtain⟨ra,na,N,rs,ps,td,td2,RC,W,D,ts,Dj,oj,Rj⟩:=(Pj.fr (Frm.of_same si)).ex
  obtain⟨lr,_⟩:=b2X Dj.w.r Dj.w.ra
  ext
  nofun
  refine F1 (si _ _ hd) (R5 (by rw[b8,w0];rfl)) ?_
  refine a6t (SqT.of Dj.t) ?_
  nofun
  exists F1 (si _ _ hp) (R5 (by rw[b8,w1];rfl)) ?_
  exists b3h ck Rj.p.pz Dj.w.ra Dj.w.n ?_
  exists C7 rfl ?_
  exists F1 (si _ _ hp) (R5 (by rw[b8,w1];rfl)) ?_
  refine R6 Dj.w.ra ?_
  rw[a9,lr]
  ext
  exists b2H ck Rj.p Dj.v Rj.nd Rj.mm Rj.so fun tn G1 T1 g1=>?_
  have s1:=si.trans g1
  exists F1 (s1 _ _ ho) (R5 (by rw[b8,w2];rfl)) ?_
  refine M7 (g1 _ _ oj) (a2z _ _ _) ?_
  exists ⟨tn,td2,4,rfl,rfl,by decide,T1.dq (Rj.t2.fr (Frm.of_same g1)),?_⟩
  exists C7 rfl ?_
  exists F1 (s1 _ _ hp) (R5 (by rw[b8,w1];rfl)) ?_
  refine R6 (g1 _ _ Dj.w.ra) ?_
  rw[a9,lr]
  ext
  have P1:=Rj.p.same g1
  exists b3y ck P1.pz.at P1.pz.pc Dj.v fun G2 g2=>?_
  exists C7 rfl ?_
  exact⟨_,_,_,_,_,rfl,(si'.trans g1).trans g2⟩
 rintro _ Hi ⟨y5,y6,y7,y8,y9,rfl,si'⟩
 have si:=sm.trans si'
 obtain⟨p,x,o,w0,w1,w2,P0⟩:=pr 0 (by decide)
 cases w0
 obtain⟨ra,na,N,rs,ps,td,td2,RC,W,D,ts,Dj,oj,Rj⟩:=(P0.fr (Frm.of_same si)).ex
 obtain⟨lr,_⟩:=b2X Dj.w.r Dj.w.ra
 have hdi:Hi dl=some (.lst [.ref p1,.ref p2]):=si _ _ hd
 nofun
 specialize c2q ?_
 exists F1 hdi (a0p _ _) ?_
 exists M7 Dj.t (a0p _ _) ?_
 exists F1 hdi (a0p _ _) ?_
 exists M7 Dj.t (a2z _ _ _) ?_
 intro x2 dx hx hdx hne
 exists b5D ck Dj.w.ra Dj.w.r Dj.w.n Dj.v Rj.p.rc Rj.p.rw Rj.p.dk Rj.p.bd hx hdx fun G1 Q1 g1=>⟨rfl,?_⟩
 nofun
 exists F1 (g1 _ _ hdi) (a0p _ _) ?_
 exists M7 (g1 _ _ Dj.t) (a0p _ _) ?_
 refine R6 (g1 _ _ Dj.w.ra) ?_
 rw[a9,lr]
 ext
 exists b2H ck Q1 Dj.v Rj.nd Rj.mm Rj.so fun tn G2 T2 g2=>?_
 have g12:=g1.trans g2
 have s2:=si.trans g12
 exists F1 (s2 _ _ ho) (R5 (j:=0) (by rw[b8,w2];rfl)) ?_
 refine M7 (g12 _ _ oj) (a2z _ _ _) ?_
 exists ⟨tn,td2,4,rfl,rfl,by decide,T2.dq (Rj.t2.fr (Frm.of_same g12)),?_⟩
 exists C7 rfl ?_
 have D2:=Dj.fr (Frm.of_same g12)
 exists F1 (g12 _ _ hdi) (a0p _ _) ?_
 exists M7 D2.t (a0p _ _) ?_
 exists F1 (g12 _ _ hdi) (a0p _ _) ?_
 exists M7 D2.t (a2z _ _ _) ?_
 exists b3h ck (Q1.same g2).pz D2.w.ra D2.w.n ?_
 exists C7 rfl ?_
 obtain⟨p',x',o',w0',w1',w2',P1⟩:=pr 1 (by decide)
 obtain⟨ra',na',N',rs',ps',tdb,td2b,RC',W',D',ts',Dk,ok,Rk⟩:=(P1.fr (Frm.of_same s2)).ex
 exists F1 (s2 _ _ ho) (R5 (j:=0) (by rw[b8,w2];rfl)) ?_
 exists M7 (g12 _ _ oj) (a0p _ _) ?_
 exists F1 (s2 _ _ ho) (R5 (j:=0) (by rw[b8,w2];rfl)) ?_
 refine M7 (g12 _ _ oj) (a2z _ _ _) ?_
 exists ⟨td,td2,4,rfl,rfl,by decide,(Rj.t1.fr (Frm.of_same g12)).dq (Rj.t2.fr (Frm.of_same g12)),?_⟩
 exists K9 rfl ?_
 exists F1 (s2 _ _ ho) (R5 (j:=1) (by rw[b8,w2'];rfl)) ?_
 exists M7 ok (a0p _ _) ?_
 exists F1 (s2 _ _ ho) (R5 (j:=1) (by rw[b8,w2'];rfl)) ?_
 refine M7 ok (a2z _ _ _) ?_
 exact⟨tdb,td2b,4,rfl,rfl,by decide,Rk.t1.dq Rk.t2,rfl⟩
end RD
set_option maxHeartbeats 0
namespace PR
open PySem L2 RD Y
abbrev d1z:Str:="__init__"
abbrev d1A:Str:="_law_script"
abbrev d1B:Str:="_law_bag"
abbrev d1C:Str:="_law_bag_here"
abbrev d1D:Str:="_law_many"
abbrev d1E:Str:="_law_take"
abbrev d1F:Str:="_law_nexts"
abbrev d1G:Str:="_law_k"
abbrev d1H:Str:="_law_some"
abbrev d1I:Str:="_law_net"
abbrev d1J:Str:="_law_good"
abbrev d1K:Str:="_law_turn"
abbrev d1L:Str:="_law_reached"
abbrev d1M:Str:="_law_one"
abbrev d1N:Str:="_law_order"
abbrev d1O:Str:="_law_mended"
abbrev d1P:Str:="_law_name"
abbrev d1Q:Str:="_law_names_here"
abbrev d1R:Str:="_law_names"
abbrev d1S:Str:="_law_value"
abbrev d1T:Str:="_law_operand"
abbrev d1U:Str:="_law_deed"
abbrev d1V:Str:="_law_pool"
abbrev d1W:Str:="_law_row"
abbrev d1X:Str:="_law_drawn"
abbrev d1Y:Str:="self"
abbrev d1Z:Str:="place"
abbrev d2a:Str:="nexts"
abbrev d2b:Str:="following"
abbrev d2c:Str:="steps_of"
abbrev d2d:Str:="step"
abbrev d2e:Str:="operands_of"
abbrev d2f:Str:="reads_of"
abbrev d2g:Str:="stops_of"
abbrev d2h:Str:="_law_plan"
abbrev d2i:Str:="_law_told"
abbrev d2j:Str:="_law_told_here"
abbrev d2k:Str:="_law_copy"
abbrev d2l:Str:="_law_rows"
abbrev d2m:Str:="_law_spoil"
abbrev d2n:Str:="_law_whole"
abbrev d2o:Str:="_law_fields"
abbrev d2p:Str:="plan"
abbrev d2q:Str:="thing"
abbrev d2r:Str:="is_whole"
abbrev d2s:Str:="is_below"
abbrev d2t:Str:="is_step"
abbrev d2u:Str:="places_of"
abbrev d2v:Str:="followed"
abbrev d2w:Str:="_law_ways_good"
abbrev d2x:Str:="check_length"
abbrev d2y:Str:="is_value"
abbrev d2z:Str:="is_operand"
abbrev d2A:Str:="check_each"
abbrev d2B:Str:="are_nexts"
abbrev d2C:Str:="rows"
abbrev d2D:Str:="check_nexts"
abbrev d2E:Str:="check_ways"
section
def top(i:Nat):Stmt:=PySem.Challenge.pw_oncedone_k26_plans_kept.main.body.getD i (.Pass ⟨0,0,0,0⟩)
abbrev b8A:Stmt:=top 47
abbrev b7g:Stmt:=top 48
abbrev c2p:Stmt:=top 56
abbrev a4s:Stmt:=top 57
abbrev b3P:Stmt:=top 50
abbrev b3O:Stmt:=top 51
abbrev b3M:Stmt:=top 52
abbrev a8O:Stmt:=top 53
abbrev b7k:Stmt:=top 54
abbrev c2m:Stmt:=top 55
abbrev a8e:Stmt:=top 58
abbrev a1H:Stmt:=U8 (top 37) 3
abbrev a4K:Stmt:=top 36
abbrev a4Q:Stmt:=U8 (top 37) 1
abbrev a2F:Stmt:=U8 (top 37) 2
abbrev a3U:Stmt:=top 26
abbrev a7d:Stmt:=top 27
abbrev b0T:Stmt:=top 25
abbrev a4R:Stmt:=U8 (top 37) 6
abbrev a8S:Stmt:=top 24
abbrev a4S:Stmt:=U8 (top 37) 5
abbrev a4J:Stmt:=top 32
abbrev a4P:Stmt:=U8 (top 37) 4
abbrev b0S:Stmt:=top 59
abbrev b0W:Stmt:=top 60
abbrev b3N:Stmt:=top 63
abbrev b3L:Stmt:=top 49
abbrev b0V:Stmt:=top 62
abbrev b0R:Stmt:=top 43
abbrev b0Q:Stmt:=top 42
abbrev a7e:Stmt:=top 12
abbrev a7g:Stmt:=top 20
abbrev a8P:Stmt:=top 39
abbrev a5P:Stmt:=top 40
abbrev a3E:Stmt:=top 41
abbrev a7h:Stmt:=top 45
abbrev a8b:Stmt:=top 44
abbrev a5O:Stmt:=top 61
abbrev a3l:Stmt:=top 21
abbrev a6s:Stmt:=top 14
abbrev a7f:Stmt:=top 13
abbrev a4L:Stmt:=top 15
abbrev a8Q:Stmt:=top 16
abbrev b0U:Stmt:=top 17
abbrev a4N:Stmt:=top 22
abbrev a3F:Stmt:=top 30
abbrev a2l:Stmt:=top 31
abbrev a8N:Stmt:=top 34
abbrev a8c:Stmt:=top 33
abbrev a4M:Stmt:=top 35
abbrev a1t:Stmt:=U8 (top 37) 0
abbrev b5w:Stmt:=top 64
structure Txt(K:Fg)(mg:Str->Option Value)(c:Cn):Prop where
 d0T:mg "abs" = none
 b9i:mg "all" = none
 d0S:mg "any" = none
 c4k:mg "bool" = none
 c9o:mg "dict" = none
 a2B:mg "enumerate" = none
 c6Y:mg "int" = none
 J9:mg "isinstance" = none
 T5:mg "len" = none
 a0T:mg "list" = none
 d0R:mg "min" = none
 a0F:mg "range" = none
 d0Q:mg "set" = none
 b6E:mg "sorted" = none
 c6X:mg "str" = none
 b0j:mg "tuple" = none
 d0P:mg "zip" = none
 c6E:∃u,mg "BOUND" = some u/\K5 (.int 1000000000000) u
 b4I:∃u,mg "DEED_KINDS" = some u/\K5 (.ref c.a5l) u
 c1d:∃u,mg "FIGURES" = some u/\K5 (.str "0123456789") u
 a0Y:∃u,mg "FIRST_STEP" = some u/\K5 (.ref c.V9) u
 b3s:∃u,mg "LETTERS" = some u/\K5 (.str "abcdefghijklmnopqrstuvwxyz") u
 b1N:∃u,mg "LONGEST_NAME" = some u/\K5 (.int 8) u
 c9n:∃u,mg "MOST" = some u/\K5 (.int 400) u
abbrev scF(ns:List (Str×a6K)):Scope:={ kind:=.function,names:=ns,isGenerator:=false,isCoroutine:=false,more:=[] }
local macro_rules | `(tactic| walk_at "c0") => `(tactic| exact ⟨rfl, by decide +kernel, by decide +kernel, rfl, by decide +kernel, by decide +kernel, rfl, by decide +kernel⟩)
local macro_rules | `(tactic| walk_at "c1") => `(tactic| exact ⟨rfl, by decide +kernel, by decide +kernel, rfl, b8P (by decide +kernel), by decide +kernel, rfl, by decide +kernel⟩)
local macro_rules | `(tactic| walk_at "c2") => `(tactic| exact ⟨rfl, by decide +kernel, by decide +kernel, rfl, rfl, by decide +kernel, by decide +kernel, rfl, rfl, by decide +kernel⟩)
local macro_rules | `(tactic| walk_at "c3") => `(tactic| exact ⟨rfl, by decide +kernel, by decide +kernel, rfl, rfl, b8P (by decide +kernel), by decide +kernel, rfl, rfl, by decide +kernel⟩)
def c4g(f:List Value->Prop):List Str->Prop
 | []=>f []
 | _::r=>∀u,c4g (fun us=>f (u::us)) r
theorem c4g.mp:∀ {ps:List Str} {f:List Value->Prop},c4g f ps->∀us,us.length=ps.length->f us
 | [],_,h,[],_=>h
 | _::_,_,h,u::us,e=>c4g.mp (h u) us (Nat.succ.inj e)
section
variable {P:C9}{w:World}{K:Fg}{mg:Str->Option Value}{base h:Heap}{c:Cn}{f C:Addr}{fd:a0G}{x q:Str}{st:Stmt}{N ps:List Str}{k:Nat}{t:TS}{pm cd:Value}{sp:Sp}
open PySem.Spec PyProof.Rows in
theorem fk(F:Fun K x q st f fd)(S:C4 N ps (j8 st))(b:∀cdv A outer s H E,V6 k (A.deeper (b4M q (j8 st) s.heap.objs.size f cdv))->N.Nodup->b1W (b6e CX0 P w K mg base N q (j8 st) f cdv A outer s H E).nox (a1K st) t):N4 P w K mg base CX0 (k+1) f fd ps (spD ps.length N.length t):=
 b4U F S (fun _ _ _ _ h=>h.1) fun cdv A outer s H _ _ E hr h=>⟨t,b cdv A outer s H E hr S.nd,h.2⟩
abbrev fdM(x q:Str)(st:Stmt)(pm cd:Value):a0G:=a1a x q (a3L st) (a1K st) (j8 st) .none .none .none pm none cd .none
structure FnI(K:Fg)(x q:Str)(st:Stmt)(f:Addr)(pm cd:Value):Prop where
 l:K.lookup f=some ⟨.type "function",none,.func (fdM x q st pm cd),#[]⟩
 c:a6F K cd q=true
 k:Z4 K (.ref f)=true
structure FnG(K:Fg)(x:Str)(st:Stmt)(f:Addr)(pm cd:Value):Prop where
 i:FnI K x x st f pm cd
 a:D4 K A7 x=some (some (.ref f))
structure FnM(K:Fg)(C:Addr)(x q:Str)(st:Stmt)(f:Addr)(pm cd:Value):Prop where
 i:FnI K x q st f pm cd
 a:I0 K (.ref C) x=some (some (.ref f))
 n:a9w K (.ref f)=true
theorem FnI.F(h:FnI K x q st f pm cd):Fun K x q st f (fdM x q st pm cd):=c8X h.l h.c h.k
abbrev BdA(x q:Str)(st:Stmt)(ps:List Str):Prop:=∀(kV doc pm:Value) (an:Option Addr) (cdv ct:Value),c4g (fun us=>bindArgs (a1a x q (a3L st) (a1K st) (j8 st) .none kV doc pm an cdv ct) ⟨us,[]⟩=pure (ps.zip us)) ps
theorem mkC(X:K.In h)(G:h.Ns A7 mg)(g:FnG K x st f pm cd)(O:N4 P w K mg base CX0 k f (fdM x x st pm cd) ps sp)(B:BdA x x st ps):F6 P w K mg base k x ps sp:=c0O g.i.F O (Y4 X G g.a) (g.i.F.binds fun _ _ _ _ _ _ us hl=>(B _ _ _ _ _ _).mp us hl)
theorem mkM(g:FnM K C x q st f pm cd)(cl:Cls K C)(O:N4 P w K mg base CX0 k f (fdM x q st pm cd) ps sp)(B:BdA x q st ps):a1N P w K mg base k x C ps sp:=⟨_,_,O,cl,⟨g.a,g.n,g.i.k⟩,g.i.F.binds fun _ _ _ _ _ _ us hl=>(B _ _ _ _ _ _).mp us hl⟩
theorem mkK{y:Str}(X:K.In h)(G:h.Ns A7 mg)(g:FnM K C d1z q st f pm cd)(y1:D4 K A7 y=some (some (.ref C)))(m:a5v K C=true)(kc:Z4 K (.ref C)=true)(O:N4 P w K mg base CX0 k f (fdM d1z q st pm cd) ps sp)(B:BdA d1z q st ps):b6B P w K mg base k y C ps sp:=⟨_,_,O,Y4 X G y1,⟨m,g.a,g.n,kc⟩,g.i.F.binds fun _ _ _ _ _ _ us hl=>(B _ _ _ _ _ _).mp us hl⟩
end
section
variable {P:C9}{w:World}{K:Fg}{mg:Str->Option Value}{base:Heap}{c:Cn}{f:Addr}{fd:a0G}(T:Txt K mg c)
abbrev c3e:List Str:=[d1A]
theorem c7m:C4 [d1A] c3e (j8 b8A):=by walk_at "sc"
theorem c3V:Q5 [d1A] (j8 b8A) (scF [ (".0",.local),("_law_cell",.local),("abs",.globalImplicit)]) "_law_cell" := by walk_at "c0"
include T in
theorem c8H(F:Fun K d1B d1B b8A f fd):N4 P w K mg base CX0 1 f fd c3e (b3E K):=fk F c7m fun _ _ _ _ _ _ hr nd=>d3 (o0 (D9 (c1B c7 c7 c7 (O1 c3V rfl (F3 (a6X b9j (c9 0) a8H (a8G c7))) (fun _ _ _ _ _=>J7) (fun _ _ _ _ _=>l6 b4X rfl T.d0T PyProof.Rows.boot_abs (o6 (c9 0)))))))
variable(b8Z:F6 P w K mg base 1 d1B c3e (b3E K))
abbrev b7w:List Str:=[d1C,d1D]
theorem c4F:C4 [d1C,d1D,"_law_more","_law_cell","_law_value_here","_law_first","_law_second"] b7w (j8 b7g):=by walk_at "sc"
include T in
theorem c5I(F:Fun K d1E d1E b7g f fd):N4 P w K mg base CX0 1 f fd b7w (M4 K):=fk F c4F fun _ _ _ _ _ _ hr nd=>c6 (A8 (J4 (F8 hr) (u0 (c9 0) c7) c7) (c6 (A9 2 nd c7) (c6 (A8 (J4 a3h (u0 (c9 0) c7) (l6 A1 rfl T.T5 o8 (o6 (u0 (c9 0) c7)))) (c6 (A9 3 nd (u0 (u0 (c9 0) c7) (u0 (c9 0) c7))) (c6 (b9l (c9 0) c7 c4t c7 b0t a6h) (c6 (A8 (J4 c1C (c9 3) c7) (d3 (a4i (c9 3) (a5D (c9 0) c7 a6h))) u5) (d3 (A9 2 nd (F5 T9 (F5 a1r (c9 3) c7) c7)))))) u5) (d3 (a4i (F5 a1r (F5 T9 (F5 a2W (u0 (c9 0) c7) c7) (c9 2)) c7) (a5D (c9 0) c7 a6h))))) u5) (c6 (A8 (J4 a4o (u0 (c9 0) c7) c7) (c6 (A9 4 nd (F5 a1r (u0 (c9 0) c7) (c9 1))) (c6 (a4i (F5 b2F (u0 (c9 0) c7) (c9 1)) (a5D (c9 0) c7 a6h)) (d3 (o0 (c9 4))))) u5) (c6 (A9 5 nd (F5 a1r (F5 a2W (u0 (c9 0) c7) c7) c7)) (c6 (A9 6 nd (F5 a1r (F5 a2W (c9 5) c7) c7)) (c6 (A8 (J4 a4o (c9 1) c7) (d3 (o0 (F5 a1r (F5 T9 (F5 a2W (c9 6) c7) (c9 5)) (c9 1)))) u5) (d3 (o0 (F5 a1r (F5 b2F (c9 6) c7) (c9 1))))))))
variable(J1:F6 P w K mg base 1 d1E b7w (M4 K))
abbrev c3d:List Str:=[d1C,d1D]
theorem c7l:C4 [d1C,d1D,d1F,d1G,"_law_near",d1H,"_law_way"] c3d (j8 c2p):=by walk_at "sc"
include T J1 in
theorem c8F(F:Fun K d1I d1I c2p f fd):N4 P w K mg base CX0 2 f fd c3d (b3D K):=fk F c7l fun _ _ _ _ _ _ hr nd=>c6 (A9 2 nd (D9 R0)) (c6 (M9 PassesOwn.never rfl (Q7 rfl T.a0F (o6 (c9 1))) (Q4 3 nd) (c6 (A9 4 nd (l6 (b4V rfl) rfl T.d0R PyProof.Rows.boot_min (C5 (F5 T9 (c9 3) c7) (F5 a2V (c9 1) c7)))) (c6 (A9 5 nd (D9 (C5 (c9 4) (v7 J1 hr (C5 (c9 0) (c9 1)))))) (c6 (A9 6 nd (v7 J1 hr (C5 (c9 0) c7))) (c6 (A8 (J4 a3h (c9 6) c7) (d3 (A9 5 nd (D9 (C5 (u0 (c9 5) c7) (c9 4))))) u5) (c6 (A8 (J4 (F8 hr) (c9 6) c7) (d3 (A9 5 nd (D9 (C5 (u0 (c9 5) c7) (v7 J1 hr (C5 (c9 0) (c9 1))))))) u5) (c6 (A8 (U6 (Z2 (U6 (a5C (J4 a4o (c9 6) c7) (a4h (J4 a3h (c9 6) c7)))) (W5 (J4 (F8 hr) (c9 1) c7)))) (d3 (A9 5 nd (D9 (o6 (c9 4))))) u5) (c6 (A8 (U6 (a5C (J4 (F8 hr) (c9 6) c7) (a4h (J4 a4o (c9 1) c7)))) (d3 (A9 5 nd (D9 (o6 (u0 (c9 5) c7))))) u5) (c6 (A8 (U6 (Z2 (J4 (F8 hr) (c9 3) (F5 a2V (c9 1) c7)) (W5 (U6 (a5C (J4 (F8 hr) (c9 6) c7) (a4h (J4 (F8 hr) (v7 J1 hr (C5 (c9 0) c7)) c7))))))) (d3 (A9 5 nd (D9 R0))) u5) (d3 (J0 (X1 u4 C2 C1 M3 (c9 2) (o6 (c9 5)))))))))))))) (d3 (o0 (c9 2))))
variable(b8Y:F6 P w K mg base 2 d1I c3d (b3D K))
abbrev b1i:List Str:=[d1F]
theorem b9N:C4 [d1F,d1J,d1K,d1G,d1L,d1M,d1N] b1i (j8 a4s):=by walk_at "sc"
theorem b6n:Q5 [d1F,d1J,d1K,d1G,d1L,d1M,d1N] (j8 a4s) (scF [ (".0",.local),(d1M,.local),(d1J,.free)]) d1M := by walk_at "c0"
theorem b6m:Q5 [d1F,d1J,d1K,d1G,d1L,d1M,d1N] (j8 a4s) (scF [ (".0",.local),(d1G,.local),("len",.globalImplicit),(d1J,.free),(d1F,.free)]) d1G := by walk_at "c0"
theorem b6l:Q5 [d1F,d1J,d1K,d1G,d1L,d1M,d1N] (j8 a4s) (scF [ (".0",.local),(d1G,.local),(d1F,.free),(d1N,.free)]) d1G := by walk_at "c0"
theorem b6k(env:Env):Q5 [d1G,d1F,d1J,d1K,"._law_k",d1L,d1M,d1N] (a8F (scF [ (".0",.local),(d1G,.local),(d1F,.free),(d1N,.free)]) env) (scF [ (".0",.local),(d1M,.local),(d1N,.free)]) d1M := by walk_at "c1"
include T in
theorem c0l(F:Fun K d1O d1O a4s f fd):N4 P w K mg base CX0 1 f fd b1i (a6p K):=fk F b9N fun _ _ _ _ _ _ hr nd=>c6 (A9 1 nd b0p) (c6 (M9 PassesOwn.never rfl (Q7 rfl T.a0F (o6 (l6 A1 rfl T.T5 o8 (o6 (c9 0))))) (Q4 2 nd) (d3 (M9 PassesOwn.never rfl (Q7 rfl T.a0F (o6 (l6 A1 rfl T.T5 o8 (o6 (c9 0))))) (Q4 3 nd) (d3 (A8 (U6 (Z2 (J4 (F8 hr) (u0 (c9 0) (c9 3)) (D9 R0)) (W5 (M8 (l6 (b4W rfl) rfl T.d0S PyProof.Rows.boot_any (o6 (O1 b6n rfl (F3 (u0 (c9 0) (c9 3))) (fun _ _ _ _ _=>J7) (fun _ _ _ _ _=>c1A hr (c9 0) (c9 2) rfl)))))))) (d3 (a2T hr (c9 1) (c9 3) O6)) u5))))) (c6 (A9 0 nd (O1 b6m rfl (Q7 rfl T.a0F (o6 (l6 A1 rfl T.T5 o8 (o6 (c9 0))))) (fun _ _ _ _ _=>J7) (fun _ _ _ _ _=>a4E (b4O hr (c9 0) (c9 2) rfl) (u0 (c9 1) (c9 0)) (F5 T9 (D9 (o6 (F5 a2V (l6 A1 rfl T.T5 o8 (o6 (c9 1))) c7))) (a6X c1t (u0 (c9 1) (c9 0)) (a8G c7) a8H))))) (c6 (A9 4 nd (b2B (b0o c7 O6 b2A))) (c6 (M9 PassesOwn.never rfl (Q7 rfl T.a0F (o6 (l6 A1 rfl T.T5 o8 (o6 (c9 0))))) (Q4 2 nd) (d3 (M9 PassesOwn.never rfl (Q7 rfl T.a0F (o6 (l6 A1 rfl T.T5 o8 (o6 (c9 0))))) (Q4 3 nd) (d3 (A8 (b4O hr (c9 3) (c9 4) rfl) (d3 (M9 PassesOwn.never rfl (F3 (u0 (c9 0) (c9 3))) (Q4 5 nd) (d3 (a2T hr (c9 4) (c9 5) O6)))) u5))))) (c6 (A9 6 nd (l6 b0u rfl T.b6E b0g (o6 (W6 (b1U rfl) rfl T.a0T A5 (o6 (c9 4)))))) (d3 (o0 (O1 b6l rfl (F3 (c9 6)) (fun _ _ _ _ _=>J7) (fun _ _ _ _ _=>O1 (b6k _) rfl (F3 (u0 (c9 1) (c9 0))) (fun _ _ _ _ _=>J7) (fun _ _ _ _ _=>X1 u4 b4J PySem.F.type_list_index b4S (c9 8) (o6 (c9 0))))))))))))
variable(a8s:F6 P w K mg base 1 d1O b1i (a6p K))
abbrev b7x:List Str:=[d1C]
theorem c4G:C4 [d1C,"_law_letters","_law_signs"] b7x (j8 b3P):=by walk_at "sc"
theorem c0L:Q5 [d1C,"_law_letters","_law_signs"] (j8 b3P) (scF [ (".0",.local),(d1G,.local),(d1E,.globalImplicit),(d1C,.free),("_law_signs",.free)]) d1G := by walk_at "c0"
include T J1 in
theorem c5J(F:Fun K d1P d1P b3P f fd):N4 P w K mg base CX0 2 f fd b7x (a9W K):=fk F c4G fun _ _ _ _ _ _ hr nd=>c6 (A9 1 nd C3) (c6 (A9 2 nd (F5 T9 (c9 1) C3)) (d3 (o0 (F5 T9 (u0 (c9 1) (v7 J1 hr (C5 (c9 0) c7))) (X1 PySem.F.plainAttrs_str PySem.F.slot_str_join PySem.F.type_str_join b6N C3 (o6 (O1 c0L rfl (Q7 rfl T.a0F (o6 (v7 J1 hr (C5 (c9 0) c7)))) (fun _ _ _ _ _=>J7) (fun _ _ _ _ _=>u0 (c9 3) (v7 J1 hr (C5 (c9 1) c7))))))))))
variable(b4w:F6 P w K mg base 2 d1P b7x (a9W K))
abbrev b4a:List Str:=[d1C]
theorem c2j:C4 [d1C,"_law_menu","_law_first","_law_by",d1Q,d1G,"_law_name_here"] b4a (j8 b3O):=by walk_at "sc"
include T J1 b4w in
theorem c3k(F:Fun K d1R d1R b3O f fd):N4 P w K mg base CX0 3 f fd b4a (a7Y K):=fk F c2j fun _ _ _ _ _ _ hr nd=>c6 (A9 1 nd (D9 (M0 C3 (M0 C3 (M0 C3 (b8l C3 C3 C3 C3 C3)))))) (c6 (A9 1 nd (F5 T9 (c9 1) (D9 (M0 C3 (M0 C3 (M0 C3 (b8l C3 C3 C3 C3 C3))))))) (c6 (A9 2 nd (v7 J1 hr (C5 (c9 0) c7))) (c6 (A9 3 nd (F5 T9 c7 (F5 a2W c7 (v7 J1 hr (C5 (c9 0) c7))))) (c6 (A9 4 nd (D9 R0)) (c6 (M9 PassesOwn.never rfl (Q7 rfl T.a0F (o6 (F5 T9 c7 (v7 J1 hr (C5 (c9 0) c7))))) (Q4 5 nd) (c6 (A9 6 nd (u0 (c9 1) (F5 a1r (F5 T9 (c9 2) (F5 a2W (c9 5) (c9 3))) c7))) (c6 (A8 (J4 (F8 hr) (v7 J1 hr (C5 (c9 0) c7)) c7) (d3 (A9 6 nd (v7 b4w hr (o6 (c9 0))))) u5) (d3 (A8 (T6 a9y (c9 6) (c9 4) rfl) (d3 (J0 (X1 u4 C2 C1 M3 (c9 4) (o6 (c9 6))))) u5))))) (d3 (o0 (c9 4))))))))
variable(b0f:F6 P w K mg base 3 d1R b4a (a7Y K))
abbrev b3Y:List Str:=[d1C]
theorem c2h:C4 [d1C] b3Y (j8 b3M):=by walk_at "sc"
include T J1 in
theorem c3i(F:Fun K d1S d1S b3M f fd):N4 P w K mg base CX0 2 f fd b3Y (a7W K):=fk F c2h fun _ _ _ _ _ _ hr nd=>d3 (o0 (u0 (D9 (c1B c7 c7 (F5 a2V (F5 a2V (F5 b9n c7 c7) c7) (v7 J1 hr (C5 (c9 0) c7))) (v7 J1 hr (C5 (c9 0) c7)))) (v7 J1 hr (C5 (c9 0) c7))))
variable(b0d:F6 P w K mg base 2 d1S b3Y (a7W K))
abbrev a8Z:List Str:=[d1C,d1Q]
theorem b7a:C4 [d1C,d1Q] a8Z (j8 a8O):=by walk_at "sc"
include T J1 b0d in
theorem b7C(F:Fun K d1T d1T a8O f fd):N4 P w K mg base CX0 3 f fd a8Z (a0M K):=fk F b7a fun _ _ _ _ _ _ hr nd=>c6 (A8 (J4 (F8 hr) (v7 J1 hr (C5 (c9 0) c7)) c7) (d3 (o0 (v7 b0d hr (o6 (c9 0))))) u5) (d3 (o0 (u0 (c9 1) (v7 J1 hr (C5 (c9 0) (l6 A1 rfl T.T5 o8 (o6 (c9 1))))))))
variable(a0D:F6 P w K mg base 3 d1T a8Z (a0M K))
abbrev b7y:List Str:=[d1C,d1Q]
theorem c4H:C4 [d1C,d1Q,"_law_kind",d1M,"_law_other"] b7y (j8 b7k):=by walk_at "sc"
include T J1 a0D in
theorem c5K(F:Fun K d1U d1U b7k f fd):N4 P w K mg base CX0 4 f fd b7y (a9X K):=fk F c4H fun _ _ _ _ _ _ hr nd=>c6 (A9 2 nd (u0 (D9 (b8l C3 C3 C3 C3 C3)) (v7 J1 hr (C5 (c9 0) c7)))) (c6 (A9 3 nd (v7 a0D hr (C5 (c9 0) (c9 1)))) (c6 (A9 4 nd (v7 a0D hr (C5 (c9 0) (c9 1)))) (c6 (A8 (J4 (F8 hr) (v7 J1 hr (C5 (c9 0) c7)) c7) (d3 (A9 4 nd (c9 3))) u5) (d3 (o0 (Q8 (a5E (c9 2) (c9 3) (c9 4))))))))
variable(b4x:F6 P w K mg base 4 d1U b7y (a9X K))
abbrev c3c:List Str:=[d1C,d1Q,d1V,d1D]
theorem c7k:C4 [d1C,d1Q,d1V,d1D,"_law_way","_law_name_here"] c3c (j8 c2m):=by walk_at "sc"
include T J1 a0D in
theorem c8E(F:Fun K d1W d1W c2m f fd):N4 P w K mg base CX0 4 f fd c3c (b3C K):=fk F c7k fun _ _ _ _ _ _ hr nd=>c6 (A8 (J4 (F8 hr) (c9 3) c7) (d3 (o0 (Q8 (C5 C3 (v7 a0D hr (C5 (c9 0) (c9 1))))))) u5) (c6 (A9 4 nd (v7 J1 hr (C5 (c9 0) c7))) (c6 (A9 5 nd (u0 (c9 1) (v7 J1 hr (C5 (c9 0) (l6 A1 rfl T.T5 o8 (o6 (c9 1))))))) (c6 (A8 (J4 a3h (c9 4) c7) (d3 (o0 (Q8 (a5E C3 (c9 5) (u0 (c9 2) (v7 J1 hr (C5 (c9 0) (l6 A1 rfl T.T5 o8 (o6 (c9 2)))))))))) u5) (c6 (A8 (J4 (F8 hr) (c9 4) c7) (d3 (o0 (Q8 (a5E C3 (c9 5) (v7 a0D hr (C5 (c9 0) (c9 1))))))) u5) (c6 (A8 (J4 (F8 hr) (c9 4) c7) (d3 (o0 (Q8 (C5 C3 (c9 5))))) u5) (d3 (o0 (u0 (D9 (C5 (Q8 (C5 C3 (v7 a0D hr (C5 (c9 0) (c9 1))))) (Q8 (o6 C3)))) (v7 J1 hr (C5 (c9 0) c7))))))))))
variable(b8X:F6 P w K mg base 4 d1W c3c (b3C K))
abbrev b4b:List Str:=[d1C]
theorem c2l:C4 [d1C,d1D,d1F,d1Q,d1V] b4b (j8 a8e):=by walk_at "sc"
theorem b8b:Q5 [d1C,d1D,d1F,d1Q,d1V] (j8 a8e) (scF [ (".0",.local),(d1G,.local),(d1U,.globalImplicit),(d1C,.free),(d1Q,.free)]) d1G := by walk_at "c0"
theorem b8a:Q5 [d1C,d1D,d1F,d1Q,d1V] (j8 a8e) (scF [ (".0",.local),(d1H,.local),(d1W,.globalImplicit),("len",.globalImplicit),(d1C,.free),(d1Q,.free),(d1V,.free)]) d1H := by walk_at "c0"
include T J1 b8Y a8s b0f b4x b8X in
theorem c3l(F:Fun K d1X d1X a8e f fd):N4 P w K mg base CX0 5 f fd b4b (a5N K):=fk F c2l fun _ _ _ _ _ _ hr nd=>c6 (A9 1 nd (F5 T9 c7 (v7 J1 hr (C5 (c9 0) c7)))) (c6 (A8 (J4 (F8 hr) (v7 J1 hr (C5 (c9 0) c7)) c7) (d3 (A9 1 nd (F5 T9 c7 (v7 J1 hr (C5 (c9 0) c7))))) u5) (c6 (A9 2 nd (v7 a8s hr (o6 (v7 b8Y hr (C5 (c9 0) (c9 1)))))) (c6 (A9 3 nd (v7 b0f hr (o6 (c9 0)))) (c6 (A9 4 nd (O1 b8b rfl (Q7 rfl T.a0F (o6 (F5 T9 c7 (v7 J1 hr (C5 (c9 0) c7))))) (fun _ _ _ _ _=>J7) (fun _ _ _ _ _=>v7 b4x hr (C5 (c9 1) (c9 4))))) (d3 (o0 (Q8 (C5 (O1 b8a rfl (F3 (c9 2)) (fun _ _ _ _ _=>J7) (fun _ _ _ _ _=>v7 b8X hr (c1B (c9 1) (c9 4) (c9 5) (l6 A1 rfl T.T5 o8 (o6 (c9 0)))))) (c9 2)))))))))
variable(a8u:F6 P w K mg base 5 d1X b4b (a5N K))
abbrev a1I:List Str:=[d1Y,d1Z]
theorem a7c:C4 [d1Y,d1Z] a1I (j8 a1H):=by walk_at "sc"
include T in
theorem a7q(F:Fun K "steps_into" "Plan.steps_into" a1H f fd):N4 P w K mg base CX0 1 f fd a1I (Y8 K):=fk F a7c fun _ _ _ _ _ _ hr nd=>d3 (o0 (W6 a0b rfl T.a0T A5 (o6 (u0 (V3 (c9 0)) (c9 1)))))
variable(T0:a1N P w K mg base 1 "steps_into" c.K6 a1I (Y8 K))
abbrev a7k:List Str:=[d2a]
theorem b5p:C4 [d2a,"steps",d1Z,d2b] a7k (j8 a4K):=by walk_at "sc"
theorem b2s:Q5 [d2a,"steps",d1Z,d2b] (j8 a4K) (scF [ (".0",.local),("at",.local),(d1Z,.free)]) "at" := by walk_at "c0"
include T in
theorem b5H(F:Fun K d2c d2c a4K f fd):N4 P w K mg base CX0 1 f fd a7k (a2v K c):=fk F b5p fun _ _ _ _ _ _ hr nd=>c6 (A9 1 nd (D9 (o6 (V5 T.a0Y rfl)))) (c6 (M9 PassesOwn.never rfl (a4j rfl T.a2B (o6 (c9 0))) (a4k rfl (X2 (Q4 2 nd) (X2 (Q4 3 nd) a2U))) (d3 (J0 (X1 u4 a4C a4B a4F (c9 1) (o6 (O1 b2s rfl (Q7 rfl T.a0F (o6 (l6 A1 rfl T.T5 o8 (o6 (c9 3))))) (fun _ _ _ _ _=>J7) (fun _ _ _ _ _=>Q8 (C5 (c9 3) (c9 0))))))))) (d3 (o0 (c9 1))))
variable(a1o:F6 P w K mg base 1 d2c a7k (a2v K c))
abbrev a4X:List Str:=[d1Y]
theorem b2c:C4 [d1Y] a4X (j8 a4Q):=by walk_at "sc"
include T a1o in
theorem b2k(F:Fun K "steps" "Plan.steps" a4Q f fd):N4 P w K mg base CX0 2 f fd a4X (a1f K c):=fk F b2c fun _ _ _ _ _ _ hr nd=>d3 (o0 (v7 a1o hr (o6 (V3 (c9 0)))))
variable(a1M:a1N P w K mg base 2 "steps" c.K6 a4X (a1f K c))
abbrev a2G:List Str:=[d1Y,d2d]
theorem a8M:C4 [d1Y,d2d] a2G (j8 a2F):=by walk_at "sc"
include T in
theorem a9e(F:Fun K "leads_to" "Plan.leads_to" a2F f fd):N4 P w K mg base CX0 1 f fd a2G (R1 K c):=fk F a8M fun _ _ _ _ _ _ hr nd=>c6 (A8 (T6 (b2E hr) (c9 1) (V5 T.a0Y rfl) (a1J _)) (d3 (o0 c7)) u5) (d3 (o0 (u0 (u0 (V3 (c9 0)) (u0 (c9 1) c7)) (u0 (c9 1) c7))))
variable(E4:a1N P w K mg base 1 "leads_to" c.K6 a2G (R1 K c))
abbrev a3W:List Str:=["row"]
theorem b0O:C4 ["row","kind"] a3W (j8 a3U):=by walk_at "sc"
include T in
theorem b1m(F:Fun K d2e d2e a3U f fd):N4 P w K mg base CX0 1 f fd a3W (a1E K):=fk F b0O fun _ _ _ _ _ _ hr nd=>c6 (A9 1 nd (u0 (c9 0) c7)) (c6 (A8 (J4 (F8 hr) (c9 1) C3) (d3 (o0 (D9 (C5 (u0 (u0 (c9 0) c7) c7) (u0 (u0 (c9 0) c7) c7))))) u5) (c6 (A8 (J4 (F8 hr) (c9 1) C3) (d3 (o0 (D9 (o6 (u0 (c9 0) c7))))) u5) (c6 (A8 (T6 a4n (c9 1) (Q8 (C5 C3 C3)) rfl) (d3 (o0 (D9 (o6 (u0 (c9 0) c7))))) u5) (d3 (o0 (D9 R0))))))
variable(a2n:F6 P w K mg base 1 d2e a3W (a1E K))
abbrev a7l:List Str:=["row"]
theorem b5q:C4 ["row","names","operand"] a7l (j8 a7d):=by walk_at "sc"
include T a2n in
theorem b5I(F:Fun K d2f d2f a7d f fd):N4 P w K mg base CX0 2 f fd a7l (a3A K):=fk F b5q fun _ _ _ _ _ _ hr nd=>c6 (A9 1 nd (D9 R0)) (c6 (M9 PassesOwn.never rfl (F3 (v7 a2n hr (o6 (c9 0)))) (Q4 2 nd) (d3 (A8 (U6 (a5C (M8 (l6 M6 rfl T.J9 u7 (C5 (c9 2) (Q9 rfl T.c6X b2v rfl)))) (a4h (T6 a9y (c9 2) (c9 1) rfl)))) (d3 (J0 (X1 u4 C2 C1 M3 (c9 1) (o6 (c9 2))))) u5))) (d3 (o0 (c9 1))))
variable(a5e:F6 P w K mg base 2 d2f a7l (a3A K))
abbrev b1h:List Str:=["row"]
theorem b9M:C4 ["row"] b1h (j8 b0T):=by walk_at "sc"
include T in
theorem c0k(F:Fun K "set_by" "set_by" b0T f fd):N4 P w K mg base CX0 1 f fd b1h (a4p K):=fk F b9M fun _ _ _ _ _ _ hr nd=>d3 (o0 (a4E (T6 a4n (u0 (c9 0) c7) (Q8 (a5E C3 C3 C3)) rfl) (u0 (c9 0) c7) a4l))
variable(a6a:F6 P w K mg base 1 "set_by" b1h (a4p K))
abbrev a4Y:List Str:=[d1Y]
theorem b2d:C4 [d1Y,"found","row"] a4Y (j8 a4R):=by walk_at "sc"
include T a5e a6a in
theorem b2l(F:Fun K "names" "Plan.names" a4R f fd):N4 P w K mg base CX0 3 f fd a4Y (a2j K):=fk F b2d fun _ _ _ _ _ _ hr nd=>c6 (A9 1 nd (D9 R0)) (c6 (M9 PassesOwn.never rfl (F3 (V3 (c9 0))) (Q4 2 nd) (c6 (J0 (X1 u4 a4C a4B a4F (c9 1) (o6 (v7 a5e hr (o6 (c9 2)))))) (d3 (A8 (J4 a5G (v7 a6a hr (o6 (c9 2))) a4l) (d3 (J0 (X1 u4 C2 C1 M3 (c9 1) (o6 (v7 a6a hr (o6 (c9 2))))))) u5)))) (d3 (o0 (c4q rfl rfl T.b6E b0g rfl T.d0Q PyProof.Rows.boot_set (c9 1)))))
variable(a2R:a1N P w K mg base 3 "names" c.K6 a4Y (a2j K))
abbrev a9d:List Str:=["row"]
theorem b7e:C4 ["row"] a9d (j8 a8S):=by walk_at "sc"
include T in
theorem b7G(F:Fun K "deed_of" "deed_of" a8S f fd):N4 P w K mg base CX0 1 f fd a9d (a3j K):=fk F b7e fun _ _ _ _ _ _ hr nd=>d3 (o0 (a4E (J4 (F8 hr) (u0 (c9 0) c7) C3) (u0 (c9 0) c7) a4l))
variable(a6A:F6 P w K mg base 1 "deed_of" a9d (a3j K))
abbrev a4Z:List Str:=[d1Y]
theorem b2e:C4 [d1Y,"found","row","deed"] a4Z (j8 a4S):=by walk_at "sc"
include T a6A in
theorem b2m(F:Fun K "deeds" "Plan.deeds" a4S f fd):N4 P w K mg base CX0 2 f fd a4Z (a2k K):=fk F b2e fun _ _ _ _ _ _ hr nd=>c6 (A9 1 nd b6M) (c6 (M9 PassesOwn.never rfl (F3 (V3 (c9 0))) (Q4 2 nd) (c6 (A9 3 nd (v7 a6A hr (o6 (c9 2)))) (d3 (A8 (J4 a5G (c9 3) a4l) (d3 (a2T hr (c9 1) (c9 3) O6)) u5)))) (d3 (o0 (W6 (b1T rfl) rfl T.a0T A5 (o6 (c9 1))))))
variable(a2S:a1N P w K mg base 2 "deeds" c.K6 a4Z (a2k K))
abbrev a7j:List Str:=[d2a]
theorem b5o:C4 [d2a] a7j (j8 a4J):=by walk_at "sc"
theorem b2r:a5i [d2a] (j8 a4J) (scF [ (".0",.local),(d1Z,.local),(d2b,.local),("len",.globalImplicit)]) d1Z d2b := by walk_at "c2"
include T in
theorem b5G(F:Fun K d2g d2g a4J f fd):N4 P w K mg base CX0 1 f fd a7j (a2u K):=fk F b5o fun _ _ _ _ _ _ hr nd=>d3 (o0 (b0q b2r rfl (a4j rfl T.a2B (o6 (c9 0))) (fun _ _ _ _ _=>b9k (J4 (F8 hr) (l6 A1 rfl T.T5 o8 (o6 (c9 1))) c7)) (fun _ _ _ _ _=>c9 0)))
variable(a1n:F6 P w K mg base 1 d2g a7j (a2u K))
abbrev a4W:List Str:=[d1Y]
theorem b2b:C4 [d1Y] a4W (j8 a4P):=by walk_at "sc"
include T a1n in
theorem b2j(F:Fun K "stops" "Plan.stops" a4P f fd):N4 P w K mg base CX0 2 f fd a4W (a0C K):=fk F b2b fun _ _ _ _ _ _ hr nd=>d3 (o0 (v7 a1n hr (o6 (V3 (c9 0)))))
variable(a0c:a1N P w K mg base 2 "stops" c.K6 a4W (a0C K))
abbrev b7v:List Str:=[d2h,d1D]
theorem c4E:C4 [d2h,d1D,"_law_into","_law_leads"] b7v (j8 b0S):=by walk_at "sc"
theorem c0K:Q5 [d2h,d1D,"_law_into","_law_leads"] (j8 b0S) (scF [ (".0",.local),(d1G,.local),(d2h,.free)]) d1G := by walk_at "c0"
theorem c0J:Q5 [d2h,d1D,"_law_into","_law_leads"] (j8 b0S) (scF [ (".0",.local),("_law_step",.local),(d2h,.free)]) "_law_step" := by walk_at "c0"
include T T0 a1M E4 a2R a2S a0c in
theorem c5H(F:Fun K d2i d2i b0S f fd):N4 P w K mg base CX0 4 f fd b7v (a4G K c):=fk F c4E fun _ _ _ _ _ _ hr nd=>c6 (a2M (n:=2) nd rfl rfl c0K rfl (Q7 rfl T.a0F (o6 (c9 1))) (fun _ _ _ _ _=>J7) (fun _ _ _ _ _=>a3g T0 hr (by decide) (c9 1) (o6 (c9 0)))) (c6 (a2M (n:=3) nd rfl rfl c0J rfl (F3 (a1Z a1M hr (by decide) (c9 0))) (fun _ _ _ _ _=>J7) (fun _ _ _ _ _=>a3g E4 hr (by decide) (c9 1) (o6 (c9 0)))) (d3 (o0 (D9 (M0 (a1Z a1M hr (by decide) (c9 0)) (b8l (c9 2) (c9 3) (a1Z a0c hr (by decide) (c9 0)) (a1Z a2S hr (by decide) (c9 0)) (a1Z a2R hr (by decide) (c9 0))))))))
variable(a9n:F6 P w K mg base 4 d2i b7v (a4G K c))
abbrev b7z:List Str:=[d2j]
theorem c4I:C4 [d2j,"_law_twin"] b7z (j8 b0W):=by walk_at "sc"
theorem c0N:Q5 [d2j,"_law_twin"] (j8 b0W) (scF [ (".0",.local),(d1H,.local),("list",.globalImplicit)]) d1H := by walk_at "c0"
theorem c0M:Q5 [d2j,"_law_twin"] (j8 b0W) (scF [ (".0",.local),(d1H,.local),("list",.globalImplicit)]) d1H := by walk_at "c0"
include T in
theorem c5L(F:Fun K d2k d2k b0W f fd):N4 P w K mg base CX0 1 f fd b7z (a9Y K):=fk F c4I fun _ _ _ _ _ _ hr nd=>c6 (a2M (n:=1) nd rfl rfl c0N rfl (F3 (c9 0)) (fun _ _ _ _ _=>J7) (fun _ _ _ _ _=>W6 a0b rfl T.a0T A5 (o6 (c9 0)))) (c6 (a4i (O1 c0M rfl (F3 (u0 (c9 0) c7)) (fun _ _ _ _ _=>J7) (fun _ _ _ _ _=>W6 a0b rfl T.a0T A5 (o6 (c9 0)))) (a5D (c9 1) c7 a6h)) (d3 (o0 (c9 1))))
variable(b4y:F6 P w K mg base 1 d2k b7z (a9Y K))
abbrev b3Z:List Str:=[d1C,d2l,d1F]
theorem c2i:C4 [d1C,d2l,d1F,"_law_at"] b3Z (j8 b3N):=by walk_at "sc"
include T J1 in
theorem c3j(F:Fun K d2m d2m b3N f fd):N4 P w K mg base CX0 2 f fd b3Z (a7X K):=fk F c2i fun _ _ _ _ _ _ hr nd=>c6 (A9 3 nd (v7 J1 hr (C5 (c9 0) (l6 A1 rfl T.T5 o8 (o6 (c9 1)))))) (c6 (a4i (Q8 (o6 C3)) (a5D (c9 1) (c9 3) a6h)) (c6 (J0 (X1 u4 C2 C1 M3 (c9 1) (o6 (Q8 (C5 C3 C3))))) (c6 (J0 (X1 u4 C2 C1 M3 (u0 (c9 2) (c9 3)) (o6 c7))) (c6 (J0 (b0s u4 PySem.F.slot_list_clear PySem.F.type_list_clear b4T (u0 (c9 2) c7))) (d3 (J0 (X1 u4 C2 C1 M3 (c9 2) (o6 (D9 R0)))))))))
variable(b0e:F6 P w K mg base 2 d2m b3Z (a7X K))
abbrev b3X:List Str:=["_law_thing"]
theorem c2g:C4 ["_law_thing"] b3X (j8 b3L):=by walk_at "sc"
include T in
theorem c3h(F:Fun K d2n d2n b3L f fd):N4 P w K mg base CX0 1 f fd b3X (a7V K):=fk F c2g fun _ _ _ _ _ _ hr nd=>d3 (o0 (W7 (l6 M6 rfl T.J9 u7 (C5 (c9 0) (Q9 rfl T.c6Y b2w rfl))) (Y6 (b4R (l6 M6 rfl T.J9 u7 (C5 (c9 0) (Q9 rfl T.c4k b1Q rfl)))))))
variable(b0c:F6 P w K mg base 1 d2n b3X (a7V K))
abbrev b1l:List Str:=[d2h,d2l,d1F]
theorem b9Q:C4 [d2h,d2l,d1F,"_law_row_here",d1H,d1M] b1l (j8 b0V):=by walk_at "sc"
include T b0c in
theorem c0o(F:Fun K d2o d2o b0V f fd):N4 P w K mg base CX0 2 f fd b1l (a4r K):=fk F b9Q fun _ _ _ _ _ _ hr nd=>c6 (A8 (U6 (Z2 (O3 (M8 (l6 M6 rfl T.J9 u7 (C5 (V3 (c9 0)) (Q9 rfl T.a0T A5 rfl))))) (Z2 (T6 (a4m hr) (V3 (c9 0)) (c9 1) (a1J _)) (W5 (O3 (M8 (l6 M6 rfl T.J9 u7 (C5 (V3 (c9 0)) (Q9 rfl T.a0T A5 rfl))))))))) (d3 (o0 O6)) u5) (c6 (A8 (T6 (a4m hr) (V3 (c9 0)) (c9 2) (a1J _)) (d3 (o0 O6)) u5) (c6 (M9 PassesOwn.never rfl (F3 (V3 (c9 0))) (Q4 3 nd) (d3 (A8 (O3 (M8 (l6 M6 rfl T.J9 u7 (C5 (c9 3) (Q9 rfl T.b0j a1k rfl))))) (d3 (o0 O6)) u5))) (c6 (M9 PassesOwn.never rfl (F3 (V3 (c9 0))) (Q4 4 nd) (c6 (A8 (O3 (M8 (l6 M6 rfl T.J9 u7 (C5 (c9 4) (Q9 rfl T.a0T A5 rfl))))) (d3 (o0 O6)) u5) (d3 (M9 PassesOwn.never rfl (F3 (c9 4)) (Q4 5 nd) (d3 (A8 (O3 (M8 (v7 b0c hr (o6 (c9 5))))) (d3 (o0 O6)) u5)))))) (d3 (o0 O6)))))
variable(a6c:F6 P w K mg base 2 d2o b1l (a4r K))
abbrev b1g:List Str:=["come_by",d1Z]
theorem b9L:C4 ["come_by",d1Z,"way"] b1g (j8 b0R):=by walk_at "sc"
include T in
theorem c0j(F:Fun K "traced" "traced" b0R f fd):N4 P w K mg base CX0 1 f fd b1g (a6o K c):=fk F b9L fun _ _ _ _ _ _ hr nd=>c6 (A9 2 nd (D9 (o6 (a6j hr (c9 0) (c9 1) (fun _ _=>rfl))))) (c6 (a3e PassesOwn.never (T6 (b2C hr) (u0 (c9 2) (a7G a5B c7)) (V5 T.a0Y rfl) (a1J _)) (d3 (J0 (X1 u4 C2 C1 M3 (c9 2) (o6 (a6j hr (c9 0) (u0 (u0 (c9 2) (a7G a5B c7)) c7) (fun _ _=>rfl))))))) (c6 (J0 (b0s u4 PySem.F.slot_list_reverse PySem.F.type_list_reverse b1S (c9 2))) (d3 (o0 (c9 2)))))
variable(a8r:F6 P w K mg base 1 "traced" b1g (a6o K c))
abbrev b1d:List Str:=[d2p,d1Z]
theorem b9I:C4 [d2p,d1Z,"come_by","order","done","here","at","target"] b1d (j8 b0Q):=by walk_at "sc"
include T a8r in
theorem c0g(F:Fun K "way_to" "way_to" b0Q f fd):N4 P w K mg base CX0 2 f fd b1d (a6l K c):=fk F b9I fun _ _ _ _ _ _ hr nd=>c6 (A9 2 nd (b2B (b0o c7 (V5 T.a0Y rfl) b2A))) (c6 (A9 3 nd (D9 (o6 c7))) (c6 (A9 4 nd c7) (c6 (a3e PassesOwn.never (a0L hr (c9 1) (c9 2) rfl) (c6 (A9 5 nd (u0 (c9 3) (c9 4))) (c6 (b4P (n:=4) nd rfl (Or.inl rfl) c7 b0t) (d3 (M9 PassesOwn.never rfl (a4j rfl T.a2B (o6 (u0 (V3 (c9 0)) (c9 5)))) (a4k rfl (X2 (Q4 6 nd) (X2 (Q4 7 nd) a2U))) (d3 (A8 (a0L hr (c9 7) (c9 2) rfl) (c6 (a2T hr (c9 2) (c9 7) (Q8 (C5 (c9 5) (c9 6)))) (d3 (J0 (X1 u4 C2 C1 M3 (c9 3) (o6 (c9 7)))))) u5))))))) (d3 (o0 (v7 a8r hr (C5 (c9 2) (c9 1))))))))
variable(a8o:F6 P w K mg base 2 "way_to" b1d (a6l K c))
abbrev a7m:List Str:=[d2q]
theorem b5r:C4 [d2q] a7m (j8 a7e):=by walk_at "sc"
include T in
theorem b5J(F:Fun K d2r d2r a7e f fd):N4 P w K mg base CX0 1 f fd a7m (a0N K):=fk F b5r fun _ _ _ _ _ _ hr nd=>d3 (o0 (W7 (l6 M6 rfl T.J9 u7 (C5 (c9 0) (Q9 rfl T.c6Y b2w rfl))) (Y6 (b4R (l6 M6 rfl T.J9 u7 (C5 (c9 0) (Q9 rfl T.c4k b1Q rfl)))))))
variable(Z1:F6 P w K mg base 1 d2r a7m (a0N K))
abbrev a7o:List Str:=[d2q,"many"]
theorem b5t:C4 [d2q,"many"] a7o (j8 a7g):=by walk_at "sc"
include T Z1 in
theorem b5L(F:Fun K d2s d2s a7g f fd):N4 P w K mg base CX0 2 f fd a7o (a1s K):=fk F b5t fun _ _ _ _ _ _ hr nd=>d3 (o0 (W7 (v7 Z1 hr (o6 (c9 0))) (Y6 (b0r a7H a3h c7 (c9 0) (c9 1)))))
variable(a0R:F6 P w K mg base 2 d2s a7o (a1s K))
abbrev a9a:List Str:=[d2p,d2q]
theorem b7b:C4 [d2p,d2q] a9a (j8 a8P):=by walk_at "sc"
include T Z1 a0R in
theorem b7D(F:Fun K d2t d2t a8P f fd):N4 P w K mg base CX0 3 f fd a9a (a4H K c):=fk F b7b fun _ _ _ _ _ _ hr nd=>c6 (A8 (U6 (Z2 (O3 (M8 (l6 b3x rfl T.J9 u7 (C5 (c9 1) (Q9 rfl T.b0j a1k rfl))))) (W5 (J4 (a5F hr) (l6 b3w rfl T.T5 o8 (o6 (c9 1))) c7)))) (d3 (o0 O6)) u5) (c6 (A8 (U6 (Z2 (O3 (M8 (v7 Z1 hr (o6 (a6i a7I (c9 1) c7 (fun _ _=>rfl)))))) (W5 (O3 (M8 (v7 Z1 hr (o6 (a6i a7I (c9 1) c7 (fun _ _=>rfl))))))))) (d3 (o0 O6)) u5) (c6 (A8 (T6 (b2E hr) (c9 1) (V5 T.a0Y rfl) (a1J _)) (d3 (o0 O6)) u5) (d3 (o0 (W7 (v7 a0R hr (C5 (a6i a7I (c9 1) c7 (fun _ _=>rfl)) (l6 A1 rfl T.T5 o8 (o6 (V3 (c9 0)))))) (Y6 (v7 a0R hr (C5 (a6i a7I (c9 1) c7 (fun _ _=>rfl)) (l6 A1 rfl T.T5 o8 (o6 (u0 (V3 (c9 0)) (a6i a7I (c9 1) c7 (fun _ _=>rfl)))))))))))))
variable(a6y:F6 P w K mg base 3 d2t a9a (a4H K c))
abbrev b1j:List Str:=[d2p,"way"]
theorem b9O:C4 [d2p,"way"] b1j (j8 a5P):=by walk_at "sc"
theorem b6p:Q5 [d2p,"way"] (j8 a5P) (scF [ (".0",.local),(d2d,.local),(d2t,.globalImplicit),(d2p,.free)]) d2d := by walk_at "c0"
theorem b6o:Q5 [d2p,"way"] (j8 a5P) (scF [ (".0",.local),("k",.local),(d2p,.free),("way",.free)]) "k" := by walk_at "c0"
include T E4 a6y in
theorem c0m(F:Fun K "is_way" "is_way" a5P f fd):N4 P w K mg base CX0 4 f fd b1j (a4q K c):=fk F b9O fun _ _ _ _ _ _ hr nd=>c6 (A8 (U6 (Z2 (O3 (M8 (l6 M6 rfl T.J9 u7 (C5 (c9 1) (Q9 rfl T.a0T A5 rfl))))) (W5 (J4 (F8 hr) (l6 A1 rfl T.T5 o8 (o6 (c9 1))) c7)))) (d3 (o0 O6)) u5) (c6 (A8 (O3 (M8 (l6 (a3x rfl) rfl T.b9i a1O (o6 (O1 b6p rfl (F3 (c9 1)) (fun _ _ _ _ _=>J7) (fun _ _ _ _ _=>v7 a6y hr (C5 (c9 1) (c9 0)))))))) (d3 (o0 O6)) u5) (d3 (o0 (l6 (a3x rfl) rfl T.b9i a1O (o6 (O1 b6o rfl (b4Q rfl T.a0F (C5 c7 (l6 A1 rfl T.T5 o8 (o6 (c9 1))))) (fun _ _ _ _ _=>J7) (fun _ _ _ _ _=>a6Y (F8 hr) (a3g E4 hr (by decide) (c9 1) (o6 (u0 (c9 2) (F5 a2V (c9 0) c7)))) (u0 (u0 (c9 2) (c9 0)) c7))))))))
variable(a6b:F6 P w K mg base 4 "is_way" b1j (a4q K c))
abbrev a5U:List Str:=[d2p,"way"]
theorem b3I:C4 [d2p,"way"] a5U (j8 a3E):=by walk_at "sc"
theorem b1C:Q5 [d2p,"way"] (j8 a3E) (scF [ (".0",.local),(d2d,.local),(d2p,.free)]) d2d := by walk_at "c0"
include T E4 in
theorem b4f(F:Fun K d2u d2u a3E f fd):N4 P w K mg base CX0 2 f fd a5U (a1D K c):=fk F b3I fun _ _ _ _ _ _ hr nd=>d3 (o0 (O1 b1C rfl (F3 (c9 1)) (fun _ _ _ _ _=>J7) (fun _ _ _ _ _=>a3g E4 hr (by decide) (c9 1) (o6 (c9 0)))))
variable(a2y:F6 P w K mg base 2 d2u a5U (a1D K c))
abbrev a7p:List Str:=[d2p,"goes_by",d1Z]
theorem b5u:C4 [d2p,"goes_by",d1Z,"way",d2d] a7p (j8 a7h):=by walk_at "sc"
include T E4 in
theorem b5M(F:Fun K d2v d2v a7h f fd):N4 P w K mg base CX0 2 f fd a7p (a3C K c):=fk F b5u fun _ _ _ _ _ _ hr nd=>c6 (A9 3 nd (D9 R0)) (c6 (A9 4 nd (a6j hr (c9 1) (c9 2) (fun _ _=>rfl))) (c6 (a3e PassesOwn.never (J4 a5G (c9 4) a4l) (c6 (J0 (X1 u4 C2 C1 M3 (c9 3) (o6 (c9 4)))) (d3 (A9 4 nd (a6j hr (c9 1) (a3g E4 hr (by decide) (c9 0) (o6 (c9 4))) (fun _ _=>rfl)))))) (d3 (o0 (c9 3)))))
variable(a5g:F6 P w K mg base 2 d2v a7p (a3C K c))
abbrev b1e:List Str:=[d2p,d1Z]
theorem b9J:C4 [d2p,d1Z,"goes_by","order","done","here",d2d] b1e (j8 a8b):=by walk_at "sc"
theorem b6i:Q5 [d2p,d1Z,"goes_by","order","done","here",d2d] (j8 a8b) (scF [(".0",.local),("stop",.local)]) "stop" := by walk_at "c0"
include T T0 a0c a5g in
theorem c0h(F:Fun K "way_on" "way_on" a8b f fd):N4 P w K mg base CX0 3 f fd b1e (a6m K c):=fk F b9J fun _ _ _ _ _ _ hr nd=>c6 (A9 2 nd (W6 (b1V rfl) rfl T.c9o PyProof.Rows.boot_dict (o6 (O1 b6i rfl (F3 (a1Z a0c hr (by decide) (c9 0))) (fun _ _ _ _ _=>J7) (fun _ _ _ _ _=>Q8 (C5 (c9 0) a4l)))))) (c6 (A9 3 nd (a1Z a0c hr (by decide) (c9 0))) (c6 (A9 4 nd c7) (c6 (a3e PassesOwn.never (a0L hr (c9 1) (c9 2) rfl) (c6 (A9 5 nd (u0 (c9 3) (c9 4))) (c6 (b4P (n:=4) nd rfl (Or.inl rfl) c7 b0t) (d3 (M9 PassesOwn.never rfl (F3 (a3g T0 hr (by decide) (c9 0) (o6 (c9 5)))) (Q4 6 nd) (d3 (A8 (U6 (a5C (T6 (b2C hr) (c9 6) (V5 T.a0Y rfl) (a1J _)) (a4h (a0L hr (u0 (c9 6) c7) (c9 2) rfl)))) (c6 (a2T hr (c9 2) (u0 (c9 6) c7) (c9 6)) (d3 (J0 (X1 u4 C2 C1 M3 (c9 3) (o6 (u0 (c9 6) c7)))))) u5))))))) (d3 (o0 (v7 a5g hr (a5E (c9 0) (c9 2) (c9 1))))))))
variable(a8p:F6 P w K mg base 3 "way_on" b1e (a6m K c))
abbrev a5T:List Str:=[d2h,d1D]
theorem b3H:C4 [d2h,d1D,d1G,"_law_way","_law_on","_law_end"] a5T (j8 a5O):=by walk_at "sc"
include T a8o a6b a2y a8p in
theorem b4e(F:Fun K d2w d2w a5O f fd):N4 P w K mg base CX0 5 f fd a5T (a2N K c):=fk F b3H fun _ _ _ _ _ _ hr nd=>c6 (M9 PassesOwn.never rfl (Q7 rfl T.a0F (o6 (c9 1))) (Q4 2 nd) (c6 (A9 3 nd (v7 a8o hr (C5 (c9 0) (c9 2)))) (c6 (A8 (U6 (Z2 (O3 (M8 (v7 a6b hr (C5 (c9 0) (c9 3))))) (W5 (J4 (a5F hr) (u0 (v7 a2y hr (C5 (c9 0) (c9 3))) (a7G a5B c7)) (c9 2))))) (d3 (o0 O6)) u5) (c6 (A9 4 nd (v7 a8p hr (C5 (c9 0) (c9 2)))) (d3 (A8 (T6 (b9o hr) (c9 4) (D9 R0) (a1J _)) (c6 (A9 5 nd (u0 (v7 a2y hr (C5 (c9 0) (c9 4))) (a7G a5B c7))) (d3 (A8 (U6 (Z2 (O3 (M8 (v7 a6b hr (C5 (c9 0) (F5 T9 (c9 3) (c9 4)))))) (W5 (J4 (a5F hr) (u0 (V3 (c9 0)) (c9 5)) (D9 R0))))) (d3 (o0 O6)) u5))) u5)))))) (d3 (o0 O6))
variable(a3M:F6 P w K mg base 5 d2w a5T (a2N K c))
abbrev a3n:List Str:=["things","at","least"]
theorem a9O:C4 ["things","at","least"] a3n (j8 a3l):=by walk_at "sc"
include T in
theorem a9Q(F:Fun K d2x d2x a3l f fd):N4 P w K mg base CX0 1 f fd a3n (a1l K):=fk F a9O fun _ _ _ _ _ _ hr nd=>c6 (A8 (U6 (Z2 (O3 (M8 (l6 M6 rfl T.J9 u7 (C5 (c9 0) (Q9 rfl T.a0T A5 rfl))))) (W5 (J4 a3h (l6 A1 rfl T.T5 o8 (o6 (c9 0))) (c9 2))))) (d3 a3f) u5) (d3 (A8 (J4 a4o (l6 A1 rfl T.T5 o8 (o6 (c9 0))) (V5 T.c9n rfl)) (d3 a3f) u5))
variable(a1L:F6 P w K mg base 1 d2x a3n (a1l K))
abbrev a9b:List Str:=[d2q]
theorem b7c:C4 [d2q] a9b (j8 a6s):=by walk_at "sc"
theorem b4s:Q5 [d2q] (j8 a6s) (scF [ (".0",.local),("sign",.local),("LETTERS",.globalImplicit),("FIGURES",.globalImplicit)]) "sign" := by walk_at "c0"
include T in
theorem b7E(F:Fun K "is_name" "is_name" a6s f fd):N4 P w K mg base CX0 1 f fd a9b (a0x K):=fk F b7c fun _ _ _ _ _ _ hr nd=>c6 (A8 (U6 (Z2 (O3 (M8 (l6 M6 rfl T.J9 u7 (C5 (c9 0) (Q9 rfl T.c6X b2v rfl))))) (W5 (O3 (b6L a7H a7H c7 (l6 A1 rfl T.T5 o8 (o6 (c9 0))) (V5 T.b1N rfl)))))) (d3 (o0 O6)) u5) (d3 (o0 (W7 (a2a a4n (u0 (c9 0) c7) (V5 T.b3s rfl) rfl) (Y6 (l6 (a3x rfl) rfl T.b9i a1O (o6 (O1 b4s rfl (c1x (c9 0)) (fun _ _ _ _ _=>J7) (fun _ _ _ _ _=>a2a a4n (c9 0) (F5 T9 (V5 T.b3s rfl) (V5 T.c1d rfl)) rfl))))))))
variable(a0V:F6 P w K mg base 1 "is_name" a9b (a0x K))
abbrev a7n:List Str:=[d2q]
theorem b5s:C4 [d2q] a7n (j8 a7f):=by walk_at "sc"
include T Z1 in
theorem b5K(F:Fun K d2y d2y a7f f fd):N4 P w K mg base CX0 2 f fd a7n (a3B K):=fk F b5s fun _ _ _ _ _ _ hr nd=>d3 (o0 (W7 (v7 Z1 hr (o6 (c9 0))) (Y6 (b0r a7H a3h c7 (c9 0) (V5 T.c6E rfl)))))
variable(a5f:F6 P w K mg base 2 d2y a7n (a3B K))
abbrev a4T:List Str:=[d2q]
theorem b1Y:C4 [d2q] a4T (j8 a4L):=by walk_at "sc"
include T a0V a5f in
theorem b2g(F:Fun K d2z d2z a4L f fd):N4 P w K mg base CX0 3 f fd a4T (a0j K):=fk F b1Y fun _ _ _ _ _ _ hr nd=>d3 (o0 (c4r (v7 a0V hr (o6 (c9 0))) (Y6 (v7 a5f hr (o6 (c9 0))))))
variable(X9:F6 P w K mg base 3 d2z a4T (a0j K))
abbrev a9c:List Str:=[d2q]
theorem b7d:C4 [d2q] a9c (j8 a8Q):=by walk_at "sc"
include T X9 in
theorem b7F(F:Fun K "is_deed" "is_deed" a8Q f fd):N4 P w K mg base CX0 4 f fd a9c (a4I K c):=fk F b7d fun _ _ _ _ _ _ hr nd=>c6 (A8 (U6 (Z2 (O3 (M8 (l6 M6 rfl T.J9 u7 (C5 (c9 0) (Q9 rfl T.b0j a1k rfl))))) (W5 (J4 (a5F hr) (l6 A1 rfl T.T5 o8 (o6 (c9 0))) c7)))) (d3 (o0 O6)) u5) (d3 (o0 (W7 (a2a b9p (u0 (c9 0) c7) (V5 T.b4I rfl) rfl) (W7 (v7 X9 hr (o6 (u0 (c9 0) c7))) (Y6 (v7 X9 hr (o6 (u0 (c9 0) c7))))))))
variable(a6z:F6 P w K mg base 4 "is_deed" a9c (a4I K c))
abbrev b1k:List Str:=[d2q]
theorem b9P:C4 [d2q,"kind","rest"] b1k (j8 b0U):=by walk_at "sc"
include T a0V X9 a6z in
theorem c0n(F:Fun K "is_row" "is_row" b0U f fd):N4 P w K mg base CX0 5 f fd b1k (a6q K c):=fk F b9P fun _ _ _ _ _ _ hr nd=>c6 (A8 (U6 (Z2 (O3 (M8 (l6 M6 rfl T.J9 u7 (C5 (c9 0) (Q9 rfl T.b0j a1k rfl))))) (W5 (J4 (F8 hr) (l6 A1 rfl T.T5 o8 (o6 (c9 0))) c7)))) (d3 (o0 O6)) u5) (c6 (A9 1 nd (u0 (c9 0) c7)) (c6 (A9 2 nd (a6X c1t (c9 0) (a8G c7) a8H)) (c6 (A8 (J4 (F8 hr) (c9 1) C3) (d3 (o0 (W7 (a6Y (F8 hr) (l6 A1 rfl T.T5 o8 (o6 (c9 2))) c7) (W7 (v7 a0V hr (o6 (u0 (c9 2) c7))) (Y6 (v7 a6z hr (o6 (u0 (c9 2) c7)))))))) u5) (c6 (A8 (J4 (F8 hr) (c9 1) C3) (d3 (o0 (W7 (a6Y (F8 hr) (l6 A1 rfl T.T5 o8 (o6 (c9 2))) c7) (W7 (v7 a0V hr (o6 (u0 (c9 2) c7))) (Y6 (v7 X9 hr (o6 (u0 (c9 2) c7)))))))) u5) (c6 (A8 (J4 (F8 hr) (c9 1) C3) (d3 (o0 (W7 (a6Y (F8 hr) (l6 A1 rfl T.T5 o8 (o6 (c9 2))) c7) (Y6 (v7 a0V hr (o6 (u0 (c9 2) c7))))))) u5) (c6 (A8 (T6 a4n (c9 1) (Q8 (C5 C3 C3)) rfl) (d3 (o0 (W7 (a6Y (F8 hr) (l6 A1 rfl T.T5 o8 (o6 (c9 2))) c7) (Y6 (v7 X9 hr (o6 (u0 (c9 2) c7))))))) u5) (d3 (o0 (W7 (a6Y (F8 hr) (c9 1) C3) (Y6 (a6Y (F8 hr) (l6 A1 rfl T.T5 o8 (o6 (c9 2))) c7)))))))))))
variable(a8t:F6 P w K mg base 5 "is_row" b1k (a6q K c))
abbrev a4V:List Str:=["rights"]
theorem b2a:C4 ["rights","k","right"] a4V (j8 a4N):=by walk_at "sc"
include T in
theorem b2i(F:Fun K d2A d2A a4N f fd):N4 P w K mg base CX0 1 f fd a4V (a1e K):=fk F b2a fun _ _ _ _ _ _ hr nd=>d3 (M9 PassesOwn.never rfl (a4j rfl T.a2B (o6 (c9 0))) (a4k rfl (X2 (Q4 1 nd) (X2 (Q4 2 nd) a2U))) (d3 (A8 (O3 (M8 (c9 2))) (d3 a3f) u5)))
variable(a0y:F6 P w K mg base 1 d2A a4V (a1e K))
abbrev a5V:List Str:=["row",d2b,"many"]
theorem b3J:C4 ["row",d2b,"many","wanted"] a5V (j8 a3F):=by walk_at "sc"
theorem b1D:Q5 ["row",d2b,"many","wanted"] (j8 a3F) (scF [ (".0",.local),(d1Z,.local),(d2s,.globalImplicit),("many",.free)]) d1Z := by walk_at "c0"
include T a0R in
theorem b4g(F:Fun K d2B d2B a3F f fd):N4 P w K mg base CX0 3 f fd a5V (a2O K):=fk F b3J fun _ _ _ _ _ _ hr nd=>c6 (A8 (O3 (M8 (l6 M6 rfl T.J9 u7 (C5 (c9 1) (Q9 rfl T.a0T A5 rfl))))) (d3 (o0 O6)) u5) (c6 (A9 3 nd (a4E (J4 (F8 hr) (u0 (c9 0) c7) C3) (Q8 (o6 c7)) (Q8 (C5 c7 c7)))) (d3 (o0 (W7 (a2a a4n (l6 A1 rfl T.T5 o8 (o6 (c9 1))) (c9 3) rfl) (Y6 (l6 (a3x rfl) rfl T.b9i a1O (o6 (O1 b1D rfl (F3 (c9 1)) (fun _ _ _ _ _=>J7) (fun _ _ _ _ _=>v7 a0R hr (C5 (c9 0) (c9 3)))))))))))
variable(a3N:F6 P w K mg base 3 d2B a5V (a2O K))
abbrev a3X:List Str:=[d2C,d2a]
theorem b0P:C4 [d2C,d2a] a3X (j8 a2l):=by walk_at "sc"
theorem a9m:a5i [d2C,d2a] (j8 a2l) (scF [ (".0",.local),("row",.local),(d2b,.local),(d2B,.globalImplicit),("len",.globalImplicit),(d2C,.free)]) "row" d2b := by walk_at "c2"
include T a0y a3N in
theorem b1n(F:Fun K d2D d2D a2l f fd):N4 P w K mg base CX0 4 f fd a3X (a1F K):=fk F b0P fun _ _ _ _ _ _ hr nd=>c6 (A8 (U6 (Z2 (O3 (M8 (l6 M6 rfl T.J9 u7 (C5 (c9 1) (Q9 rfl T.a0T A5 rfl))))) (W5 (J4 (a5F hr) (l6 A1 rfl T.T5 o8 (o6 (c9 1))) (l6 A1 rfl T.T5 o8 (o6 (c9 0))))))) (d3 a3f) u5) (d3 (J0 (v7 a0y hr (o6 (b0q a9m rfl (c1v rfl T.d0P (C5 (c9 0) (c9 1))) (fun _ _ _ _ _=>J7) (fun _ _ _ _ _=>v7 a3N hr (a5E (c9 0) (c9 1) (l6 A1 rfl T.T5 o8 (o6 (c9 2))))))))))
variable(a2o:F6 P w K mg base 4 d2D a3X (a1F K))
abbrev a8Y:List Str:=["begins","leads"]
theorem b6Z:C4 ["begins","leads","seen","waiting",d1Z] a8Y (j8 a8N):=by walk_at "sc"
include T in
theorem b7B(F:Fun K "reached" "reached" a8N f fd):N4 P w K mg base CX0 1 f fd a8Y (a3i K):=fk F b6Z fun _ _ _ _ _ _ hr nd=>c6 (A9 2 nd b0p) (c6 (A9 3 nd (W6 a0b rfl T.a0T A5 (o6 (c9 0)))) (c6 (a3e PassesOwn.never (J4 a4o (l6 A1 rfl T.T5 o8 (o6 (c9 3))) c7) (c6 (A9 4 nd (b0s u4 PySem.F.slot_list_pop PySem.F.type_list_pop b9q (c9 3))) (d3 (A8 (a0L hr (c9 4) (c9 2) rfl) (c6 (a2T hr (c9 2) (c9 4) O6) (d3 (J0 (X1 u4 a4C a4B a4F (c9 3) (o6 (u0 (c9 1) (c9 4))))))) u5)))) (d3 (o0 (c9 2)))))
variable(a4z:F6 P w K mg base 1 "reached" a8Y (a3i K))
abbrev b1f:List Str:=[d2a]
theorem b9K:C4 [d2a,"sources",d1Z,d2b,"target"] b1f (j8 a8c):=by walk_at "sc"
theorem b6j:Q5 [d2a,"sources",d1Z,d2b,"target"] (j8 a8c) (scF [(".0",.local),(d2b,.local)]) d2b := by walk_at "c0"
include T in
theorem c0i(F:Fun K "turned" "turned" a8c f fd):N4 P w K mg base CX0 1 f fd b1f (a6n K):=fk F b9K fun _ _ _ _ _ _ hr nd=>c6 (a2M (n:=1) nd rfl rfl b6j rfl (F3 (c9 0)) (fun _ _ _ _ _=>J7) (fun _ _ _ _ _=>D9 R0)) (c6 (M9 PassesOwn.never rfl (a4j rfl T.a2B (o6 (c9 0))) (a4k rfl (X2 (Q4 2 nd) (X2 (Q4 3 nd) a2U))) (d3 (M9 PassesOwn.never rfl (F3 (c9 3)) (Q4 4 nd) (d3 (J0 (X1 u4 C2 C1 M3 (u0 (c9 1) (c9 4)) (o6 (c9 2)))))))) (d3 (o0 (c9 1))))
variable(a8q:F6 P w K mg base 1 "turned" b1f (a6n K))
abbrev a4U:List Str:=[d2a]
theorem b1Z:C4 [d2a,"begun","ending",d1Z] a4U (j8 a4M):=by walk_at "sc"
include T a1n a4z a8q in
theorem b2h(F:Fun K d2E d2E a4M f fd):N4 P w K mg base CX0 2 f fd a4U (a2i K):=fk F b1Z fun _ _ _ _ _ _ hr nd=>c6 (A9 1 nd (v7 a4z hr (C5 (D9 (o6 c7)) (c9 0)))) (c6 (A9 2 nd (v7 a4z hr (C5 (v7 a1n hr (o6 (c9 0))) (v7 a8q hr (o6 (c9 0)))))) (d3 (M9 PassesOwn.never rfl (Q7 rfl T.a0F (o6 (l6 A1 rfl T.T5 o8 (o6 (c9 0))))) (Q4 3 nd) (d3 (A8 (U6 (Z2 (a0L hr (c9 3) (c9 1) rfl) (W5 (a0L hr (c9 3) (c9 2) rfl)))) (d3 a3f) u5)))))
variable(a2Q:F6 P w K mg base 2 d2E a4U (a2i K))
abbrev a5W:List Str:=[d1Y,d2C,d2a]
theorem b3K:C4 [d1Y,d2C,d2a,d2d] a5W (j8 a1t):=by walk_at "sc"
theorem b1G:Q5 [d1Y,d2C,d2a,d2d] (j8 a1t) (scF [ (".0",.local),("row",.local),("is_row",.globalImplicit)]) "row" := by walk_at "c0"
theorem b1F:Q5 [d1Y,d2C,d2a,d2d] (j8 a1t) (scF [ (".0",.local),(d2b,.local),("list",.globalImplicit)]) d2b := by walk_at "c0"
theorem b1E:Q5 [d1Y,d2C,d2a,d2d] (j8 a1t) (scF [(".0",.local),("row",.local)]) "row" := by walk_at "c0"
include T a1o E4 a1L a8t a0y a2o a2Q in
theorem b4h(F:Fun K d1z "Plan.__init__" a1t f fd):N4 P w K mg base CX0 6 f fd a5W (a0U K c):=fk F b3K fun _ _ _ _ _ _ hr nd=>c6 (J0 (v7 a1L hr (a5E (c9 1) c7 c7))) (c6 (J0 (v7 a0y hr (o6 (O1 b1G rfl (F3 (c9 1)) (fun _ _ _ _ _=>J7) (fun _ _ _ _ _=>v7 a8t hr (o6 (c9 0))))))) (c6 (J0 (v7 a2o hr (C5 (c9 1) (c9 2)))) (c6 (J0 (v7 a2Q hr (o6 (c9 2)))) (c6 (b0n (c9 0) (W6 a0b rfl T.a0T A5 (o6 (c9 1)))) (c6 (b0n (c9 0) (O1 b1F rfl (F3 (c9 2)) (fun _ _ _ _ _=>J7) (fun _ _ _ _ _=>W6 a0b rfl T.a0T A5 (o6 (c9 0))))) (c6 (b0n (c9 0) (O1 b1E rfl (F3 (c9 1)) (fun _ _ _ _ _=>J7) (fun _ _ _ _ _=>D9 R0))) (d3 (M9 PassesOwn.never rfl (F3 (v7 a1o hr (o6 (V3 (c9 0))))) (Q4 3 nd) (d3 (J0 (X1 u4 C2 C1 M3 (u0 (V3 (c9 0)) (a3g E4 hr (by decide) (c9 0) (o6 (c9 3)))) (o6 (c9 3)))))))))))))
variable(b1r:b6B P w K mg base 6 "Plan" c.K6 a5W (a0U K c))
abbrev c6S:List Str:=[d1A]
theorem c2k:C4 [d1A,d1C,"_law_drawn_here","_law_plans","_law_olds",d2l,d1F,"_law_handed",d2j,d1G,"_law_again"] c6S (j8 b5w):=by walk_at "sc"
theorem c3U:Q5 [d1A,d1C,"_law_drawn_here","_law_plans","_law_olds",d2l,d1F,"_law_handed",d2j,d1G,"_law_again"] (j8 b5w) (scF [ (".0",.local),(d1H,.local),("list",.globalImplicit)]) d1H := by walk_at "c0"
include T b8Z a8u a9n b4y b0e a6c a3M b1r in
theorem c8G(ck:a2I K c)(F:Fun K "law" "law" b5w f fd):N4 P w K mg base CX0 8 f fd c6S (b0I K):=by
 refine b4U F c2k (fun vs H Q E h=>h.1) (fun cdv A outer s H vs Q E hr h=>⟨c1S K c,?_,h.2 c ck⟩)
 have nd:=c2k.nd
 exact c6 (A9 1 nd (v7 b8Z hr (o6 (c9 0)))) (c6 (A9 2 nd (D9 (C5 (v7 a8u hr (o6 (c9 1))) (v7 a8u hr (o6 (c9 1)))))) (c6 (A9 3 nd (D9 R0)) (c6 (A9 4 nd (D9 R0)) (c6 (M9 PassesOwn.never rfl (F3 (c9 2)) (a4k rfl (X2 (Q4 5 nd) (X2 (Q4 6 nd) a2U))) (c6 (A9 7 nd (D9 (C5 (W6 a0b rfl T.a0T A5 (o6 (c9 5))) (O1 c3U rfl (F3 (c9 6)) (fun _ _ _ _ _=>J7) (fun _ _ _ _ _=>W6 a0b rfl T.a0T A5 (o6 (c9 0))))))) (c6 (J0 (X1 u4 C2 C1 M3 (c9 3) (o6 (c1z b1r hr (C5 (u0 (c9 7) c7) (u0 (c9 7) c7)))))) (c6 (A8 (T6 (a4m hr) (c9 7) (D9 (C5 (c9 5) (c9 6))) (a1J _)) (d3 (o0 O6)) u5) (c6 (A9 8 nd (v7 a9n hr (C5 (u0 (c9 3) (a7G a5B c7)) (l6 A1 rfl T.T5 o8 (o6 (c9 5)))))) (c6 (J0 (X1 u4 C2 C1 M3 (c9 4) (o6 (Q8 (C5 (c9 8) (v7 b4y hr (o6 (c9 8)))))))) (d3 (J0 (v7 b0e hr (a5E (c9 1) (u0 (c9 7) c7) (u0 (c9 7) c7))))))))))) (c6 (M9 PassesOwn.never rfl (c1w (Q8 (a5E c7 c7 c7))) (Q4 9 nd) (c6 (a4i (u0 (c9 2) (c9 9)) (a4k rfl (X2 (Q4 5 nd) (X2 (Q4 6 nd) a2U)))) (c6 (A8 (U6 (Z2 (O3 (M8 (v7 a6c hr (a5E (u0 (c9 3) (c9 9)) (c9 5) (c9 6))))) (W5 (T6 (a4m hr) (v7 a9n hr (C5 (u0 (c9 3) (c9 9)) (l6 A1 rfl T.T5 o8 (o6 (c9 5))))) (u0 (u0 (c9 4) (c9 9)) c7) (a1J _))))) (d3 (o0 O6)) u5) (d3 (A8 (O3 (M8 (v7 a3M hr (C5 (u0 (c9 3) (c9 9)) (l6 A1 rfl T.T5 o8 (o6 (c9 5))))))) (d3 (o0 O6)) u5))))) (c6 (A9 10 nd (c1z b1r hr (C5 (u0 (u0 (c9 2) c7) c7) (u0 (u0 (c9 2) c7) c7)))) (c6 (A8 (U6 (Z2 (T6 (a4m hr) (v7 a9n hr (C5 (c9 10) (l6 A1 rfl T.T5 o8 (o6 (u0 (u0 (c9 2) c7) c7))))) (u0 (u0 (c9 4) c7) c7) (a1J _)) (W5 (O3 (M8 (v7 a6c hr (a5E (c9 10) (u0 (u0 (c9 2) c7) c7) (u0 (u0 (c9 2) c7) c7)))))))) (d3 (o0 O6)) u5) (d3 (o0 (W7 (a2a (b2D hr) (u0 (u0 (c9 4) c7) c7) (u0 (u0 (c9 4) c7) c7) (a1J _)) (Y6 (a2a (b2D hr) (u0 (u0 (c9 4) c7) c7) (u0 (u0 (c9 4) c7) c7) (a1J _)))))))))))))
end
end
structure ClF(K:Fg)(y:Str)(C:Addr):Prop where
 y:D4 K A7 y=some (some (.ref C))
 pg:a2A K C Str.empty=true
 hd:a4b K C=true
 po:a9u K C=true
 sa:I0 K (.ref C) "__setattr__" = some (some (.builtin "object.__setattr__"))
 mm:a5v K C=true
 kc:Z4 K (.ref C)=true
abbrev pm0:Value:=(.str "law_oncedone_k26_plans_kept" 626)
abbrev pm1:Value:=(.str "oncedone.plans" 429)
abbrev pm2:Value:=(.str "oncedone.deeds" 396)
abbrev pm3:Value:=(.str "oncedone.ways" 564)
abbrev pm4:Value:=(.str "oncedone.words" 307)
abbrev pm5:Value:=(.str "oncedone.checks" 366)
theorem c9b{l:PySem.W.OpenLaw}{w:World}{K:Fg}{h:Heap}{mg:Str->Option Value}{fa:Addr}(X:K.In h)(G:h.Ns A7 mg)(hfa:mg "law" = some (.ref fa))
  (y_Plan:ClF K "Plan" 290)
  (a0B:I0 K (.ref 290) "entries" = some none)
  (L7:I0 K (.ref 290) d2a = some none)
  (a0g:I0 K (.ref 290) d2C = some none)
  (y_DEED_KINDS:D4 K A7 "DEED_KINDS" = some (some (.ref 104))) (l_DEED_KINDS:K.lookup 104=some ⟨.type "tuple",none,.seq (([(.str "plus" 317),(.str "minus" 318),(.str "times" 319),(.str "less" 320),(.str "same" 321)]:List Value).toArray) 0,#[]⟩)
  (y_FIRST_STEP:D4 K A7 "FIRST_STEP" = some (some (.ref 194))) (l_FIRST_STEP:K.lookup 194=some ⟨.type "tuple",none,.seq (([(.int (-1) 432),(.int (0) 433)]:List Value).toArray) 0,#[]⟩)
  (x0:FnG K d1B b8A 342 pm0 (.ref 341))
  (x1:FnG K d1E b7g 349 pm0 (.ref 348))
  (x2:FnG K d1I c2p 403 pm0 (.ref 402))
  (x3:FnG K d1O a4s 408 pm0 (.ref 407))
  (x4:FnG K d1P b3P 361 pm0 (.ref 360))
  (x5:FnG K d1R b3O 368 pm0 (.ref 367))
  (x6:FnG K d1S b3M 375 pm0 (.ref 374))
  (x7:FnG K d1T a8O 382 pm0 (.ref 381))
  (x8:FnG K d1U b7k 389 pm0 (.ref 388))
  (x9:FnG K d1W c2m 396 pm0 (.ref 395))
  (x10:FnG K d1X a8e 413 pm0 (.ref 412))
  (x11:FnM K 290 "steps_into" "Plan.steps_into" a1H 266 pm1 (.ref 265))
  (x12:FnG K d2c a4K 233 pm1 (.ref 232))
  (x13:FnM K 290 "steps" "Plan.steps" a4Q 252 pm1 (.ref 251))
  (x14:FnM K 290 "leads_to" "Plan.leads_to" a2F 259 pm1 (.ref 258))
  (x15:FnG K d2e a3U 186 pm2 (.ref 185))
  (x16:FnG K d2f a7d 193 pm2 (.ref 192))
  (x17:FnG K "set_by" b0T 179 pm2 (.ref 178))
  (x18:FnM K 290 "names" "Plan.names" a4R 287 pm1 (.ref 286))
  (x19:FnG K "deed_of" a8S 172 pm2 (.ref 171))
  (x20:FnM K 290 "deeds" "Plan.deeds" a4S 280 pm1 (.ref 279))
  (x21:FnG K d2g a4J 209 pm1 (.ref 208))
  (x22:FnM K 290 "stops" "Plan.stops" a4P 273 pm1 (.ref 272))
  (x23:FnG K d2i b0S 418 pm0 (.ref 417))
  (x24:FnG K d2k b0W 423 pm0 (.ref 422))
  (x25:FnG K d2m b3N 444 pm0 (.ref 443))
  (x26:FnG K d2n b3L 356 pm0 (.ref 355))
  (x27:FnG K d2o b0V 437 pm0 (.ref 436))
  (x28:FnG K "traced" b0R 325 pm3 (.ref 324))
  (x29:FnG K "way_to" b0Q 318 pm3 (.ref 317))
  (x30:FnG K d2r a7e 111 pm4 (.ref 110))
  (x31:FnG K d2s a7g 151 pm5 (.ref 150))
  (x32:FnG K d2t a8P 301 pm3 (.ref 300))
  (x33:FnG K "is_way" a5P 306 pm3 (.ref 305))
  (x34:FnG K d2u a3E 311 pm3 (.ref 310))
  (x35:FnG K d2v a7h 337 pm3 (.ref 336))
  (x36:FnG K "way_on" a8b 330 pm3 (.ref 329))
  (x37:FnG K d2w a5O 430 pm0 (.ref 429))
  (x38:FnG K d2x a3l 158 pm5 (.ref 157))
  (x39:FnG K "is_name" a6s 123 pm4 (.ref 122))
  (x40:FnG K d2y a7f 118 pm4 (.ref 117))
  (x41:FnG K d2z a4L 130 pm4 (.ref 129))
  (x42:FnG K "is_deed" a8Q 137 pm4 (.ref 136))
  (x43:FnG K "is_row" b0U 144 pm4 (.ref 143))
  (x44:FnG K d2A a4N 165 pm5 (.ref 164))
  (x45:FnG K d2B a3F 199 pm1 (.ref 198))
  (x46:FnG K d2D a2l 204 pm1 (.ref 203))
  (x47:FnG K "reached" a8N 221 pm1 (.ref 220))
  (x48:FnG K "turned" a8c 214 pm1 (.ref 213))
  (x49:FnG K d2E a4M 228 pm1 (.ref 227))
  (x50:FnM K 290 d1z "Plan.__init__" a1t 245 pm1 (.ref 244))
  (x51:FnG K "law" b5w 449 pm0 (.ref 448))
  (z_abs:D4 K A7 "abs" = some none)
  (z_all:D4 K A7 "all" = some none)
  (z_any:D4 K A7 "any" = some none)
  (z_bool:D4 K A7 "bool" = some none)
  (z_dict:D4 K A7 "dict" = some none)
  (z_enumerate:D4 K A7 "enumerate" = some none)
  (z_int:D4 K A7 "int" = some none)
  (z_isinstance:D4 K A7 "isinstance" = some none)
  (z_len:D4 K A7 "len" = some none)
  (z_list:D4 K A7 "list" = some none)
  (z_min:D4 K A7 "min" = some none)
  (z_range:D4 K A7 "range" = some none)
  (z_set:D4 K A7 "set" = some none)
  (z_sorted:D4 K A7 "sorted" = some none)
  (z_str:D4 K A7 "str" = some none)
  (z_tuple:D4 K A7 "tuple" = some none)
  (z_zip:D4 K A7 "zip" = some none)
  (y_BOUND:D4 K A7 "BOUND" = some (some (.int (1000000000000) 309)))
  (y_FIGURES:D4 K A7 "FIGURES" = some (some (.str "0123456789" 313)))
  (y_LETTERS:D4 K A7 "LETTERS" = some (some (.str "abcdefghijklmnopqrstuvwxyz" 311)))
  (y_LONGEST_NAME:D4 K A7 "LONGEST_NAME" = some (some (.int (8) 315)))
  (y_MOST:D4 K A7 "MOST" = some (some (.int (400) 368)))
  : ∃fd:a0G,(∀(s:i8) (v:Value),c1s s fd ⟨[v],[]⟩ [(d1A,v)])/\∀base:Heap,K.In base->base.Ns A7 mg->N4 l.prog w K mg base CX0 8 fa fd [d1A] (b0I K):=by
 have e:=hfa.symm.trans (Y4 X G x51.a)
 cases e
 let c:Cn:=⟨290,104,194⟩
 have ck:a2I K c:=⟨⟨y_Plan.pg,y_Plan.hd,y_Plan.po,y_Plan.sa⟩,a0B,L7,a0g,fun H=>.inr ⟨_,([(.str "plus" 317),(.str "minus" 318),(.str "times" 319),(.str "less" 320),(.str "same" 321)]:List Value).toArray,0,l_DEED_KINDS,rfl,rfl,by decide,.cons ⟨_,rfl⟩ ( .cons ⟨_,rfl⟩ ( .cons ⟨_,rfl⟩ ( .cons ⟨_,rfl⟩ ( .cons ⟨_,rfl⟩ ( .nil)))))⟩,fun H=>.inr ⟨_,([(.int (-1) 432),(.int (0) 433)]:List Value).toArray,0,l_FIRST_STEP,rfl,rfl,by decide,.cons ⟨_,rfl⟩ ( .cons ⟨_,rfl⟩ ( .nil))⟩⟩
 have T:Txt K mg c:=⟨D6 X G z_abs,D6 X G z_all,D6 X G z_any,D6 X G z_bool,D6 X G z_dict,D6 X G z_enumerate,D6 X G z_int,D6 X G z_isinstance,D6 X G z_len,D6 X G z_list,D6 X G z_min,D6 X G z_range,D6 X G z_set,D6 X G z_sorted,D6 X G z_str,D6 X G z_tuple,D6 X G z_zip,⟨_,Y4 X G y_BOUND,⟨_,rfl⟩⟩,⟨_,Y4 X G y_DEED_KINDS,rfl⟩,⟨_,Y4 X G y_FIGURES,⟨_,rfl⟩⟩,⟨_,Y4 X G y_FIRST_STEP,rfl⟩,⟨_,Y4 X G y_LETTERS,⟨_,rfl⟩⟩,⟨_,Y4 X G y_LONGEST_NAME,⟨_,rfl⟩⟩,⟨_,Y4 X G y_MOST,⟨_,rfl⟩⟩⟩
 refine⟨fdM "law" "law" b5w pm0 (.ref 448),fun s v=>.of_eq rfl,fun base _ _=>?_⟩
 have b8Z:=mkC X G x0 (c8H (P:=l.prog) (w:=w) (base:=base) T x0.i.F) fun _ _ _ _ _ _ _=>rfl
 have J1:=mkC X G x1 (c5I (P:=l.prog) (w:=w) (base:=base) T x1.i.F) fun _ _ _ _ _ _ _ _=>rfl
 have b8Y:=mkC X G x2 (c8F T J1 x2.i.F) fun _ _ _ _ _ _ _ _=>rfl
 have a8s:=mkC X G x3 (c0l (P:=l.prog) (w:=w) (base:=base) T x3.i.F) fun _ _ _ _ _ _ _=>rfl
 have b4w:=mkC X G x4 (c5J T J1 x4.i.F) fun _ _ _ _ _ _ _=>rfl
 have b0f:=mkC X G x5 (c3k T J1 b4w x5.i.F) fun _ _ _ _ _ _ _=>rfl
 have b0d:=mkC X G x6 (c3i T J1 x6.i.F) fun _ _ _ _ _ _ _=>rfl
 have a0D:=mkC X G x7 (b7C T J1 b0d x7.i.F) fun _ _ _ _ _ _ _ _=>rfl
 have b4x:=mkC X G x8 (c5K T J1 a0D x8.i.F) fun _ _ _ _ _ _ _ _=>rfl
 have b8X:=mkC X G x9 (c8E T J1 a0D x9.i.F) fun _ _ _ _ _ _ _ _ _ _=>rfl
 have a8u:=mkC X G x10 (c3l T J1 b8Y a8s b0f b4x b8X x10.i.F) fun _ _ _ _ _ _ _=>rfl
 have T0:=mkM x11 ck.L3 (a7q (P:=l.prog) (w:=w) (base:=base) T x11.i.F) fun _ _ _ _ _ _ _ _=>rfl
 have a1o:=mkC X G x12 (b5H (P:=l.prog) (w:=w) (base:=base) T x12.i.F) fun _ _ _ _ _ _ _=>rfl
 have a1M:=mkM x13 ck.L3 (b2k T a1o x13.i.F) fun _ _ _ _ _ _ _=>rfl
 have E4:=mkM x14 ck.L3 (a9e (P:=l.prog) (w:=w) (base:=base) T x14.i.F) fun _ _ _ _ _ _ _ _=>rfl
 have a2n:=mkC X G x15 (b1m (P:=l.prog) (w:=w) (base:=base) T x15.i.F) fun _ _ _ _ _ _ _=>rfl
 have a5e:=mkC X G x16 (b5I T a2n x16.i.F) fun _ _ _ _ _ _ _=>rfl
 have a6a:=mkC X G x17 (c0k (P:=l.prog) (w:=w) (base:=base) T x17.i.F) fun _ _ _ _ _ _ _=>rfl
 have a2R:=mkM x18 ck.L3 (b2l T a5e a6a x18.i.F) fun _ _ _ _ _ _ _=>rfl
 have a6A:=mkC X G x19 (b7G (P:=l.prog) (w:=w) (base:=base) T x19.i.F) fun _ _ _ _ _ _ _=>rfl
 have a2S:=mkM x20 ck.L3 (b2m T a6A x20.i.F) fun _ _ _ _ _ _ _=>rfl
 have a1n:=mkC X G x21 (b5G (P:=l.prog) (w:=w) (base:=base) T x21.i.F) fun _ _ _ _ _ _ _=>rfl
 have a0c:=mkM x22 ck.L3 (b2j T a1n x22.i.F) fun _ _ _ _ _ _ _=>rfl
 have a9n:=mkC X G x23 (c5H T T0 a1M E4 a2R a2S a0c x23.i.F) fun _ _ _ _ _ _ _ _=>rfl
 have b4y:=mkC X G x24 (c5L (P:=l.prog) (w:=w) (base:=base) T x24.i.F) fun _ _ _ _ _ _ _=>rfl
 have b0e:=mkC X G x25 (c3j T J1 x25.i.F) fun _ _ _ _ _ _ _ _ _=>rfl
 have b0c:=mkC X G x26 (c3h (P:=l.prog) (w:=w) (base:=base) T x26.i.F) fun _ _ _ _ _ _ _=>rfl
 have a6c:=mkC X G x27 (c0o T b0c x27.i.F) fun _ _ _ _ _ _ _ _ _=>rfl
 have a8r:=mkC X G x28 (c0j (P:=l.prog) (w:=w) (base:=base) T x28.i.F) fun _ _ _ _ _ _ _ _=>rfl
 have a8o:=mkC X G x29 (c0g T a8r x29.i.F) fun _ _ _ _ _ _ _ _=>rfl
 have Z1:=mkC X G x30 (b5J (P:=l.prog) (w:=w) (base:=base) T x30.i.F) fun _ _ _ _ _ _ _=>rfl
 have a0R:=mkC X G x31 (b5L T Z1 x31.i.F) fun _ _ _ _ _ _ _ _=>rfl
 have a6y:=mkC X G x32 (b7D T Z1 a0R x32.i.F) fun _ _ _ _ _ _ _ _=>rfl
 have a6b:=mkC X G x33 (c0m T E4 a6y x33.i.F) fun _ _ _ _ _ _ _ _=>rfl
 have a2y:=mkC X G x34 (b4f T E4 x34.i.F) fun _ _ _ _ _ _ _ _=>rfl
 have a5g:=mkC X G x35 (b5M T E4 x35.i.F) fun _ _ _ _ _ _ _ _ _=>rfl
 have a8p:=mkC X G x36 (c0h T T0 a0c a5g x36.i.F) fun _ _ _ _ _ _ _ _=>rfl
 have a3M:=mkC X G x37 (b4e T a8o a6b a2y a8p x37.i.F) fun _ _ _ _ _ _ _ _=>rfl
 have a1L:=mkC X G x38 (a9Q (P:=l.prog) (w:=w) (base:=base) T x38.i.F) fun _ _ _ _ _ _ _ _ _=>rfl
 have a0V:=mkC X G x39 (b7E (P:=l.prog) (w:=w) (base:=base) T x39.i.F) fun _ _ _ _ _ _ _=>rfl
 have a5f:=mkC X G x40 (b5K T Z1 x40.i.F) fun _ _ _ _ _ _ _=>rfl
 have X9:=mkC X G x41 (b2g T a0V a5f x41.i.F) fun _ _ _ _ _ _ _=>rfl
 have a6z:=mkC X G x42 (b7F T X9 x42.i.F) fun _ _ _ _ _ _ _=>rfl
 have a8t:=mkC X G x43 (c0n T a0V X9 a6z x43.i.F) fun _ _ _ _ _ _ _=>rfl
 have a0y:=mkC X G x44 (b2i (P:=l.prog) (w:=w) (base:=base) T x44.i.F) fun _ _ _ _ _ _ _=>rfl
 have a3N:=mkC X G x45 (b4g T a0R x45.i.F) fun _ _ _ _ _ _ _ _ _=>rfl
 have a2o:=mkC X G x46 (b1n T a0y a3N x46.i.F) fun _ _ _ _ _ _ _ _=>rfl
 have a4z:=mkC X G x47 (b7B (P:=l.prog) (w:=w) (base:=base) T x47.i.F) fun _ _ _ _ _ _ _ _=>rfl
 have a8q:=mkC X G x48 (c0i (P:=l.prog) (w:=w) (base:=base) T x48.i.F) fun _ _ _ _ _ _ _=>rfl
 have a2Q:=mkC X G x49 (b2h T a1n a4z a8q x49.i.F) fun _ _ _ _ _ _ _=>rfl
 have b1r:=mkK X G x50 y_Plan.y y_Plan.mm y_Plan.kc (b4h T a1o E4 a1L a8t a0y a2o a2Q x50.i.F) fun _ _ _ _ _ _ _ _ _=>rfl
 exact c8G T b8Z a8u a9n b4y b0e a6c a3M b1r ck x51.i.F
theorem walk{l:PySem.W.OpenLaw}{q:C9}{loose:List Str}{XP:(Str->Option Value)->Heap->Prop}{YP:World->Heap->Prop}{d:DefRec}{K:Params->Fg}(hn:l.most=some 63)(hdf:d.params.defaults=[])
  (hY:∀(w:World) (h:Heap),YP w h->(K w.params).In h)
  (F:∀(w:World) (mg:Str->Option Value) (fa:Addr) (h:Heap),(K w.params).In h->h.Ns A7 mg->mg d.name=some (.ref fa) ->
   ∃fd:a0G,(∀(s:i8) (u:Value),c1s s fd ⟨[u],[]⟩ [(d1A,u)])/\∀base:Heap,(K w.params).In base->base.Ns A7 mg->N4 l.prog w (K w.params) mg base CX0 8 fa fd [d1A] (b0I (K w.params))) :
  PySem.W.WalkO q loose XP YP l.row.toRowW d [] (fun f vs=>b4G f vs):=
 L2.c4w (n:=63) (k:=8) (x := d1A) (CX:=fun _=>CX0) (sp:=fun w=>b0I (K w.params)) hn (by decide) hdf ⟨rfl,by decide,by decide⟩ hY F (fun _ _ a ns hl hO hS=>RD.law_reading _ hl hO hS) fun _ _ _ _ _ z=>z
end PR
open PySem PySem.W PyProof.Rows
set_option maxRecDepth 100000 in
set_option maxHeartbeats 0 in
theorem PySem.Challenge.cw_oncedone_k26_plans_kept_holds : PySem.Challenge.rw_oncedone_k26_plans_kept.Holds := by
 refine HD.fin fun d hd hdf=>PR.walk (l:=HD.row) (K:=HD.K) rfl hdf (fun w h Y=>PySem.W.kIn_of Y) ?F
 intro w mg fa h KX G hmg
 rw[hd]at hmg
 apply PR.c9b KX G hmg <;> first | kernel_rfl | exact⟨⟨by kernel_rfl,by kernel_rfl,by kernel_rfl⟩,by kernel_rfl⟩ | exact⟨⟨by kernel_rfl,by kernel_rfl,by kernel_rfl⟩,by kernel_rfl,by kernel_rfl⟩ | exact⟨by kernel_rfl,by kernel_rfl,by kernel_rfl,by kernel_rfl,by kernel_rfl,by kernel_rfl,by kernel_rfl⟩
